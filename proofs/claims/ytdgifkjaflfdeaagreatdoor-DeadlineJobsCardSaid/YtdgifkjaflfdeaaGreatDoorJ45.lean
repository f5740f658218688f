/- Parts of the proof. -/
import Derived.Test.YtdgifkjaflfdeaaGreatDoorJ44
set_option linter.all false
set_option maxRecDepth 100000
set_option maxHeartbeats 16000000
namespace Go.Proofs.YtdgifkjaflfdeaaGreatDoor.syn
open Tryz
open Go.RowKit Go.Sort Go.Shelf
variable {w W W':World}{t:TypeId}{n s bt base b o:Nat}{v:Value}
def S16(b0 b1 bt ot t bn on k:Nat)(nN cn T ct:Nat)(bud:Int)(w':World):Prop:=w'.cell? ⟨b0,1,none⟩=some (.slice (some ⟨bn,on,none⟩) nN cn)/\w'.cell? ⟨b0,2,none⟩=some (.slice (some ⟨bt,ot,none⟩) T ct)/\w'.cell? ⟨b1,0,none⟩=some (.int .i64 (t:Int))/\w'.cell? ⟨bt,ot+t*4,none⟩=some (.int .i64 (k:Int))/\w'.cell? ⟨bn,on+k*10+2,none⟩=some (.int .i64 bud)
def jv(j:YK):Value:=.agg #[.int .i64 j.t,.int .i64 j.n,.int .i64 j.r,.int .i64 j.d,.slice j.na j.nl j.nc]
theorem ux(f:FD)(A an z C:Option Addr)(H v y cl:Nat)(O:FAP w f A an z C)(j:YK)(t k:Nat)(m:Int)(Z:j.t=(t:Int))(ht:t<f.tasks.length)(hk:(tkO f t).node=(k:Int))(R:k<f.nods.length)(hb:f.nods[k].bud=m) :
  Calls prog 54 #[fv f A an z C H v y cl,jv j] w fun x w'=>x=.returned (.int .i64 m)/\RowKit.Below w.1.size w w':=by
 have T:=O.lens;have X:=hid O;clear O;unfold fv jv;obtain⟨q,g⟩:∃q,(w.alloc (.cells #[.slice A f.ins.length H,.slice an f.nods.length v,.slice z f.tasks.length y,.slice C f.tells.length cl] 35)).alloc (.cells #[.int .i64 j.t,.int .i64 j.n,.int .i64 j.r,.int .i64 j.d,.slice j.na j.nl j.nc] 128)=q:=⟨_,rfl⟩;have I:RowKit.Below w.1.size w q:=by rw[<-g];exact bq
 have F:q.1[w.1.size]?=some (.cells #[.slice A f.ins.length H,.slice an f.nods.length v,.slice z f.tasks.length y,.slice C f.tells.length cl] 35 (0,0)):=by rw[<-g];exact(RowKit.Below.heap_alloc _ _ _ (by simp)).trans (Yx w _)
 have G:q.1[w.1.size+1]?=some (.cells #[.int .i64 j.t,.int .i64 j.n,.int .i64 j.r,.int .i64 j.d,.slice j.na j.nl j.nc] 128 (0,0)):=by
  rw[<-g];have:=Yx (w.alloc (.cells #[.slice A f.ins.length H,.slice an f.nods.length v,.slice z f.tasks.length y,.slice C f.tells.length cl] 35)) (.cells #[.int .i64 j.t,.int .i64 j.n,.int .i64 j.r,.int .i64 j.d,.slice j.na j.nl j.nc] 128)
  rwa [Zu] at this
 obtain⟨⟨x0,x1,x2,x3⟩,xf⟩:=Yy F;have J:=Z6 q (w.1.size+1) 0 _ _ _ G;replace J:q.cell? ⟨w.1.size+1,0,none⟩=some (.int .i64 (t:Int)):=by rw[J,Z];rfl
 obtain⟨bt,ot,ta,tc,L,E,U,_⟩:=zN (X.o.below I).tasks ht;obtain⟨Y,on,M,D,V⟩:=Zdp (X.o.below I).nods R;rw[hk] at U;rw[hb] at V;subst L M;have KS1:=hid (show S16 w.1.size (w.1.size+1) bt ot t Y on k f.nods.length v f.tasks.length y m q.drew from ⟨x1,x2,J,U,V⟩);have HB:=hid I;have t0:(0:Int)<=(t:Int):=oq;have t1:(t:Int)<(f.tasks.length:Int):=oq;have k0:(0:Int)<=(k:Int):=oq;have k1:(k:Int)<(f.nods.length:Int):=oq;clear F G x0 x1 x2 x3 xf J U V I E D Z ht hk hb;go_enter func54,ntmps54;go_upto_region 1 with fail
 first|rw[g]|skip
 clear g;refine ZO (S:=S16 w.1.size (w.1.size+1) bt ot t Y on k f.nods.length v f.tasks.length y m) kq (by first|with_reducible exact KS1.o) (fun hH=>?_);refine tk 0 hH ?_;refine tk 1 hH ?_;refine tk 2 hH ?_;refine tk 3 hH ?_;refine tk 4 hH ?_;refine tk 5 hH ?_;refine tk 6 hH ?_;refine tk 7 hH ?_;refine tk 8 hH ?_;refine tk 9 hH ?_;refine tk 10 hH ?_;refine tk 11 hH ?_;refine tk 12 hH ?_;refine Zy kq ?_ _;go_wp2;go_ret;exact⟨rfl,HB.o.drew⟩
def fdA:FD:=⟨[(4,3)],[],[],[⟨4,3,⟨0,[]⟩,2⟩]⟩
theorem ZaX:Y3 fdA=true:=by decide +kernel
theorem Kt(b:Nat)(p q:Int)(h:w.1[b]?=some (.cells #[.int .i64 p,.int .i64 q] 50 (0,0))) :
  Calls prog 99 #[.slice (some ⟨b,0,none⟩) 1 1] w fun x w'=>x=.returned (.int .i64 q)/\w'=w:=by
 obtain⟨⟨f,g⟩,_⟩:=YL h;have hb:=Zb h;clear h;go_enter func99,ntmps99;go_wp2;go_rounds 1;go_wp2;go_ret;exact⟨rfl,rfl⟩
theorem vp(v:Value)(a b c d:Value)(f:v=.agg #[a,b,c,d]):Calls prog 97 #[v] w fun x w'=>x=.returned (.func (.func 168) #[] #[.pointer (some ⟨w.1.size,0,none⟩)])/\RowKit.Below w.1.size w w'/\w'.1.size=w.1.size+1/\w'.1[w.1.size]?=some (.cells #[a,b,c,d] 35 (0,0)):=by
 subst f;go_enter func97,ntmps97;go_wp2;go_ret;exact⟨rfl,bq,by simp,Yx w _⟩
def Zhw(n:Nat)(x:Ending)(w':World):Prop:=∃b,x=.returned (.slice (some ⟨b,0,none⟩) 1 1)/\n<=b/\w'.1[b]?=some (.cells #[.int .i64 4,.int .i64 3] 50 (0,0))
theorem xw(m q:Option Addr)(J:FAP w fdA m none none q) :
  Calls prog 98 #[fv fdA m none none q 1 0 0 1,.agg #[.int .i64 0,.slice none 0 0]] w fun x w'=>Zhw w.1.size x w'/\RowKit.Below w.1.size w w':=by
 have E:=hid (fun W (hb:RowKit.Below w.1.size w W)=>UJ (w:=W) fdA m none none q 1 0 0 1 (J.below hb) 0 (by unfold I64;omega));rw[show Jj fdA 0=some (4,3) from rfl] at E;unfold fv Kw fdA at *;simp only[Zp,Zw,ZD,Z8,Option.isSome_some] at E;simp only[Zp,Zw,ZD];clear J;obtain⟨F,f⟩:=ez ((w.alloc (.cells #[.slice m 1 1,.slice none 0 0,.slice none 0 0,.slice q 1 1] 35)).alloc (.cells #[.int .i64 0,.slice none 0 0] 92));have I:RowKit.Below w.1.size w F:=by rw[<-f];exact bq
 have z:F.1[w.1.size]?=some (.cells #[.slice m 1 1,.slice none 0 0,.slice none 0 0,.slice q 1 1] 35 (0,0)):=by rw[<-f];exact(RowKit.Below.heap_alloc _ _ _ (by simp)).trans (Yx w _)
 have j:F.1[w.1.size+1]?=some (.cells #[.int .i64 0,.slice none 0 0] 92 (0,0)):=by
  rw[<-f];have:=Yx (w.alloc (.cells #[.slice m 1 1,.slice none 0 0,.slice none 0 0,.slice q 1 1] 35)) (.cells #[.int .i64 0,.slice none 0 0] 92)
  rwa [Zu] at this
 obtain⟨⟨O,R,T,U⟩,V⟩:=Yy z;obtain⟨⟨X,Y⟩,Z⟩:=YL j;have y:=Zb j;have L:=hid j;have HB:=hid I;clear z j I;go_enter func98,ntmps98;go_upto_region 1 with fail
 first|rw[f]|skip
 clear f;go_upto_region 3 with (go_at_call 169;refine(E.o _ HB.o).mono ?_;rintro x v ⟨rfl,hb3⟩;have HB3:=hid (HB.o.trans (hb3.mono HB.o.size));have G:w.1.size+1<v.1.size:=Zd y hb3.size;have C:=hid ((hb3.block _ y).trans L.o);clear hb3 O R T U V X Y Z)
 obtain⟨H,g⟩:=ez ((v.alloc (.cells #[.int .i64 4,.int .i64 3] 50)).alloc (.cells #[.int .i64 4,.int .i64 3] 50));have hb4:RowKit.Below v.1.size v H:=by rw[<-g];exact bq
 have A:H.1[v.1.size+1]?=some (.cells #[.int .i64 4,.int .i64 3] 50 (0,0)):=by
  rw[<-g];have:=Yx (v.alloc (.cells #[.int .i64 4,.int .i64 3] 50)) (.cells #[.int .i64 4,.int .i64 3] 50)
  rwa [Zu] at this
 rw[g];clear g;obtain⟨⟨z0,z1⟩,zf⟩:=YL ((hb4.block _ G).trans C.o);have HB4:=hid (HB3.o.trans (hb4.mono HB3.o.size));have D:=hid A;have M:=HB3.o.size;clear hb4 A;go_wp2;go_rounds 1;go_wp2;go_ret;exact⟨⟨_,rfl,oq,D.o⟩,HB4.o⟩
open Go.RowKit Go.Shelf
attribute [local go_sem] ZT
def gQ(W:World)(b:Nat)(ai al:Option Addr):Prop:=W.1[b]?=some (.cells #[.slice ai 1 1,.slice none 0 0,.slice none 0 0,.slice al 1 1] 35 (0,0))
def yc(W:World)(b:Nat):Prop:=W.1[b]?=some (.cells #[.int .i64 4,.int .i64 3,.int .i64 0,.slice none 0 0,.int .i64 2] 94 (0,0))
theorem ZgC(ai:Option Addr)(A bt n l:Nat)(J:List Unit->World->Prop)(W:World)(T:OwnFrom W.1.size J)
  (V:∀m pre (x:Unit) W1,J pre W1->pre=[]->YieldAt Fence.wide m prog l #[.agg #[.int .i64 0,.slice none 0 0],.int .i64 2] W1 fun e W'=>e=.returned (.bool true)/\J (pre++[x]) W'/\KD A bt W1 W')
  (hb1:gQ W A ai (some ⟨bt,0,none⟩))(y:yc W bt)(R:J [] W) :
  CallsIn Fence.wide n prog 168 #[.func (.yield l) #[] #[],.pointer (some ⟨A,0,none⟩)] W fun e W'=>(∃v,e=.returned v)/\∃xs,xs=[()]/\J xs W':=by
 have HY:=hid V;have HB1:=hid hb1;have C:=hid y;have D:=hid R;have Z:=hid T;obtain⟨⟨H,I,L,M⟩,O⟩:=Yy hb1;clear V hb1 R T y;refine callsIn_of_wp func168 rfl trivial ?_ rfl;simp only[ntmps168,ZI,Zp,Zw,Nat.reduceAdd,Nat.reduceSub,ZF,ZE,ZL,ZJ,ZM,ZC];gi_wp2;clear H I L M O;gi_loopw [12] (fun v wr=>Hid (v=.int .i64 0/\wr=W)) (fun _ _=>0)
 case atStart=>exact⟨rfl,rfl⟩
 obtain⟨rfl,rfl⟩:=hrel.o;clear hrel;obtain⟨w0,rfl⟩:=ey wr;obtain⟨⟨H,I,L,M⟩,O⟩:=Yy HB1.o;gi_wp2;clear H I L M O;gi_loopw [32] (fun v wq=>Hid (∃k:Nat,v=.int .i64 (k:Int)/\k<=1/\J (List.replicate k ()) wq/\KD A bt w0 wq)) (fun i _=>1-(intOf i).toNat)
 case atStart=>exact⟨0,rfl,Zk _,D.o,KD.refl _ _ _⟩
 obtain⟨k,rfl,hk,X,f⟩:=hrel.o;clear hrel;have q:wr.1[bt]?=_:=f bt (.inr rfl) _ C.o rfl;obtain⟨⟨z0,z1,z2,z3,z4⟩,zf⟩:=V9 q;have aa:=Zb q;have G:=hid f;have g:=hid X;clear q f X;by_cases hc:k=0
 .subst hc;obtain⟨fn,Y,assign,body,hy,U⟩:=HY.o (n-1) [] () (wr.alloc (.cells #[.int .i64 4,.int .i64 3,.int .i64 0,.slice none 0 0,.int .i64 2] 94)) (JD Z.o g.o bq) rfl;have HR:=hid U;clear U;simp only[Int.natCast_zero] ;gi_wp2;refine⟨(fun h=>by cases h),HR.o.mono ?_⟩;rintro e W1 ⟨rfl,j,z⟩;have E:=hid j;have F:=hid ((G.o.trans (KD.of_below (W:=wr) (W':=wr.alloc (.cells #[.int .i64 4,.int .i64 3,.int .i64 0,.slice none 0 0,.int .i64 2] 94)) bq)).trans z);clear j z hy;gi_wp2;go_roundw
  case rel=>exact⟨1,by go_num,oq,E.o,F.o⟩
  simp[intOf]
 obtain rfl:k=1:=oq;gi_wp2;go_end0;exact⟨⟨_,rfl⟩,_,rfl,g.o⟩
theorem Zfc(ai:Option Addr)(b1 bt n:Nat)(w:World)(hb1:gQ w b1 ai (some ⟨bt,0,none⟩))(hbt:yc w bt) :
  Zem Fence.wide n prog 168 #[.pointer (some ⟨b1,0,none⟩)] (fun _:Unit=>#[.agg #[.int .i64 0,.slice none 0 0],.int .i64 2]) (fun _=>True) (fun pre _ _=>pre=[]) (KD b1 bt) (fun xs=>xs=[()]) w:=fun l J W hW hJ _ hY h0 =>
 ZgC ai b1 bt n l J W hJ (fun m pre x W1 hj ho=>YieldAt.deep rfl m (hY pre x W1 hj ho)) ((hW.block _ (Zb hb1)).trans hb1) ((hW.block _ (Zb hbt)).trans hbt) h0
attribute [local go_sem] ZT
theorem Zf0{t:Array Value}(h:t.size=46):t=#[slt t 0,slt t 1,slt t 2,slt t 3,slt t 4,slt t 5,slt t 6,slt t 7,slt t 8,slt t 9,slt t 10,slt t 11,slt t 12,slt t 13,slt t 14,slt t 15,slt t 16,slt t 17,slt t 18,slt t 19,slt t 20,slt t 21,slt t 22,slt t 23,slt t 24,slt t 25,slt t 26,slt t 27,slt t 28,slt t 29,slt t 30,slt t 31,slt t 32,slt t 33,slt t 34,slt t 35,slt t 36,slt t 37,slt t 38,slt t 39,slt t 40,slt t 41,slt t 42,slt t 43,slt t 44,slt t 45]:=J4 h
theorem EE:(prog.info? 50).map (fun i=>(i.zero,i.size,i.bytes))=some (some (.agg #[.int .i64 0,.int .i64 0]),2,16):=by kernel_rfl
def WI(n s:Nat)(ai:Option Addr)(bt:Nat)(w:World)(pre:List Unit)(W:World):Prop :=
 Boxed W s 2 (.int .i64 (if pre.length=0 then 0 else 5))/\Boxed W (s+1) 2 (.int .i64 (if pre.length=0 then 1 else 4))/\gQ W n ai (some ⟨bt,0,none⟩)/\Boxed W (n+1) 2 (.int .i64 0)/\Boxed W (n+1+1) 2 (.int .i64 0)/\Boxed W (n+1+1+1) 38 (.int .i64 0)/\RowKit.Below w.1.size w W
theorem WI.below{f:Option Addr}{pre:List Unit}(h:WI n s f bt w pre W)(hb:RowKit.Below W.1.size W W'):WI n s f bt w pre W':=by
 obtain⟨g,j,m,q,v,x,y⟩:=h;exact⟨(hb.block _ (Boxed.lt g)).trans g,(hb.block _ (Boxed.lt j)).trans j,(hb.block _ (Zb m)).trans m,(hb.block _ (Boxed.lt q)).trans q,(hb.block _ (Boxed.lt v)).trans v,(hb.block _ (Boxed.lt x)).trans x,y.trans (hb.mono y.size)⟩
theorem WI.own{ai:Option Addr}(hb:w.1.size<=base):OwnFrom base (WI n s ai bt w):=fun p A B row h hg hrw=>by
 obtain⟨h1,h2,h3,h4,h5,h6,h7⟩:=h;exact⟨XH h1 hg (fun r e=>(hrw r e).2),XH h2 hg (fun r e=>(hrw r e).2),XH h3 hg (fun r e=>(hrw r e).2),XH h4 hg (fun r e=>(hrw r e).2),XH h5 hg (fun r e=>(hrw r e).2),XH h6 hg (fun r e=>(hrw r e).2),ownFrom_below (β:=Unit) (Zc _) hb () A B row h7 hg hrw⟩
def S13(s:Nat)(w':World):Prop:=w'.cell? ⟨s,0,none⟩=some (.int .i64 5)/\w'.cell? ⟨s+1,0,none⟩=some (.int .i64 4)
theorem S13.set{w':World}(hb:b<s)(h:S13 s w'):S13 s (w'.setCell ⟨b,o,none⟩ v):=⟨(ZG w' ⟨b,o,none⟩ ⟨s,0,none⟩ v (by show b≠s;omega)).trans h.1,(ZG w' ⟨b,o,none⟩ ⟨s+1,0,none⟩ v (by show b≠s+1;omega)).trans h.2⟩
theorem Zaf{e:TypeId}{v a b c d:Value}(h:w.ownsRow base e 2 v (1+1) ([a,b]++[c,d])):∃g cap,v=.slice (some ⟨g,0,none⟩) 2 cap/\base<=g/\g<w.1.size/\w.cell? ⟨g,0,none⟩=some a/\w.cell? ⟨g,1,none⟩=some b/\w.cell? ⟨g,2,none⟩=some c/\w.cell? ⟨g,3,none⟩=some d:=by
 rcases h.2 with ⟨_,hz⟩|⟨g,cap,cur,rfl,hg,hh,_⟩
 .cases hz
 have m:=Zdw h;refine⟨g,cap,rfl,hg,Zb hh,?_,?_,?_,?_⟩
 .obtain⟨x,f,j⟩:=m 0 a rfl;injection f with f;subst f;simpa [Addr.add] using j
 .obtain⟨x,f,j⟩:=m 1 b rfl;injection f with f;subst f;simpa [Addr.add] using j
 .obtain⟨x,f,j⟩:=m 2 c rfl;injection f with f;subst f;simpa [Addr.add] using j
 obtain⟨x,f,j⟩:=m 3 d rfl;injection f with f;subst f;simpa [Addr.add] using j
theorem eU(g cap:Nat)(x:g<w.1.size)(j:w.cell? ⟨g,0,none⟩=some (.int .i64 4))(m:w.cell? ⟨g,1,none⟩=some (.int .i64 3))(q:w.cell? ⟨g,2,none⟩=some (.int .i64 1))(v:w.cell? ⟨g,3,none⟩=some (.int .i64 0)) :
  Calls prog 100 #[.slice (some ⟨g,0,none⟩) 2 cap] w fun e w'=>e=.returned (.tuple #[.int .i64 4,.int .i64 0])/\RowKit.Below w.1.size w w':=by
 have:=clock.uY [(4,3),(1,0)] g 0 cap w (by simp) x (by
  intro k f
  match k,f with
  | 0,_=>exact⟨j,m⟩
  | 1,_=>exact⟨q,v⟩) (by
  intro k f
  match k,f with
  | 0,_=>exact⟨by decide,by decide,by decide,by decide⟩
  | 1,_=>exact⟨by decide,by decide,by decide,by decide⟩)
 rw[show clock.Xk 1 [(4,3),(1,0)]=some 4 from by decide +kernel] at this;exact this
theorem KR{b c o:Nat}{v u:Value}(h:Boxed W b t v)(hb:b≠c):Boxed (W.setCell ⟨c,o,none⟩ u) b t v:=(RowKit.Below.heap_setCell W ⟨c,o,none⟩ u b hb).trans h
theorem ZcY{W6 w9:World}{cs:Array Value}(o:Obj)(hq:W6.1[b]?=some (.cells cs t (0,0)))(hg:(W6.alloc o).grownBy w9 (Value.slice (some ⟨b,0,none⟩) 1 1).ownBlock):KeepsOthers W6 w9:=(KeepsOthers.alloc W6 o).trans (KeepsOthers.of_grownBy hg (fun j o2 hj ho=>by
 injection hj with hj
 subst hj;have h2:=(RowKit.Below.heap_alloc W6 o b (Zb hq)).trans hq;rw[h2] at ho;injection ho with ho
 subst ho;rfl))
theorem KO.of_below(h:RowKit.Below W.1.size W W'):KeepsOthers W W':=⟨h.size,fun k o ho _=>(h.block k (Zb ho)).trans ho⟩
theorem gK(ai:Option Addr)(bt:Nat)(hf:FAP w fdA ai none none (some ⟨bt,0,none⟩))(ht:yc w bt) :
  Calls prog 43 #[fv fdA ai none none (some ⟨bt,0,none⟩) 1 0 0 1] w fun x w'=>x=.returned (.tuple #[.int .i64 5,.int .i64 4,.int .i64 0])/\RowKit.Below w.1.size w w':=by
 have aw:=hid (fun W (hb:RowKit.Below w.1.size w W)=>Up (w:=W) fdA ai none none (some ⟨bt,0,none⟩) 1 0 0 1 (hf.below hb));have bf:=hid (fun W (hb:RowKit.Below w.1.size w W)=>xw (w:=W) ai (some ⟨bt,0,none⟩) (hf.below hb));rw[ZaX] at aw;have HT:=hid ht;have ca:=Zb ht;unfold fv fdA at *;simp only[Zp,Zw,ZD] at aw bf;simp only[Zp,Zw,ZD];clear hf ht;refine(Zt (n:=6)).1 ?_;refine callsIn_of_wp_marks func43 rfl trivial ?_ rfl;simp only[ntmps43,ZI,Zp,Zw,Nat.reduceAdd,Nat.reduceSub,ZF,ZE,ZL,ZJ,ZM,ZC];gi_upto_region 1 with fail
 obtain⟨W1,X⟩:∃W1,(((w.alloc (.cells #[.slice ai 1 1,.slice none 0 0,.slice none 0 0,.slice (some ⟨bt,0,none⟩) 1 1] 35)).alloc (.cells #[.int .i64 0] 2)).alloc (.cells #[.int .i64 0] 2)).alloc (.cells #[.int .i64 0] 38)=W1:=⟨_,rfl⟩;have hB:RowKit.Below w.1.size w W1:=by rw[<-X];exact bq
 have be:gQ W1 w.1.size ai (some ⟨bt,0,none⟩):=by rw[<-X];exact(RowKit.Below.heap_alloc _ _ _ (by simp;omega)).trans ((RowKit.Below.heap_alloc _ _ _ (by simp;omega)).trans ((RowKit.Below.heap_alloc _ _ _ (by simp)).trans (Yx w _)))
 have bp:Boxed W1 (w.1.size+1) 2 (.int .i64 0):=by rw[<-X];have:=((Boxed.new (w.alloc (.cells #[.slice ai 1 1,.slice none 0 0,.slice none 0 0,.slice (some ⟨bt,0,none⟩) 1 1] 35)) 2 (.int .i64 0)).alloc (.cells #[.int .i64 0] 2)).alloc (.cells #[.int .i64 0] 38);rwa [Zu] at this
 have br:Boxed W1 (w.1.size+1+1) 2 (.int .i64 0):=by rw[<-X];have:=(Boxed.new ((w.alloc (.cells #[.slice ai 1 1,.slice none 0 0,.slice none 0 0,.slice (some ⟨bt,0,none⟩) 1 1] 35)).alloc (.cells #[.int .i64 0] 2)) 2 (.int .i64 0)).alloc (.cells #[.int .i64 0] 38);rwa [Zu,Zu] at this
 have bs:Boxed W1 (w.1.size+1+1+1) 38 (.int .i64 0):=by rw[<-X];have:=Boxed.new (((w.alloc (.cells #[.slice ai 1 1,.slice none 0 0,.slice none 0 0,.slice (some ⟨bt,0,none⟩) 1 1] 35)).alloc (.cells #[.int .i64 0] 2)).alloc (.cells #[.int .i64 0] 2)) 38 (.int .i64 0);rwa [Zu,Zu,Zu] at this
 rw[X];clear X;obtain⟨⟨x0,x1,x2,x3⟩,xf⟩:=Yy be;have HB:=hid hB;have HX:=hid (Zh be (Zh bp (Zh br bs)));clear hB be bp br bs;gi_upto_region 3 with (refine⟨trivial,?_⟩;gi_at_call 44;refine(Zt.2 (aw.o _ HB.o)).mono ?_;rintro e f ⟨rfl,hb2⟩;have HB2:=hid hb2;clear hb2)
 gi_upto_region 4 with fail
 clear x0 x1 x2 x3 xf;have hb2:=HB2.o;have L:=hid (Zh ((hb2.block _ (Zb HX.o.1)).trans HX.o.1) (Zh ((hb2.block _ HX.o.2.1.lt).trans HX.o.2.1) (Zh ((hb2.block _ HX.o.2.2.1.lt).trans HX.o.2.2.1) ((hb2.block _ HX.o.2.2.2.lt).trans HX.o.2.2.2))));obtain⟨W3,an⟩:=ez ((f.alloc (.cells #[.int .i64 0] 2)).alloc (.cells #[.int .i64 1] 2));have ab:RowKit.Below f.1.size f W3:=by rw[<-an];exact bq
 have bm:Boxed W3 f.1.size 2 (.int .i64 0):=by rw[<-an];exact(Boxed.new f 2 (.int .i64 0)).alloc _
 have bb:Boxed W3 (f.1.size+1) 2 (.int .i64 1):=by rw[<-an];have:=Boxed.new (f.alloc (.cells #[.int .i64 0] 2)) 2 (.int .i64 1);rwa [Zu] at this
 rw[an];clear an;have ar:=hid (show WI w.1.size f.1.size ai bt w [] W3 from ⟨bm,bb,(ab.block _ (Zb L.o.1)).trans L.o.1,(ab.block _ (Boxed.lt L.o.2.1)).trans L.o.2.1,(ab.block _ (Boxed.lt L.o.2.2.1)).trans L.o.2.2.1,(ab.block _ (Boxed.lt L.o.2.2.2)).trans L.o.2.2.2,HB.o.trans ((hb2.trans (ab.mono hb2.size)).mono HB.o.size)⟩);have ce:w.1.size+1+1+1<f.1.size:=by have:=HX.o.2.2.2.lt;have:=hb2.size;omega
 have cf:=bb.lt;clear bm bb hb2 ab;obtain⟨⟨x0,x1,x2,x3⟩,xf⟩:=Yy ar.o.2.2.1;gi_wp2_with (refine⟨trivial,?_⟩;gi_at_call 97;refine(Zt.2 (vp _ _ _ _ _ rfl)).mono ?_;rintro e w4 ⟨rfl,hb4,bc,bl⟩;have HB4:=hid hb4;have bv:=hid bl;have bw:=hid bc;clear hb4 bc bl);have bc:=bw.o;have bh:yc w4 bt:=(HB4.o.block _ oq).trans ((ar.o.2.2.2.2.2.2.block _ ca).trans HT.o);have bx:=hid bh;have bu:=hid (ar.o.below HB4.o);clear x0 x1 x2 x3 xf bh;refine zm (F:=Fence.wide) (gf:=168) (lb:=#[.pointer (some ⟨W3.1.size,0,none⟩)]) rfl oq rfl trivial (enters_of func168 kq rfl)
  (Zfc ai W3.1.size bt _ w4 bv.o bx.o) (fun h k=>h.trans k) (fun W l o o' _ h hc=>KD.putObj W l o o' h hc) (fun W W' h=>KD.of_below h) (fun _=>rfl)
  (fun pre W=>WI w.1.size f.1.size ai bt w pre W) (WI.own oq) (fun _ _ _=>trivial) bu.o
  (fun pre x a' W=>pre=[]/\∃b7,w.1.size<=b7/\W.1[b7]?=some (.cells #[.int .i64 0,.slice none 0 0] 92 (0,0))/\a'.tmps.size=46/\slt a'.tmps 1=.pointer (some ⟨w.1.size,0,none⟩)/\slt a'.tmps 5=.pointer (some ⟨f.1.size,0,none⟩)/\slt a'.tmps 6=.pointer (some ⟨f.1.size+1,0,none⟩)/\slt a'.tmps 7=.pointer (some ⟨b7,0,none⟩)/\slt a'.tmps 8=.int .i64 2/\a'.defers=[])
  (fun pre x a' s A C row hs hg hrw=>by
   obtain⟨h1,b7,h2,h3,h4⟩:=hs;exact⟨h1,b7,h2,XH h3 hg (fun r e=>(hrw r e).2),h4⟩) ?assign ?body ?done
 case assign =>
  rintro l pre x W K hi bk hK;have HI:=hid hi;have cd:=hi.2.2.2.2.2.2.size;clear hi;gi_wp2;exact hK _ _ ((RowKit.Below.refl _ _).alloc (Zc _) _) (HI.o.below ((RowKit.Below.refl _ _).alloc (Zc _) _)) ⟨bk,W.1.size,cd,Yx W _,by simp,by simp[slt],by simp[slt],by simp[slt],by simp[slt],by simp[slt],rfl⟩
 case body =>
  rintro l pre x ⟨t,dd⟩ W hl hr hi ⟨rfl,b7,cg,h7,bd,s1,s5,s6,s7,s8,hd⟩;simp only at bd s1 s5 s6 s7 s8 hd;subst hd;rw[Zf0 bd,s1,s5,s6,s7,s8];generalize slt t 0=u0,slt t 2=u2,slt t 3=u3,slt t 4=u4,slt t 9=u9,slt t 10=u10,slt t 11=u11,slt t 12=u12,slt t 13=u13,slt t 14=u14,slt t 15=u15,slt t 16=u16,slt t 17=u17,slt t 18=u18,slt t 19=u19,slt t 20=u20,slt t 21=u21,slt t 22=u22,slt t 23=u23,slt t 24=u24,slt t 25=u25,slt t 26=u26,slt t 27=u27,slt t 28=u28,slt t 29=u29,slt t 30=u30,slt t 31=u31,slt t 32=u32,slt t 33=u33,slt t 34=u34,slt t 35=u35,slt t 36=u36,slt t 37=u37,slt t 38=u38,slt t 39=u39,slt t 40=u40,slt t 41=u41,slt t 42=u42,slt t 43=u43,slt t 44=u44,slt t 45=u45;clear bd s1 s5 s6 s7 s8 t;obtain⟨⟨x0,x1,x2,x3⟩,xf⟩:=Yy hi.2.2.1;obtain⟨⟨z0,z1⟩,zf⟩:=YL h7;have HI:=hid hi;have bi:=hi.2.2.2.2.2.2.size;have ch:=hi.2.1.lt;clear hi h7;gi_upto_region 8 with (refine⟨trivial,?_⟩;gi_at_call 98;refine(Zt.2 (bf.o _ HI.o.2.2.2.2.2.2)).mono ?_;rintro e w5 ⟨⟨b,rfl,hb,hq⟩,hb5⟩;have aa:=hid hq;have au:=hid (HI.o.below hb5);have HB5:=hid hb5;clear hq hb5)
  have v:=au.o;have c5:=v.1.cell;have f5:=v.1.frozen;have l5:=v.1.lt;simp only[Zw,if_true] at c5;clear v x0 x1 x2 x3 xf z0 z1 zf;refine QT (S:=(fun _:World=>True)) kq kq (by rintro⟨_,_,h⟩;exact h) trivial (fun hH=>?_);refine tk 1 hH ?_;refine tk 3 hH ?_;refine rz 0 2 (fun K hK=>?_) fun K hK=>?_
  .go_simp;refine hK.o _ _ (fun hH=>?_);clear hK K;refine ry 2 fun K hK=>?_
   (go_simp;go_at_call 99;refine(Kt (w:=w5.drew) b 4 3 aa.o).mono ?_;rintro y w6 ⟨rfl,rfl⟩)
   refine hK.o _ _ (fun hH=>?_);clear hK K;refine tk 4 hH ?_;refine tk 5 hH ?_;refine ry 6 fun K hK=>?_
   go_simp;refine hK.o _ _ (fun hH=>?_);clear hK K;refine Zy kq ?_ _;rw[show(max 0 (IntKind.i64.wrap 5):Int)=5 from by decide];obtain⟨M,E⟩:=ez ((w5.setCell ⟨f.1.size,0,none⟩ (.int .i64 5)).drew);have v:=au.o;have V:Boxed M f.1.size 2 (.int .i64 5):=by rw[<-E];exact v.1.set _
   have q:But (fun k=>k=f.1.size) w5 M:=by rw[<-E];exact(show But (fun k=>k=f.1.size) w5 (w5.setCell ⟨f.1.size,0,none⟩ (.int .i64 5)) from But.set (S:=fun k=>k=f.1.size) rfl _).drew
   have O:KeepsOthers w5 M:=by rw[<-E];exact(KeepsOthers.setCell _ _ _).trans (KeepsOthers.drew _)
   rw[E];clear E;have bn:=q.size;have bo:=HB5.o.size;have ay:=Zb aa.o;have Z:M.1[b]?=_:=(q.block b ay oq).trans aa.o;have R:M.ownsRow W.1.size 50 2 (.slice (some ⟨b,0,none⟩) 1 1) 1 [.int .i64 4,.int .i64 3]:=⟨rfl,.inr ⟨b,1,#[.int .i64 4,.int .i64 3],rfl,hb,Z,oq,by unfold maxLen;omega,rfl,rfl⟩⟩;have I:=(q.block _ v.2.1.lt oq).trans v.2.1;have c6:=Boxed.cell (t:=2) I;simp only[Zw,if_true] at c6;have ax:=V.cell;have am:=hid R;have af:=hid V;have ah:=hid (show Boxed M (f.1.size+1) 2 _ from I);have av:=hid Z;have ae:=hid q;have al:=hid O;obtain⟨i0,j,ao,ap,aq⟩:=info_parts EE;have H:=hid (Zh j (Zh ao (Zh ap aq)));clear R V I Z q O j ao ap aq v c5 f5 l5;gi_upto_region 10 with (first|(refine wpListIn_append_own _ (by rfl) (.tmp 29) (.tmp 32) 31 (by rfl) W.1.size 50 i0 _ 2 16 underlying31 H.o.1 H.o.2.1 H.o.2.2.1 H.o.2.2.2 rfl oq (.slice (some ⟨b,0,none⟩) 1 1) 1 [.int .i64 4,.int .i64 3] (by rfl) (own_below am.o bq) ⟨M.1.size,0,none⟩ 1 1 [.int .i64 1,.int .i64 0] (by rfl) (by rfl) (World.news_of_block (Zz _ _)) (by simp[Value.oneCell']) (by unfold maxLen;omega) oq (by simp;omega) ?_;intro v9 w9 G hg9 ba;obtain⟨g,cap,rfl,cb,az,r0,r1,r2,r3⟩:=Zaf G;have HY:=hid (eU g cap az r0 r1 r2 r3);have ak:=hid hg9;clear G hg9 ba r0 r1 r2 r3)|(refine⟨trivial,?_⟩;gi_at_call 100;refine(CallsIn.inRound l (Zt.2 HY.o)).mono ?_;rintro e J ⟨rfl,m⟩;have ac:=hid m;clear m))
   have m:=ac.o;have U:=hid ((KO.of_below HB5.o).trans (al.o.trans ((ZcY _ av.o ak.o).trans (KO.of_below m))));have T:=hid (show But (fun k=>(Value.slice (some ⟨b,0,none⟩) 1 1).ownBlock=some k) M J from((But.of_below ((RowKit.Below.refl _ _).alloc (Zc _) _)).then (But.of_grown ak.o) (fun _ _ e=>e)).then (But.of_below m) (fun _ _ e=>e));have V:Boxed J f.1.size 2 (.int .i64 5):=(T.o.block _ af.o.lt (fun e=>by have e3:some b=some f.1.size:=e;injection e3 with e3;omega)).trans af.o;have I:=(T.o.block _ ah.o.lt (fun e=>by have e3:some b=some (f.1.size+1):=e;injection e3 with e3;omega)).trans ah.o;have k5:=V.cell;have k6:J.cell? ⟨f.1.size+1,0,none⟩=some (.int .i64 1):=Boxed.cell (t:=2) I;have kf:=Boxed.frozen (t:=2) I;have kl:=Boxed.lt (t:=2) I;have ag:=hid V;have aj:=hid (show Boxed J (f.1.size+1) 2 _ from I);clear m V I ax c6;gi_wp2;have hS:=((But.of_below (S:=fun k=>k=f.1.size\/k=f.1.size+1\/k=b) HB5.o).then ae.o (fun k _ e=>.inl e)).then T.o (fun k _ e=>.inr (.inr (by injection e with e;exact e.symm)));have z:=hS.then (But.set (o:=0) (S:=fun k=>k=f.1.size\/k=f.1.size+1\/k=b) (.inr (.inl rfl)) (.int .i64 4)) (fun k _ e=>e);have cc:l<W.1.size:=by obtain⟨r,h⟩:=hr;exact(Zq.1 h).1
   have j:=HI.o;have hn:∀k,k<w.1.size+1+1+1+1->¬(k=f.1.size\/k=f.1.size+1\/k=b):=fun k hk e=>oq
   refine⟨(U.o.trans (KeepsOthers.setCell _ _ _)).from _,KD.of_but z (fun e=>oq) (fun e=>oq),?_,aj.o.set _,?_,?_,?_,?_,?_⟩
   .exact(RowKit.Below.heap_setCell _ _ _ _ (by show f.1.size≠f.1.size+1;omega)).trans ag.o
   .exact(z.block _ (Zb j.2.2.1) (hn _ oq)).trans j.2.2.1
   .exact(z.block _ (Boxed.lt j.2.2.2.1) (hn _ oq)).trans j.2.2.2.1
   .exact(z.block _ (Boxed.lt j.2.2.2.2.1) (hn _ oq)).trans j.2.2.2.2.1
   .exact(z.block _ (Boxed.lt j.2.2.2.2.2.1) (hn _ oq)).trans j.2.2.2.2.2.1
   exact j.2.2.2.2.2.2.trans (z.below bi (fun k e=>oq))
  (go_simp;go_at_call 99;refine(Kt (w:=w5.drew) b 4 3 aa.o).mono ?_;rintro y w6 ⟨rfl,rfl⟩)
  refine hK.o _ _ (fun hH=>?_);clear hK K;refine tk 4 hH ?_;refine ry 0 fun K hK=>?_
  go_simp;refine hK.o _ _ (fun hH=>?_);clear hK K;refine tk 5 hH ?_;refine ry 6 fun K hK=>?_
  go_simp;refine hK.o _ _ (fun hH=>?_);clear hK K;refine Zy kq ?_ _;rw[show(max 0 (IntKind.i64.wrap 5):Int)=5 from by decide];obtain⟨M,E⟩:=ez ((w5.setCell ⟨f.1.size,0,none⟩ (.int .i64 5)).drew);have v:=au.o;have V:Boxed M f.1.size 2 (.int .i64 5):=by rw[<-E];exact v.1.set _
  have q:But (fun k=>k=f.1.size) w5 M:=by rw[<-E];exact(show But (fun k=>k=f.1.size) w5 (w5.setCell ⟨f.1.size,0,none⟩ (.int .i64 5)) from But.set (S:=fun k=>k=f.1.size) rfl _).drew
  have O:KeepsOthers w5 M:=by rw[<-E];exact(KeepsOthers.setCell _ _ _).trans (KeepsOthers.drew _)
  rw[E];clear E;have bn:=q.size;have bo:=HB5.o.size;have ay:=Zb aa.o;have Z:M.1[b]?=_:=(q.block b ay oq).trans aa.o;have R:M.ownsRow W.1.size 50 2 (.slice (some ⟨b,0,none⟩) 1 1) 1 [.int .i64 4,.int .i64 3]:=⟨rfl,.inr ⟨b,1,#[.int .i64 4,.int .i64 3],rfl,hb,Z,oq,by unfold maxLen;omega,rfl,rfl⟩⟩;have I:=(q.block _ v.2.1.lt oq).trans v.2.1;have c6:=Boxed.cell (t:=2) I;simp only[Zw,if_true] at c6;have ax:=V.cell;have am:=hid R;have af:=hid V;have ah:=hid (show Boxed M (f.1.size+1) 2 _ from I);have av:=hid Z;have ae:=hid q;have al:=hid O;obtain⟨i0,j,ao,ap,aq⟩:=info_parts EE;have H:=hid (Zh j (Zh ao (Zh ap aq)));clear R V I Z q O j ao ap aq v c5 f5 l5;gi_upto_region 10 with (first|(refine wpListIn_append_own _ (by rfl) (.tmp 29) (.tmp 32) 31 (by rfl) W.1.size 50 i0 _ 2 16 underlying31 H.o.1 H.o.2.1 H.o.2.2.1 H.o.2.2.2 rfl oq (.slice (some ⟨b,0,none⟩) 1 1) 1 [.int .i64 4,.int .i64 3] (by rfl) (own_below am.o bq) ⟨M.1.size,0,none⟩ 1 1 [.int .i64 1,.int .i64 0] (by rfl) (by rfl) (World.news_of_block (Zz _ _)) (by simp[Value.oneCell']) (by unfold maxLen;omega) oq (by simp;omega) ?_;intro v9 w9 G hg9 ba;obtain⟨g,cap,rfl,cb,az,r0,r1,r2,r3⟩:=Zaf G;have HY:=hid (eU g cap az r0 r1 r2 r3);have ak:=hid hg9;clear G hg9 ba r0 r1 r2 r3)|(refine⟨trivial,?_⟩;gi_at_call 100;refine(CallsIn.inRound l (Zt.2 HY.o)).mono ?_;rintro e J ⟨rfl,m⟩;have ac:=hid m;clear m))
  have m:=ac.o;have U:=hid ((KO.of_below HB5.o).trans (al.o.trans ((ZcY _ av.o ak.o).trans (KO.of_below m))));have T:=hid (show But (fun k=>(Value.slice (some ⟨b,0,none⟩) 1 1).ownBlock=some k) M J from((But.of_below ((RowKit.Below.refl _ _).alloc (Zc _) _)).then (But.of_grown ak.o) (fun _ _ e=>e)).then (But.of_below m) (fun _ _ e=>e));have V:Boxed J f.1.size 2 (.int .i64 5):=(T.o.block _ af.o.lt (fun e=>by have e3:some b=some f.1.size:=e;injection e3 with e3;omega)).trans af.o;have I:=(T.o.block _ ah.o.lt (fun e=>by have e3:some b=some (f.1.size+1):=e;injection e3 with e3;omega)).trans ah.o;have k5:=V.cell;have k6:J.cell? ⟨f.1.size+1,0,none⟩=some (.int .i64 1):=Boxed.cell (t:=2) I;have kf:=Boxed.frozen (t:=2) I;have kl:=Boxed.lt (t:=2) I;have ag:=hid V;have aj:=hid (show Boxed J (f.1.size+1) 2 _ from I);clear m V I ax c6;gi_wp2;have hS:=((But.of_below (S:=fun k=>k=f.1.size\/k=f.1.size+1\/k=b) HB5.o).then ae.o (fun k _ e=>.inl e)).then T.o (fun k _ e=>.inr (.inr (by injection e with e;exact e.symm)));have z:=hS.then (But.set (o:=0) (S:=fun k=>k=f.1.size\/k=f.1.size+1\/k=b) (.inr (.inl rfl)) (.int .i64 4)) (fun k _ e=>e);have cc:l<W.1.size:=by obtain⟨r,h⟩:=hr;exact(Zq.1 h).1
  have j:=HI.o;have hn:∀k,k<w.1.size+1+1+1+1->¬(k=f.1.size\/k=f.1.size+1\/k=b):=fun k hk e=>oq
  refine⟨(U.o.trans (KeepsOthers.setCell _ _ _)).from _,KD.of_but z (fun e=>oq) (fun e=>oq),?_,aj.o.set _,?_,?_,?_,?_,?_⟩
  .exact(RowKit.Below.heap_setCell _ _ _ _ (by show f.1.size≠f.1.size+1;omega)).trans ag.o
  .exact(z.block _ (Zb j.2.2.1) (hn _ oq)).trans j.2.2.1
  .exact(z.block _ (Boxed.lt j.2.2.2.1) (hn _ oq)).trans j.2.2.2.1
  .exact(z.block _ (Boxed.lt j.2.2.2.2.1) (hn _ oq)).trans j.2.2.2.2.1
  .exact(z.block _ (Boxed.lt j.2.2.2.2.2.1) (hn _ oq)).trans j.2.2.2.2.2.1
  exact j.2.2.2.2.2.2.trans (z.below bi (fun k e=>oq))
 rintro D xs W hD rfl hi hk;have bg:=hid ((Mk.nil w.1.size 0 W).cons oq (Zk _) hk);have HI:=hid hi;obtain⟨h1,h2,h3,h4,h5,h6,h7⟩:=hi;have c5:=h1.cell;have c6:=h2.cell;have f1:=h4.cell;have g1:=h4.frozen;have f2:=h5.cell;have g2:=h5.frozen;have f3:=h6.cell;have g3:=h6.frozen;have l1:=h4.lt;have l2:=h5.lt;have l3:=h6.lt;simp only[Zp,Zw] at c5 c6;clear h1 h2 h3 h4 h5 h6 hk;gi_wp2;have KS1:=hid (show S13 f.1.size W.drew from ⟨c5,c6⟩);have KS2:=hid (show S13 f.1.size (W.setCell ⟨w.1.size+1,0,none⟩ (.int .i64 5)).drew from S13.set (w':=W) oq ⟨c5,c6⟩);have KS3:=hid (show S13 f.1.size ((W.setCell ⟨w.1.size+1,0,none⟩ (.int .i64 5)).setCell ⟨w.1.size+1+1,0,none⟩ (.int .i64 4)).drew from S13.set oq (S13.set (w':=W) oq ⟨c5,c6⟩));have KS4:=hid (show S13 f.1.size (((W.setCell ⟨w.1.size+1,0,none⟩ (.int .i64 5)).setCell ⟨w.1.size+1+1,0,none⟩ (.int .i64 4)).setCell ⟨w.1.size+1+1+1,0,none⟩ (.int .i64 0)).drew from S13.set oq (S13.set oq (S13.set (w':=W) oq ⟨c5,c6⟩)));refine wpIn_wide.2 (wp_region_noPanic ?_);refine ZO (S:=S13 f.1.size) kq (by first|with_reducible exact KS1.o|with_reducible exact KS2.o|with_reducible exact KS3.o|with_reducible exact KS4.o) (fun hH=>?_);refine tk 0 hH ?_;refine tk 1 hH ?_;refine ry 2 fun K hK=>?_
 go_simp;refine hK.o _ _ (fun hH=>?_);clear hK K;refine ry 3 fun K hK=>?_
 go_simp;refine hK.o _ _ (fun hH=>?_);clear hK K;refine ry 4 fun K hK=>?_
 go_simp;refine hK.o _ _ (fun hH=>?_);clear hK K;refine Zy kq ?_ _;refine NoPanic.normal ?_;obtain⟨h1,h2,h3,h4,h5,h6,h7⟩:=HI.o;have b1:Boxed (((W.setCell ⟨w.1.size+1,0,none⟩ (.int .i64 5)).setCell ⟨w.1.size+1+1,0,none⟩ (.int .i64 4)).setCell ⟨w.1.size+1+1+1,0,none⟩ (.int .i64 0)) (w.1.size+1) 2 (.int .i64 5):=KR (KR (h4.set (.int .i64 5)) oq) oq;have b2:Boxed (((W.setCell ⟨w.1.size+1,0,none⟩ (.int .i64 5)).setCell ⟨w.1.size+1+1,0,none⟩ (.int .i64 4)).setCell ⟨w.1.size+1+1+1,0,none⟩ (.int .i64 0)) (w.1.size+1+1) 2 (.int .i64 4):=KR ((KR (c:=w.1.size+1) (o:=0) (u:=.int .i64 5) h5 oq).set (.int .i64 4)) oq;have b3:Boxed (((W.setCell ⟨w.1.size+1,0,none⟩ (.int .i64 5)).setCell ⟨w.1.size+1+1,0,none⟩ (.int .i64 4)).setCell ⟨w.1.size+1+1+1,0,none⟩ (.int .i64 0)) (w.1.size+1+1+1) 38 (.int .i64 0):=(KR (c:=w.1.size+1+1) (o:=0) (u:=.int .i64 4) (KR (c:=w.1.size+1) (o:=0) (u:=.int .i64 5) h6 oq) oq).set (.int .i64 0);have bj:RowKit.Below w.1.size w (((W.setCell ⟨w.1.size+1,0,none⟩ (.int .i64 5)).setCell ⟨w.1.size+1+1,0,none⟩ (.int .i64 4)).setCell ⟨w.1.size+1+1+1,0,none⟩ (.int .i64 0)):=((h7.setCell (p:=⟨w.1.size+1,0,none⟩) (by show w.1.size<=w.1.size+1;omega) _).setCell (p:=⟨w.1.size+1+1,0,none⟩) (by show w.1.size<=w.1.size+1+1;omega) _).setCell (p:=⟨w.1.size+1+1+1,0,none⟩) (by show w.1.size<=w.1.size+1+1+1;omega) _;obtain⟨WZ,Y⟩:=ez (((((W.setCell ⟨w.1.size+1,0,none⟩ (.int .i64 5)).setCell ⟨w.1.size+1+1,0,none⟩ (.int .i64 4)).setCell ⟨w.1.size+1+1+1,0,none⟩ (.int .i64 0))).drew);have z1:Boxed WZ (w.1.size+1) 2 (.int .i64 5):=by rw[<-Y];exact b1
 have z2:Boxed WZ (w.1.size+1+1) 2 (.int .i64 4):=by rw[<-Y];exact b2
 have z3:Boxed WZ (w.1.size+1+1+1) 38 (.int .i64 0):=by rw[<-Y];exact b3
 have zB:RowKit.Below w.1.size w WZ:=by rw[<-Y];exact bj.drew
 have zM:Mk w.1.size W.1.size [mkD D] WZ:=by rw[<-Y];exact bg.o.from (((((KeepsOthers.setCell _ _ _).trans (KeepsOthers.setCell _ _ _)).trans (KeepsOthers.setCell _ _ _)).trans (KeepsOthers.drew _)).from _)
 rw[Y];have HZ:=hid (Zh z1 (Zh z2 (Zh z3 zB)));have bz:=hid zM;clear Y z1 z2 z3 zB zM b1 b2 b3 bj h1 h2 h3 h4 h5 h6 h7 KS1 KS2 KS3 KS4 bg c5 c6 f1 g1 f2 g2 f3 g3;gi_wp2;refine bz.o.leaves (fun W' hW'=>⟨.tuple #[.int .i64 5,.int .i64 4,.int .i64 0],?_,?_⟩)
 .have q1:=Boxed.cell (t:=2) (hW'.cells _ _ HZ.o.1 rfl);have q2:=Boxed.cell (t:=2) (hW'.cells _ _ HZ.o.2.1 rfl);have q3:=Boxed.cell (t:=38) (hW'.cells _ _ HZ.o.2.2.1 rfl);clear hW';simp only[results,results43];go_simp
 exact⟨rfl,HZ.o.2.2.2.trans hW'.below⟩
theorem Zhi(m:w.1[b]?=some (.cells #[.int .i64 4,.int .i64 3] 50 (0,0)))(ht:yc w bt):FAP w fdA (some ⟨b,0,none⟩) none none (some ⟨bt,0,none⟩):=by
 refine⟨.inr ⟨b,0,rfl,Zb m,fun i hi=>?_⟩,.inl rfl,.inl rfl,.inr ⟨bt,0,rfl,Zb ht,fun i hi=>?_⟩,by unfold fdA;simp,(fun t ht=>by cases ht),fun t ht=>?_⟩
 .have j:i<1:=hi;obtain rfl:i=0:=oq;obtain⟨⟨f,g⟩,_⟩:=YL m;exact⟨f,g⟩
 .have j:i<1:=hi;obtain rfl:i=0:=oq;obtain⟨⟨f,g,q,v,x⟩,_⟩:=V9 ht;exact⟨f,g,q,x,none,0,v,.inl rfl⟩
 obtain rfl:=List.mem_singleton.1 ht;exact⟨by simp,by show I64 0;unfold I64;omega⟩
theorem Zez(w:World):Calls prog 17 #[] w fun x w'=>x=.returned (.bool true)/\RowKit.Below w.1.size w w':=by
 obtain⟨j,f⟩:=ez ((w.alloc (.cells #[.int .i64 4,.int .i64 3] 50)).alloc (.cells #[.int .i64 4,.int .i64 3,.int .i64 0,.slice none 0 0,.int .i64 2] 94));have m:RowKit.Below w.1.size w j:=by rw[<-f];exact bq
 have q:j.1[w.1.size]?=some (.cells #[.int .i64 4,.int .i64 3] 50 (0,0)):=by rw[<-f];exact(RowKit.Below.heap_alloc _ _ _ (by simp)).trans (Yx w _)
 have ht:yc j (w.1.size+1):=by
  rw[<-f];have:=Yx (w.alloc (.cells #[.int .i64 4,.int .i64 3] 50)) (.cells #[.int .i64 4,.int .i64 3,.int .i64 0,.slice none 0 0,.int .i64 2] 94)
  rwa [Zu] at this
 have HB:=hid m;have g:=hid (gK (some ⟨w.1.size,0,none⟩) (w.1.size+1) (Zhi q ht) ht);unfold fv fdA at g;simp only[Zp,Zw,ZD] at g;clear m q ht;go_enter func17,ntmps17;go_wp2_with (go_at_call 43;refine g.o.mono ?_;rintro x y ⟨rfl,hb3⟩;have HB3:=hid hb3;clear hb3);exact Zl (v:=.bool true) (by simp only[results,results17];go_simp) rfl ⟨rfl,HB.o.trans (HB3.o.mono HB.o.size)⟩
