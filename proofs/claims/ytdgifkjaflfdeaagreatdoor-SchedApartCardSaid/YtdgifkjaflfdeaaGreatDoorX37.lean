/- Parts of the proof. -/
import Derived.Deep.AppendLies
import Derived.Deep.RegionHeld3
import Derived.Test.YtdgifkjaflfdeaaGreatDoorX07
set_option linter.all false
set_option maxRecDepth 100000
set_option maxHeartbeats 16000000
namespace Go.Proofs.YtdgifkjaflfdeaaGreatDoor.syn
open Tryz
open Go.RowKit
variable {n i b k s cl base:Nat}{w wS:World}{f:FD}{g an:OA}{t:TypeId}{x:AD × Int}{α:Type}
def nxt(c:Int × Int)(o:Int × Int × Int):Int × Int:=((clock.YD c.1 c.2 o.1 o.2.1 o.2.2).1,(clock.YD c.1 c.2 o.1 o.2.1 o.2.2).2.1)
def XT(c:Int × Int)(ops:List (Int × Int × Int)):Nat->Int × Int
 | 0=>c
 | i+1=>nxt (XT c ops i) (ops.getD i (0,0,0))
def ckQ(c:Int × Int)(ops:List (Int × Int × Int))(n:Nat):List (Int × Int):=(List.range (n+1)).map (XT c ops)
theorem ZbL(c:Int × Int)(f:List (Int × Int × Int))(n:Nat):ckQ c f (n+1)=ckQ c f n++[XT c f (n+1)]:=by unfold ckQ;rw[Yj,ZV];rfl
theorem GF(c:Int × Int)(f:List (Int × Int × Int))(n:Nat):(ckQ c f n).length=n+1:=by simp[ckQ]
theorem Zeb(c:Int × Int)(f:List (Int × Int × Int))(h:i<=n):(ckQ c f n).getD i (0,0)=XT c f i:=by
 unfold ckQ;rw[Zf,List.getElem?_map,List.getElem?_range oq];rfl
def ckC(l:List (Int × Int)):List Value:=l.flatMap (fun c=>[.int .i64 c.1,.int .i64 c.2])
theorem yN(l m:List (Int × Int)):ckC (l++m)=ckC l++ckC m:=by simp[ckC]
theorem UU:∀(l:List (Int × Int))(k:Nat),k<l.length->(ckC l)[k*2]?=some (.int .i64 (l.getD k (0,0)).1)/\(ckC l)[k*2+1]?=some (.int .i64 (l.getD k (0,0)).2)
 | [],k,h=>absurd h (by simp)
 | c::l,0,_=>⟨rfl,rfl⟩
 | c::l,k+1,h=>by
  have ih:=UU l k (by simpa using h);have e:ckC (c::l)=[.int .i64 c.1,.int .i64 c.2]++ckC l:=rfl;rw[e,List.getElem?_append_right (by simp;omega),List.getElem?_append_right (by simp;omega)];simp only[Zp,Zx,List.getD_cons_succ];rw[show(k+1)*2-2=k*2 by omega,show(k+1)*2+1-2=k*2+1 by omega];exact ih
def KW(l:List (Int × Int)):Nat->Int
 | 0=>(l.getD (l.length-1) (0,0)).2
 | i+1=>KW l i+((l.getD i (0,0)).1+(l.getD (i+1) (0,0)).1)
def Qj(l:List (Int × Int)):Int:=KW l (l.length-1)
theorem xF{l:List (Int × Int)}(h:∀k,k<l.length->0<=(l.getD k (0,0)).1/\(l.getD k (0,0)).1<=2000/\0<=(l.getD k (0,0)).2/\(l.getD k (0,0)).2<=2000)(h0:0<l.length):∀i,i<l.length->0<=KW l i/\KW l i<=2000+4000*(i:Int)
 | 0,_=>by have:=h (l.length-1) oq;unfold KW;omega
 | i+1,hi=>by
  have h1:=xF h h0 i oq;have h2:=h i oq;have h3:=h (i+1) hi;unfold KW;push_cast;omega
theorem xw(l:List (Int × Int))(g off cap:Nat)(X:0<l.length)(hl:l.length<=1000)(hc:l.length<=cap)(R:g<w.1.size)
  (f:∀k,k<l.length->w.cell? ⟨g,off+k*2,none⟩=some (.int .i64 (l.getD k (0,0)).1)/\w.cell? ⟨g,off+k*2+1,none⟩=some (.int .i64 (l.getD k (0,0)).2))
  (z:∀k,k<l.length->0<=(l.getD k (0,0)).1/\(l.getD k (0,0)).1<=2000/\0<=(l.getD k (0,0)).2/\(l.getD k (0,0)).2<=2000) :
  Calls prog 99 #[.slice (some ⟨g,off,none⟩) l.length cap] w fun x w'=>x=.returned (.int .i64 (Qj l))/\Below w.1.size w w':=by
 have T:=hid f;have HS:=hid (xF z X);have F:=hid z;obtain⟨n,J⟩:=ez l.length;have Z:=f (l.length-1) oq;have y:=Z.2;have q:=hid (show Qj l=KW l (n-1) by unfold Qj;rw[J]);have j:=hid (show KW l 0=(l.getD (n-1) (0,0)).2 by unfold KW;rw[J]);rw[J] at X hl hc y ⊢;have E:=hid J;clear f z Z J;have M:IntKind.i64.wrap ((n:Int)-1)=((n-1:Nat):Int):=by rw[show((n:Int)-1)=((n-1:Nat):Int) by omega];exact ZL _ oq
 obtain⟨m,Y⟩:=ez (n-1);rw[Y] at M y q j;obtain rfl:n=m+1:=oq;clear Y;obtain⟨ph,L⟩:=ez ((l.getD m (0,0)).2);rw[L] at y j;go_enter func99,ntmps99;by_cases H:cap=1
 .subst H;obtain rfl:m=0:=oq;rw[j.o] at q;go_wp2;go_rounds 1;go_wp2;go_ret;exact⟨by rw[q.o];rfl,Zg _ _⟩
 go_wp2;clear y M L;go_loopw [3,16] (fun s i wr=>Hid (∃k:Nat,i=.int .i64 (k:Int)/\k<=m/\s=.int .i64 (KW l k)/\Below w.1.size w wr)) (fun _ i _=>m-(intOf i).toNat)
 case atStart=>exact⟨0,rfl,Zk _,by rw[j.o],Zg _ _⟩
 obtain⟨k,rfl,hk,rfl,hb⟩:=hrel.o;clear hrel;have HB:=hid hb;have U:g<wr.1.size:=Zd R hb.size;clear hb;by_cases aa:k<m
 .have c1:=(HB.o.cell (p:=⟨g,off+k*2,none⟩) R).trans (T.o k (by rw[E.o];omega)).1;have c2:=(HB.o.cell (p:=⟨g,off+(k+1)*2,none⟩) R).trans (T.o (k+1) (by rw[E.o];omega)).1;have c3:=(HB.o.cell (p:=⟨g,off+(k+1)*2+1,none⟩) R).trans (T.o (k+1) (by rw[E.o];omega)).2;rw[show off+(k+1)*2=off+2+k*2 by omega] at c2 c3;have e1:=F.o k (by rw[E.o];omega);have e2:=F.o (k+1) (by rw[E.o];omega);have e3:=HS.o k (by rw[E.o];omega);have G:=hid (show KW l (k+1)=KW l k+((l.getD k (0,0)).1+(l.getD (k+1) (0,0)).1) from rfl);obtain⟨O,A⟩:=ez ((l.getD k (0,0)).1);obtain⟨p2,C⟩:=ez ((l.getD (k+1) (0,0)).1);obtain⟨f2,I⟩:=ez ((l.getD (k+1) (0,0)).2);obtain⟨s0,D⟩:=ez (KW l k);rw[A,C,D] at G;rw[A] at c1 e1;rw[C] at c2 e2;rw[I] at c3;rw[D] at e3 ⊢;have ab:IntKind.i64.wrap (O+p2)=O+p2:=ZL _ oq;have ac:IntKind.i64.wrap (s0+(O+p2))=s0+(O+p2):=ZL _ oq;have ae:IntKind.i64.wrap ((k:Int)+1)=((k+1:Nat):Int):=ZL _ oq;have i1:(k:Int)<(m:Int):=oq;have i2:(k:Int)<((m+1:Nat):Int):=oq;have i0:(0:Int)<=(k:Int):=oq;clear A C I D;go_upto_region 5 with fail
  obtain⟨V,v⟩:=ez (wr.alloc (.cells #[.int .i64 p2,.int .i64 f2] 50));have hb5:Below wr.1.size wr V:=by rw[<-v];exact bq
  have d1:=(hb5.cell (p:=⟨g,off+k*2,none⟩) U).trans c1;have d2:V.cell? ⟨wr.1.size,0,none⟩=some (.int .i64 p2):=by rw[<-v];exact(YI (Yx _ _)).1.1
  have HB5:=hid (HB.o.trans (hb5.mono HB.o.size));rw[v];clear v hb5 c1 c2 c3;go_region_held (fun w'=>w'.cell? ⟨g,off+k*2,none⟩=some (.int .i64 O)/\w'.cell? ⟨wr.1.size,0,none⟩=some (.int .i64 p2)) (go_keep) (fail);go_wp2;go_roundw
  case rel=>exact⟨k+1,by go_num,oq,Z4 (Value.int .i64) G.o.symm,arith.below_drewN HB5.o 1⟩
  simp[intOf];omega
 obtain rfl:k=m:=oq;go_wp2;go_ret;exact⟨by rw[q.o];rfl,HB.o⟩
theorem k8:(prog.info? 50).map (fun i=>(i.zero,i.size,i.bytes))=some (some (.agg #[.int .i64 0,.int .i64 0]),2,16):=by kernel_rfl
theorem Zd6{f g j:Value}(h:w.1[b]?=some (.cells #[f,g,j] t (0,0))):(w.cell? ⟨b,0,none⟩=some f/\w.cell? ⟨b,1,none⟩=some g/\w.cell? ⟨b,2,none⟩=some j)/\∀o,w.frozen? ⟨b,o,none⟩=false:=by
 refine⟨⟨?_,?_,?_⟩,?_⟩
 all_goals first|(intro o;simp[World.frozen?,h])|simp[World.cell?,h]
def CkI(w:World)(B:Nat)(c:Int × Int)(ops:List (Int × Int × Int))(k:Nat)(v:Value)(W:World):Prop :=
 W.1[B]?=some (.cells #[.int .i64 (XT c ops k).1,.int .i64 (XT c ops k).2] 50 (0,0))/\W.ownsRow (B+1) 50 2 v (k+1) (ckC (ckQ c ops k))/\Below w.1.size w W
theorem Gm{u v x:Value}(h:w.1[b]?=some (.cells #[u,v] t (0,0))):(w.setCell ⟨b,0,none⟩ x).1[b]?=some (.cells #[x,v] t (0,0))/\(w.setCell ⟨b,1,none⟩ x).1[b]?=some (.cells #[u,x] t (0,0)):=by
 constructor
 .rw[Zj w _ _ _ _ _ h];rfl
 rw[Zj w _ _ _ _ _ h];rfl
theorem yP(x0 x1 x2 x3:Value)(src:Int)(c:Int × Int)(f:List (Int × Int × Int))(ad:OA)(cap:Nat)(hl:f.length<=1000)(O:Row OpR 3 w f ad)
  (hS:∀W,Below w.1.size w W->Calls prog 169 #[.agg #[x0,x1,x2,x3],.int .i64 src] W fun x w'=>x=.returned (.tuple #[.agg #[.int .i64 c.1,.int .i64 c.2],.bool true])/\Below W.1.size W w') :
  Calls prog 98 #[.agg #[x0,x1,x2,x3],.agg #[.int .i64 src,.slice ad f.length cap]] w fun x w'=>(∃v,x=.returned v/\w'.ownsRow w.1.size 50 2 v (f.length+1) (ckC (ckQ c f f.length)))/\Below w.1.size w w':=by
 obtain⟨n,hn⟩:=ez f.length;have HS:=hid hS;have HR:=hid O;have HN:=hid hn;rw[hn] at hl ⊢;clear hS O hn;obtain⟨p,q⟩:=c;have br:=hid (show XT (p,q) f 0=(p,q) from rfl);simp only at HS;go_enter func98,ntmps98;go_upto_region 1 with fail
 obtain⟨W1,A⟩:=ez ((w.alloc (.cells #[x0,x1,x2,x3] 35)).alloc (.cells #[.int .i64 src,.slice ad n cap] 92));have hB:Below w.1.size w W1:=by rw[<-A];exact bq
 have ax:W1.1[w.1.size]?=some (.cells #[x0,x1,x2,x3] 35 (0,0)):=by rw[<-A];exact(Za _ _ _ (by simp)).trans (Yx w _)
 have L:W1.1[w.1.size+1]?=some (.cells #[.int .i64 src,.slice ad n cap] 92 (0,0)):=by
  rw[<-A];have:=Yx (w.alloc (.cells #[x0,x1,x2,x3] 35)) (.cells #[.int .i64 src,.slice ad n cap] 92)
  rwa [Zv] at this
 obtain⟨⟨a0,a1,a2,a3⟩,af⟩:=Yy ax;obtain⟨⟨y0,y1⟩,yf⟩:=YI L;have au:=Zb L;have HQ:=hid L;have HB:=hid hB;clear ax L hB
 first|rw[A]|skip
 clear A;go_upto_region 2 with (go_at_call 169;refine(HS.o _ HB.o).mono ?_;rintro x g ⟨rfl,hb3⟩;have HB3:=hid (HB.o.trans (hb3.mono HB.o.size));have bk:w.1.size+1<g.1.size:=Zd au hb3.size;have bg:=hid ((hb3.block _ au).trans HQ.o);clear hb3 a0 a1 a2 a3 af y0 y1 yf)
 obtain⟨G,C⟩:=ez (g.alloc (.cells #[.int .i64 p,.int .i64 q] 50));have hb4:Below g.1.size g G:=by rw[<-C];exact bq
 have X:G.1[g.1.size]?=some (.cells #[.int .i64 p,.int .i64 q] 50 (0,0)):=by rw[<-C];exact Yx _ _
 have bm:G.1.size=g.1.size+1:=by rw[<-C];simp
 rw[C];clear C;obtain⟨⟨z0,z1⟩,zf⟩:=YI X;have bh:=hid X;have HB4:=hid hb4;clear X hb4;go_upto_region 3 with fail
 obtain⟨W5,H⟩:=ez (G.alloc (.cells #[.int .i64 p,.int .i64 q] 50));have hb5:Below G.1.size G W5:=by rw[<-H];exact bq
 have ay:W5.1[G.1.size]?=some (.cells #[.int .i64 p,.int .i64 q] 50 (0,0)):=by rw[<-H];exact Yx _ _
 rw[H];clear H z0 z1 zf;have HB5:=hid (HB3.o.trans ((HB4.o.mono HB3.o.size).trans (hb5.mono (Zm HB3.o.size HB4.o.size))));have aj:Below g.1.size g W5:=HB4.o.trans (hb5.mono HB4.o.size);obtain⟨⟨y0,y1⟩,yf⟩:=YI ((aj.block _ bk).trans bg.o);have bc:=hid (show CkI w g.1.size (p,q) f 0 (.slice (some ⟨G.1.size,0,none⟩) 1 1) W5 from ⟨(hb5.block _ oq).trans bh.o,⟨rfl,.inr ⟨G.1.size,1,#[.int .i64 p,.int .i64 q],rfl,oq,ay,oq,by unfold maxLen;omega,rfl,rfl⟩⟩,HB5.o⟩);have bv:=HB5.o.size;clear hb5 ay aj;go_wp2;clear y0 y1 yf;go_loopw [7,22] (fun v i wr=>Hid (∃k:Nat,i=.int .i64 (k:Int)/\k<=n/\CkI w g.1.size (p,q) f k v wr)) (fun _ i _=>n-(intOf i).toNat)
 case atStart=>exact⟨0,rfl,Zk _,bm▸bc.o⟩
 obtain⟨k,rfl,hk,hi⟩:=hrel.o;clear hrel;have M:=hid hi;clear hi;have bn:g.1.size<wr.1.size:=Zb M.o.1;have bp:=M.o.2.2.size;by_cases J:k<n
 .obtain⟨bo,oo,rfl,bs,ak⟩:=(HR.o.below VK M.o.2.2).at (i:=k) (by rw[HN.o];exact J);have F:=hid (show XT (p,q) f (k+1)=nxt (XT (p,q) f k) (f[k]'(by rw[HN.o];exact J)) from by rw[XT,Zf,Ze (by rw[HN.o];exact J)];rfl);obtain⟨⟨ok,on,od⟩,aw⟩:∃o,f[k]'(by rw[HN.o];exact J)=o:=⟨_,rfl⟩;rw[aw] at ak F;obtain⟨h0,h1,h2⟩:=ak;simp only at h0 h1 h2;have Z:=ZbL (p,q) f k;have R:=hid M.o.1;have bf:=hid M.o.2.1;have HBW:=hid M.o.2.2;obtain⟨⟨cp,cq⟩,al⟩:=ez (XT (p,q) f k);rw[al] at R F;obtain⟨⟨dp,dq⟩,U⟩:=ez (XT (p,q) f (k+1));rw[U] at Z F;have bj:=hid Z;clear Z;have HA:=hid (fun W=>(clock.VZ cp cq ok on od W).mono (fun e w' h=>(show(e=.returned (.tuple #[.agg #[.int .i64 dp,.int .i64 dq],.int .i64 (clock.YD cp cq ok on od).2.2])/\Below W.1.size W w') from ⟨by
   rw[h.1];have e1:=F.o;unfold nxt at e1;injection e1 with e1 e2
   unfold clock.yB clock.Kj;rw[<-e1,<-e2],h.2⟩)))
  have ba:=hid U;obtain⟨er,am⟩:=ez ((clock.YD cp cq ok on od).2.2);rw[am] at HA;have i1:(k:Int)<(n:Int):=oq;have i0:(0:Int)<=(k:Int):=oq;have bw:IntKind.i64.wrap ((k:Int)+1)=((k+1:Nat):Int):=ZL _ oq;clear aw al U am;obtain⟨⟨z0,z1⟩,zf⟩:=YI R.o;go_upto_region 6 with fail
  obtain⟨W6,I⟩:=ez (wr.alloc (.cells #[.int .i64 ok,.int .i64 on,.int .i64 od] 183));have hb6:Below wr.1.size wr W6:=by rw[<-I];exact bq
  have az:W6.1[wr.1.size]?=some (.cells #[.int .i64 ok,.int .i64 on,.int .i64 od] 183 (0,0)):=by rw[<-I];exact Yx _ _
  rw[I];clear I h0 h1 h2 z0 z1 zf;have HB6:=hid hb6;have z:=hid ((hb6.block _ bn).trans R.o);obtain⟨⟨z0,z1⟩,zf⟩:=YI z.o;obtain⟨⟨o0,o1,o2⟩,of⟩:=Zd6 az;clear az hb6;go_upto_region 7 with (go_at_call 170;refine(HA.o _).mono ?_;rintro e w7 ⟨rfl,T⟩;have HB7:=hid T;have q7:=(T.block _ (Zb z.o)).trans z.o;have bi:=hid q7;obtain⟨⟨r0,r1⟩,rf⟩:=YI q7;clear T q7 z0 z1 zf o0 o1 o2 of)
  obtain⟨W8,y⟩:=ez ((w7.setCell ⟨g.1.size,0,none⟩ (.int .i64 dp)).setCell ⟨g.1.size,1,none⟩ (.int .i64 dq));have m:=HB6.o.trans (HB7.o.mono HB6.o.size);have Y:W8.1[g.1.size]?=some (.cells #[.int .i64 dp,.int .i64 dq] 50 (0,0)):=by rw[<-y];exact(Gm (Gm bi.o).1).2
  have av:W8.ownsRow (g.1.size+1) 50 2 u7 (k+1) (ckC (ckQ (p,q) f k)):=by rw[<-y];exact Xc (Xc (own_below bf.o m) oq _) oq _
  have bu:w7.1.size<=W8.1.size:=by rw[<-y];simp
  have ai:Below w.1.size w W8:=by rw[<-y];exact((HBW.o.trans (m.mono HBW.o.size)).setCell (by show w.1.size<=g.1.size;omega) _).setCell (by show w.1.size<=g.1.size;omega) _
  have bt:=m.size;rw[y];clear y r0 r1 rf;have ae:=hid Y;have ac:=hid av;have aa:=hid ai;obtain⟨⟨r0,r1⟩,rf⟩:=YI Y;obtain⟨i0,ao,ap,aq,ar⟩:=info_parts k8;have E:=hid (Zh ao (Zh ap (Zh aq ar)));clear Y av ai m ao ap aq ar;go_upto_region 8 with (refine wpList_append_own _ (by rfl) (.tmp 32) (.tmp 34) 31 (by rfl) (g.1.size+1) 50 i0 _ 2 16 underlying31 E.o.1 E.o.2.1 E.o.2.2.1 E.o.2.2.2 rfl oq u7 (k+1) (ckC (ckQ (p,q) f k)) (by rfl) (own_below ac.o bq) ⟨W8.1.size,0,none⟩ 1 1 [.int .i64 dp,.int .i64 dq] (by rfl) (by rfl) (World.news_of_block (ZA _ _)) (by simp[Value.oneCell']) (by unfold maxLen;omega) oq (by simp;omega) ?_;intro v9 w9 D an bl;have be:=hid D;have bb:=hid an;clear D an bl)
  clear r0 r1 rf;have V:=QA ac.o;have ab:=hid ((But.of_below ((Zg _ W8).alloc (Zc _) (.cells #[.int .i64 dp,.int .i64 dq] 50))).then (But.of_grown bb.o) (fun _ _ e=>e));have ag:Below w.1.size w w9:=aa.o.trans (ab.o.below aa.o.size (fun j e=>by have:=V j e;omega));have ah:=(ab.o.block _ (Zb ae.o) (fun e=>by have:=V _ e;omega)).trans ae.o;have bd:=hid (show CkI w g.1.size (p,q) f (k+1) v9 w9 from ⟨by rw[ba.o];exact ah,by rw[bj.o,yN];exact be.o,ag⟩);clear ag ah V;go_wp2;go_roundw
  case rel=>exact⟨k+1,by go_num,oq,bd.o⟩
  simp[intOf];omega
 obtain rfl:k=n:=oq;go_wp2;go_ret;exact⟨⟨_,rfl,Xq M.o.2.1 oq⟩,M.o.2.2⟩
def ZgT(F:Fence)(n:Nat)(P:Program)(g:Nat)(lb:Array Value)(encs:α->Array Value)(R:World->Prop)(Ok:List α->α->World->Prop)(Kp:World->World->Prop)(S Sp:List α->Prop)(w:World):Prop :=
 ∀(l:Nat)(J Jx:List α->World->Prop)(W:World),Below w.1.size w W->OwnFrom W.1.size J->OwnFrom W.1.size Jx->(∀pre W1,J pre W1->R W1) ->
  (∀pre x W1,J pre W1->Ok pre x W1->YieldAt F (n-1) P l (encs x) W1 fun e W'=>(e=.returned (.bool true)/\J (pre++[x]) W'/\Kp W1 W')\/(e=.returned (.bool false)/\Jx (pre++[x]) W')) ->
  J [] W->CallsIn F n P g (#[.func (.yield l) #[] #[]]++lb) W fun e W'=>(∃v,e=.returned v)/\((∃xs,S xs/\J xs W')\/(∃pre,Sp pre/\Jx pre W'))
theorem Zgg{F:Fence}{P:Program}{g:Operand}{ps:Array Tmp}{assign body:Code}{Q:Exit->Act->World->Prop}{a:Act}(ar:F.round=none)(h1:1<=n){gf:Nat}{lb:Array Value}
  (hg:a.eval g=.func (.func gf) #[] lb)(ai:F.fn gf)(eg:∀args w,(callFunc gf args).run P w=.ok (.enter gf args) w){encs:α->Array Value}{R:World->Prop}{Ok:List α->α->World->Prop}{Kp:World->World->Prop}{S Sp:List α->Prop}
  (ag:ZgT F (n-1) P gf lb encs R Ok Kp S Sp w)(M:∀{A B C:World},Kp A B->Kp B C->Kp A C)(aa:∀(W:World)(l:Nat)(o o':Obj),w.1.size<=l->W.1[l]?=some o->o.isCells=false->Kp W (W.putObj l o'))(al:∀W W':World,Below W.1.size W W'->Kp W W')(aq:∀x,(encs x).size=ps.size)
  (I Ix:List α->World->Prop)(hI:OwnFrom w.1.size I)(L:OwnFrom w.1.size Ix)(aj:∀pre W,I pre W->R W)(h0:I [] w)
  (Ax:List α->α->Act->World->Prop)(ah:∀pre x G,OwnFrom w.1.size (fun(_:Unit) W=>Ax pre x G W))
  (y:∀(l:Nat)(pre:List α)(x:α)(W:World)(K:Act->World->Prop),I pre W->Ok pre x W->(∀G W',Below W.1.size W W'->I pre W'->Ax pre x G W'->K G W') ->
   assign.wpIn (F.inRound l) (n-1-1) P (Exit.then K (fun _ _ _=>False)) { tmps:=(ps.zip (encs x)).foldl (fun t (p,v)=>t.setIfInBounds p v) a.tmps,defers:=[] } W)
  (O:∀(l:Nat)(pre:List α)(x:α)(G:Act)(W:World),w.1.size<=l->(∃r,W.1[l]?=some (.loop r))->I pre W->Ax pre x G W ->
   body.wpIn (F.inRound l) (n-1-1) P (ownPostG w.1.size Kp I (fun c xs W=>c=.ret/\Ix xs W) (pre++[x]) W) G W)
  (U:∀(D:Nat)(xs:List α)(W:World),w.1.size<=D->S xs->I xs W->W.1[D]?=some (.deferred (some []))->Q .normal { a with defers:=mkD D::a.defers } W)
  (Z:∀(D:Nat)(pre:List α)(W:World),w.1.size<=D->Sp pre->Ix pre W->W.1[D]?=some (.deferred (some []))->Code.ret.wpIn F n P Q { a with defers:=mkD D::a.defers } W) :
  (Code.rangeFunc g ps assign body).wpIn F n P Q a w:=by
 refine wpIn_rangeFunc (fun fn hfn=>?_);rw[ar];let R:LoopState->Option Code->Loop:=fun st pe=>{ state:=st,pending:=pe,fn,tmps:=a.tmps,params:=ps,assign,body,defers:=w.1.size }
 let W1:World:=(w.alloc (.deferred (some []))).alloc (.loop (R .ready none));have av:W1.1.size=w.1.size+2:=by simp[W1]
 have hb1:Below w.1.size w W1:=((Zg _ w).alloc (Zc _) _).alloc (by simp) _;have hL:W1.1[w.1.size+1]?=some (.loop (R .ready none)):=by
  have:=World.alloc_heap_new (w.alloc (.deferred (some []))) (.loop (R .ready none))
  rwa [Zv] at this
 have hD:W1.1[w.1.size]?=some (.deferred (some [])):=(Za _ _ _ (by simp)).trans (World.alloc_heap_new w _);refine⟨w.1.size+1,[mkD w.1.size],W1,{ target:=.fn (.func gf) lb,args:=#[.func (.yield (w.1.size+1)) #[] #[]] },W1,gf,#[.func (.yield (w.1.size+1)) #[] #[]]++lb,W1,run_enterLoop_outer _ _ _ _ _,?_,?_,?_,fun _=>h1,?_⟩
 .simp only[resolve,hg];simp[go_sem]
 .intro f' ac;simp[Target.leads] at ac;subst ac;exact ai
 .simp[invoke,go_sem,eg]
 have m:∀{A B:World}{row:Option Nat}{k:Nat}{o:Obj},A.grownBy B row->(∀r,row=some r->W1.1.size<=r/\∃o:Obj,A.1[r]?=some o/\o.isCells=false)->k<W1.1.size->A.1[k]?=some o->B.1[k]?=some o:=by
  intro A B row k o f q X ho;refine(f.block k (Zq.1 ho).1 (fun e=>?_)).trans ho;have:=(q k e.symm).1;omega
 have J:∀{A:World}{row:Option Nat},(∀r,row=some r->W1.1.size<=r/\∃o:Obj,A.1[r]?=some o/\o.isCells=false)->(∀r,row=some r->w.1.size<=r/\∃o:Obj,A.1[r]?=some o/\o.isCells=false) :=
  fun q r e=>⟨by have:=(q r e).1;omega,(q r e).2⟩
 refine(ag (w.1.size+1) (fun pre W=>(I pre W/\W.1[w.1.size+1]?=some (.loop (R .ready none)))/\W.1[w.1.size]?=some (.deferred (some [])))
  (fun pre W=>(Ix pre W/\W.1[w.1.size+1]?=some (.loop (R .done (some .ret))))/\W.1[w.1.size]?=some (.deferred (some []))) W1 hb1
  (fun s A B row hs f q=>⟨⟨hI s A B row hs.1.1 f (J q),m f q oq hs.1.2⟩,m f q oq hs.2⟩)
  (fun s A B row hs f q=>⟨⟨L s A B row hs.1.1 f (J q),m f q oq hs.1.2⟩,m f q oq hs.2⟩)
  (fun pre W1 h=>aj pre W1 h.1.1) ?_ ⟨⟨hI.alloc _ (hI.alloc _ h0),hL⟩,hD⟩).mono ?_
 .rintro pre x W ⟨⟨hi,H⟩,X⟩ ap;refine⟨fn,_,assign,body,run_yield (P:=P) (args:=encs x) H (aq x),roundIn_of_wpIn hfn (y _ pre x W _ hi ap (fun G Wa hba hia hax=>?_))⟩;have E:=(hba.block _ (Zq.1 H).1).trans H;have an:=(hba.block _ (Zq.1 X).1).trans X;have ao:w.1.size+1<Wa.1.size:=(Zq.1 E).1;have au:w.1.size+1<W.1.size:=(Zq.1 H).1;refine⟨_,run_beginRound E rfl,?_⟩;have Y:(Wa.putObj (w.1.size+1) (.loop { R .ready none with state:=.busy })).1[w.1.size+1]?=some (.loop { R .ready none with state:=.busy }):=World.putObj_heap_same ao;have ae:(Wa.putObj (w.1.size+1) (.loop { R .ready none with state:=.busy })).1[w.1.size]?=some (.deferred (some [])):=(World.putObj_heap_other oq).trans an;have ak:Kp W Wa:=al _ _ hba;have ab:Kp W (Wa.putObj (w.1.size+1) (.loop { R .ready none with state:=.busy })):=M ak (aa _ _ _ _ oq E rfl);refine wpIn_mono (O _ pre x G _ oq ⟨_,Y⟩ (hI.putObj _ hia oq E rfl) ((ah pre x G).putObj (s:=()) _ hax oq E rfl)) ?_;rintro e a3 W3 hp
  cases e with
  | normal =>
   obtain⟨z,af,V⟩:=hp;have j:=z.same _ _ oq Y rfl;have T:=z.same _ _ (Zc _) ae rfl;exact⟨_,_,run_endRound (P:=P) none j,.inl ⟨rfl,⟨⟨hI.putObj _ V oq j rfl,World.putObj_heap_same (Zq.1 j).1⟩,(World.putObj_heap_other oq).trans T⟩,M (M ab af) (aa _ _ _ _ oq j rfl)⟩⟩
  | ret =>
   obtain⟨z,_,V⟩:=hp;have j:=z.same _ _ oq Y rfl;have T:=z.same _ _ (Zc _) ae rfl;exact⟨_,_,run_endRound (P:=P) (some .ret) j,.inr ⟨rfl,⟨L.putObj _ V oq j rfl,World.putObj_heap_same (Zq.1 j).1⟩,(World.putObj_heap_other oq).trans T⟩⟩
  | exit id=>obtain⟨_,h,_⟩:=hp;cases h
  | goto t=>obtain⟨_,h,_⟩:=hp;cases h
  | panic ch=>exact hp.elim
  | outgrown=>exact hp.elim
 rintro e W2 ⟨⟨v,rfl⟩,(⟨xs,hS,⟨hi,H⟩,X⟩|⟨pre,am,⟨hi,H⟩,X⟩)⟩
 .exact⟨none,_,run_endLoop (P:=P) H (by simp[R]),U _ xs _ (Zc _) hS (hI.putObj _ hi oq H rfl) ((World.putObj_heap_other oq).trans X)⟩
 exact⟨some .ret,_,run_endLoop (P:=P) H (by simp[R]),Z _ pre _ (Zc _) am (L.putObj _ hi oq H rfl) ((World.putObj_heap_other oq).trans X)⟩
attribute [local go_sem] ZU
abbrev RdX:=AD × Int × OA × Nat
def rdP(x:RdX):AD × Int:=(x.1,x.2.1)
def rdT(l:List TD):List (AD × Int):=l.flatMap (fun t=>t.args.map (fun a=>(a,0)))
def XR(f:FD):List (AD × Int):=rdT f.tasks++f.tells.map (fun t=>(t.arg,t.dl))
def rdE(x:RdX):Array Value:=#[.agg #[.int .i64 x.1.src,.slice x.2.2.1 x.1.ops.length x.2.2.2],.int .i64 x.2.1]
def Zgi(wS:World)(f:FD)(pre:List RdX)(x:RdX)(_:World):Prop:=(∃r,pre.map rdP++rdP x::r=XR f)/\Row OpR 3 wS x.1.ops x.2.2.1
def Zhd(f:FD)(pre:List RdX):Prop:=∃r,pre.map rdP++r=XR f
theorem jM{l:List TD}(h:i<l.length):rdT (l.take (i+1))=rdT (l.take i)++l[i].args.map (fun a=>(a,0)):=by
 unfold rdT;rw[Zw h,List.flatMap_append];simp
theorem ZeG(h:i<f.tasks.length)(m:k<f.tasks[i].args.length):∃r,(rdT (f.tasks.take i)++(f.tasks[i].args.take k).map (fun a=>(a,(0:Int))))++(f.tasks[i].args[k],0)::r=XR f:=by
 refine⟨(f.tasks[i].args.drop (k+1)).map (fun a=>(a,0))++rdT (f.tasks.drop (i+1))++f.tells.map (fun t=>(t.arg,t.dl)),?_⟩;have g:rdT f.tasks=rdT (f.tasks.take i)++f.tasks[i].args.map (fun a=>(a,0))++rdT (f.tasks.drop (i+1)):=by
  rw[<-jM h];unfold rdT;rw[<-List.flatMap_append,List.take_append_drop]
 have j:f.tasks[i].args.map (fun a=>(a,(0:Int)))=(f.tasks[i].args.take k).map (fun a=>(a,0))++(f.tasks[i].args[k],0)::(f.tasks[i].args.drop (k+1)).map (fun a=>(a,0)):=by
  have e:f.tasks[i].args=f.tasks[i].args.take k++f.tasks[i].args[k]::f.tasks[i].args.drop (k+1):=by rw[<-ZO m,List.take_append_drop]
  exact(Z4 (List.map (fun a=>(a,(0:Int)))) e).trans (by rw[ZV,List.map_cons])
 unfold XR;rw[g,j];simp[List.append_assoc]
theorem Zc5(j:k<f.tells.length):∃r,(rdT f.tasks++(f.tells.take k).map (fun t=>(t.arg,t.dl)))++(f.tells[k].arg,f.tells[k].dl)::r=XR f:=by
 refine⟨(f.tells.drop (k+1)).map (fun t=>(t.arg,t.dl)),?_⟩;have e:f.tells=f.tells.take k++f.tells[k]::f.tells.drop (k+1):=by rw[<-ZO j,List.take_append_drop]
 have g:f.tells.map (fun t=>(t.arg,t.dl))=(f.tells.take k).map (fun t=>(t.arg,t.dl))++(f.tells[k].arg,f.tells[k].dl)::(f.tells.drop (k+1)).map (fun t=>(t.arg,t.dl)):=(Z4 (List.map (fun t:LD=>(t.arg,t.dl))) e).trans (by rw[ZV,List.map_cons]);unfold XR;rw[g,List.append_assoc]
def FlB(W:World)(b:Nat)(f:FD)(ai an aT al:OA)(ci cn ct cl:Nat):Prop:=W.1[b]?=some (.cells #[.slice ai f.ins.length ci,.slice an f.nods.length cn,.slice aT f.tasks.length ct,.slice al f.tells.length cl] 35 (0,0))
def RdR(wS:World)(f:FD)(ai an aT al:OA)(ci cn ct cl b:Nat)(W:World):Prop:=Below wS.1.size wS W/\FlB W b f ai an aT al ci cn ct cl
theorem Ze1(h:Row vw 4 w f.tasks g)(hi:i<f.tasks.length):∃b o ad cap,g=some ⟨b,o,none⟩/\b<w.1.size/\w.cell? ⟨b,o+i*4,none⟩=some (.int .i64 f.tasks[i].node)/\w.cell? ⟨b,o+i*4+1,none⟩=some (.int .i64 f.tasks[i].per)/\w.cell? ⟨b,o+i*4+2,none⟩=some (.int .i64 f.tasks[i].ph)/\w.cell? ⟨b,o+i*4+3,none⟩=some (.slice ad f.tasks[i].args.length cap)/\Row xP 2 w f.tasks[i].args ad:=by
 obtain⟨b,o,e,hb,j,m,q,ad,cap,v,x⟩:=h.at hi;exact⟨b,o,ad,cap,e,hb,j,m,q,v,x⟩
theorem Zgj(f:FD)(ai an aT al:OA)(ci cn ct cl b n l:Nat)(J Jx:List RdX->World->Prop)(W:World)(hJ:OwnFrom W.1.size J)(hf:FAP wS f ai an aT al)(ap:∀pre W1,J pre W1->RdR wS f ai an aT al ci cn ct cl b W1)
  (hY:∀m pre (x:RdX) W1,J pre W1->Zgi wS f pre x W1->YieldAt Fence.wide m prog l (rdE x) W1 fun e W'=>(e=.returned (.bool true)/\J (pre++[x]) W'/\True)\/(e=.returned (.bool false)/\Jx (pre++[x]) W'))
  (h0:J [] W) :
  CallsIn Fence.wide n prog 168 #[.func (.yield l) #[] #[],.pointer (some ⟨b,0,none⟩)] W fun e W'=>(∃v,e=.returned v)/\((∃xs,xs.map rdP=XR f/\J xs W')\/(∃pre,Zhd f pre/\Jx pre W')):=by
 have HY:=hid hY;have az:=hid h0;have HJ:=hid hJ;have HR:=hid ap;obtain⟨⟨x0,x1,x2,x3⟩,xf⟩:=Yy (ap _ _ h0).2;obtain⟨T,hT⟩:=ez f.tasks.length;obtain⟨L,hL⟩:=ez f.tells.length;have G:=hf.lens;have ay:=hid hf.args;have be:=hid hf.tasks;have bc:=hid hf.tells;rw[hT] at x2 G;rw[hL] at x3 G;have HT:=hid hT;have HL:=hid hL;obtain⟨_,_,bl,bk⟩:=G;clear hY h0 hJ ap hT hL hf;refine callsIn_of_wp func168 rfl trivial ?_ rfl;simp only[ntmps168,ZJ,Zp,Zx,Nat.reduceAdd,Nat.reduceSub,ZG,ZF,ZM,ZK,ZN,ZD];gi_wp2;clear x0 x1 x2 x3 xf;gi_loopw [12] (fun v wr=>Hid (∃(i:Nat)(pre:List RdX),v=.int .i64 (i:Int)/\i<=T/\pre.map rdP=rdT (f.tasks.take i)/\J pre wr)) (fun v _=>T-(intOf v).toNat)
 case atStart=>exact⟨0,[],rfl,Zk _,rfl,az.o⟩
 obtain⟨i,pre,rfl,hi,ae,X⟩:=hrel.o;clear hrel;have aq:=hid X;have ac:=hid ae;have O:=HR.o _ _ X;clear X ae;by_cases Y:i<T
 .obtain⟨bb,oo,ad,cap,bg,av,y0,y1,y2,y3,af⟩:=Ze1 be.o (i:=i) (by rw[HT.o];exact Y);have ag:=hid af;rw[<-O.1.cell (p:=⟨bb,_,none⟩) av] at y0 y1 y2 y3;have bj:=Zd av O.1.size;have I:=hid (ay.o _ (Zi (show i<f.tasks.length by rw[HT.o];exact Y)));have aj:=hid (fun k hk=>ZeG (f:=f) (i:=i) (k:=k) (by rw[HT.o];exact Y) hk);have am:=hid (jM (l:=f.tasks) (i:=i) (by rw[HT.o];exact Y));obtain⟨td,aa⟩:∃td,f.tasks[i]'(by rw[HT.o];exact Y)=td:=⟨_,rfl⟩;rw[aa] at y0 y1 y2 y3 I aj am ag;obtain⟨node,aw,ph,args⟩:=td;simp only at y0 y1 y2 y3 I aj am ag;obtain⟨A,hA⟩:=ez args.length;have HA:=hid hA;have bh:=I.o.1;rw[hA] at y3 bh;have i1:(i:Int)<(T:Int):=oq;have i0:(0:Int)<=(i:Int):=oq;have bm:IntKind.i64.wrap ((i:Int)+1)=((i+1:Nat):Int):=ZL _ oq;clear O af aa hA;obtain⟨w0,rfl⟩:=ey wr;rw[bg];gi_wp2;clear y0 y1 y2 y3;gi_loopw [19] (fun v wq=>Hid (∃(k:Nat)(H:List RdX),v=.int .i64 (k:Int)/\k<=A/\H.map rdP=rdT (f.tasks.take i)++(args.take k).map (fun a=>(a,(0:Int)))/\J H wq)) (fun v _=>A-(intOf v).toNat)
  case atStart=>exact⟨0,pre,rfl,Zk _,by rw[ac.o];simp,X6 HJ.o aq.o bq⟩
  obtain⟨k,H,rfl,hk,Z,X⟩:=hrel.o;clear hrel;have z:=hid X;have F:=hid Z;have O:=HR.o _ _ X;clear X Z;by_cases j:k<A
  .obtain⟨ba,oa,e2,V,z0,y,g,z1,C⟩:=ag.o.at (i:=k) (by rw[HA.o];exact j);subst e2;rw[<-O.1.cell (p:=⟨ba,_,none⟩) V] at z0 z1;have au:=Zd V O.1.size;have M:=hid C;obtain⟨r,R⟩:=aj.o k (by rw[HA.o];exact j);have D:(args.take (k+1)).map (fun a=>(a,(0:Int)))=(args.take k).map (fun a=>(a,(0:Int)))++[(args[k]'(by rw[HA.o];exact j),0)]:=by rw[Zw (by rw[HA.o];exact j),ZV];rfl
   have ar:=I.o.2 _ (Zi (show k<args.length by rw[HA.o];exact j));obtain⟨a,ha⟩:∃a,args[k]'(by rw[HA.o];exact j)=a:=⟨_,rfl⟩;rw[ha] at z0 z1 M R D ar;rw[<-F.o] at R;obtain⟨fn,ax,assign,body,hy,U⟩:=HY.o (n-1) H (a,0,y,g) (wr.alloc (.cells #[.int .i64 a.src,.slice y a.ops.length g] 92)) (X6 HJ.o z.o bq) ⟨⟨r,R⟩,M.o⟩;simp only[rdE] at hy;have ah:=hid U;have ao:=hid D;have j1:(k:Int)<(A:Int):=oq;have j0:(0:Int)<=(k:Int):=oq;have bi:IntKind.i64.wrap ((k:Int)+1)=((k+1:Nat):Int):=ZL _ oq;have ak:=hid R;clear U D R O C ha;gi_wp2;refine⟨(fun h=>by cases h),ah.o.mono ?_⟩;rintro e W1 (⟨rfl,q,_⟩|⟨rfl,q⟩)
   .have E:=hid q;clear q hy;gi_wp2;go_roundw
    case rel=>exact⟨k+1,H++[(a,0,y,g)],by go_num,oq,by rw[ZV,F.o,ao.o,List.append_assoc];rfl,E.o⟩
    simp[intOf];omega
   have E:=hid q;clear q hy;gi_wp2;exact Zl (v:=.tuple #[]) (by simp only[results,results168];go_simp) rfl ⟨⟨_,rfl⟩,.inr ⟨H++[(a,0,y,g)],⟨r,by rw[ZV,List.append_assoc];exact ak.o⟩,E.o⟩⟩
  obtain rfl:k=A:=oq;gi_wp2;go_roundw
  case rel=>exact⟨i+1,H,by go_num,oq,by rw[am.o,F.o,<-HA.o,ZT],z.o⟩
  simp[intOf];omega
 obtain rfl:i=T:=oq;obtain⟨⟨x0,x1,x2,x3⟩,xf⟩:=Yy O.2;rw[HL.o] at x3;have bd:=hid (show pre.map rdP=rdT f.tasks by rw[ac.o,<-HT.o,ZT]);clear O;obtain⟨w0,rfl⟩:=ey wr;gi_wp2;clear x0 x1 x2 x3 xf;gi_loopw [32] (fun v wq=>Hid (∃(k:Nat)(H:List RdX),v=.int .i64 (k:Int)/\k<=L/\H.map rdP=rdT f.tasks++(f.tells.take k).map (fun t=>(t.arg,t.dl))/\J H wq)) (fun v _=>L-(intOf v).toNat)
 case atStart=>exact⟨0,pre,rfl,Zk _,by rw[bd.o];simp,aq.o⟩
 obtain⟨k,H,rfl,hk,Z,X⟩:=hrel.o;clear hrel;have z:=hid X;have F:=hid Z;have O:=HR.o _ _ X;clear X Z;by_cases j:k<L
 .obtain⟨ba,oa,bf,V,z0,z1,z2,z4,y,g,z3,C⟩:=bc.o.at (i:=k) (by rw[HL.o];exact j);rw[<-O.1.cell (p:=⟨ba,_,none⟩) V] at z0 z1 z2 z3 z4;have au:=Zd V O.1.size;have M:=hid C;obtain⟨r,R⟩:=Zc5 (f:=f) (k:=k) (by rw[HL.o];exact j);have D:(f.tells.take (k+1)).map (fun t=>(t.arg,t.dl))=(f.tells.take k).map (fun t=>(t.arg,t.dl))++[((f.tells[k]'(by rw[HL.o];exact j)).arg,(f.tells[k]'(by rw[HL.o];exact j)).dl)]:=by rw[Zw (by rw[HL.o];exact j),ZV];rfl
  obtain⟨td,aa⟩:∃td,f.tells[k]'(by rw[HL.o];exact j)=td:=⟨_,rfl⟩;rw[aa] at z0 z1 z2 z3 z4 M R D;rw[<-F.o] at R;obtain⟨aw,ph,⟨src,ab⟩,dl⟩:=td;simp only at z0 z1 z2 z3 z4 M R D;obtain⟨fn,ax,assign,body,hy,U⟩:=HY.o (n-1) H (⟨src,ab⟩,dl,y,g) (wr.alloc (.cells #[.int .i64 aw,.int .i64 ph,.int .i64 src,.slice y ab.length g,.int .i64 dl] 94)) (X6 HJ.o z.o bq) ⟨⟨r,R⟩,M.o⟩;simp only[rdE] at hy;have ah:=hid U;have ao:=hid D;have ak:=hid R;have j1:(k:Int)<(L:Int):=oq;have j0:(0:Int)<=(k:Int):=oq;have bi:IntKind.i64.wrap ((k:Int)+1)=((k+1:Nat):Int):=ZL _ oq;clear U D R O C aa;rw[bf];gi_wp2;refine⟨(fun h=>by cases h),ah.o.mono ?_⟩;rintro e W1 (⟨rfl,q,_⟩|⟨rfl,q⟩)
  .have E:=hid q;clear q hy;gi_wp2;go_roundw
   case rel=>exact⟨k+1,H++[(⟨src,ab⟩,dl,y,g)],by go_num,oq,by rw[ZV,F.o,ao.o,List.append_assoc];rfl,E.o⟩
   simp[intOf];omega
  have E:=hid q;clear q hy;gi_wp2;exact Zl (v:=.tuple #[]) (by simp only[results,results168];go_simp) rfl ⟨⟨_,rfl⟩,.inr ⟨H++[(⟨src,ab⟩,dl,y,g)],⟨r,by rw[ZV,List.append_assoc];exact ak.o⟩,E.o⟩⟩
 obtain rfl:k=L:=oq;gi_wp2;go_end0;exact⟨⟨_,rfl⟩,.inl ⟨H,by rw[F.o,<-HL.o,ZT];rfl,z.o⟩⟩
theorem Zc7(f:FD)(ai an aT al:OA)(ci cn ct cl b n:Nat)(w:World)(hf:FAP wS f ai an aT al) :
  ZgT Fence.wide n prog 168 #[.pointer (some ⟨b,0,none⟩)] rdE (RdR wS f ai an aT al ci cn ct cl b) (Zgi wS f) (fun _ _=>True) (fun xs=>xs.map rdP=XR f) (Zhd f) w:=fun l J Jx W hW hJ hJx hR hY h0 =>
 Zgj f ai an aT al ci cn ct cl b n l J Jx W hJ hf hR (fun m pre x W1 hj ho=>YieldAt.deep rfl m (hY pre x W1 hj ho)) h0
def Y3(f:FD)(x:AD × Int):List (Int × Int):=ckQ ((XV f x.1.src).getD (0,0)) x.1.ops x.1.ops.length
def stepW(f:FD)(s:Int × Int)(x:AD × Int):Option (Int × Int):=match clock.YQ 1 (Y3 f x++[(s.2,0)]) with
 | none=>none
 | some h=>if 4000<max s.1 (Qj (Y3 f x)+x.2) then none else some (max s.1 (Qj (Y3 f x)+x.2),h)
def JQ(f:FD):List (AD × Int)->Int × Int->Option (Int × Int)
 | [],s=>some s
 | x::l,s=>(stepW f s x).bind (JQ f l)
theorem zn(f:FD):∀(l:List (AD × Int))(s:Int × Int)(m:List (AD × Int)),JQ f (l++m) s=(JQ f l s).bind (JQ f m)
 | [],s,m=>rfl
 | x::l,s,m=>by
  show(stepW f s x).bind (JQ f (l++m))=((stepW f s x).bind (JQ f l)).bind (JQ f m)
  cases stepW f s x with
  | none=>rfl
  | some t=>exact zn f l t m
theorem ZdF(f:FD)(x:AD × Int)(s:Int × Int):JQ f [x] s=stepW f s x:=by
 show(stepW f s x).bind (JQ f [])=_
 cases stepW f s x<;>rfl
def kD:Option (Int × Int)->Value
 | none=>.tuple #[.int .i64 0,.int .i64 0,.int .i64 8]
 | some s=>.tuple #[.int .i64 s.1,.int .i64 s.2,.int .i64 0]
structure RdG (f:FD):Prop where
 src:∀x∈XR f,∃c,XV f x.1.src=some c
 few:∀x∈XR f,x.1.ops.length<=20/\I64 x.1.src
 dl:∀x∈XR f,0<=x.2/\x.2<=1000
 clk:∀x∈XR f,∀i,i<=x.1.ops.length->1<=(XT ((XV f x.1.src).getD (0,0)) x.1.ops i).1/\(XT ((XV f x.1.src).getD (0,0)) x.1.ops i).1<=2000/\0<=(XT ((XV f x.1.src).getD (0,0)) x.1.ops i).2/\(XT ((XV f x.1.src).getD (0,0)) x.1.ops i).2<=2000
 ok:∀x∈XR f,∀i,i<x.1.ops.length->(clock.YD (XT ((XV f x.1.src).getD (0,0)) x.1.ops i).1 (XT ((XV f x.1.src).getD (0,0)) x.1.ops i).2 (x.1.ops.getD i (0,0,0)).1 (x.1.ops.getD i (0,0,0)).2.1 (x.1.ops.getD i (0,0,0)).2.2).2.2=0
theorem RdG.get(h:RdG f)(j:x∈XR f):∀k,k<(Y3 f x).length->1<=((Y3 f x).getD k (0,0)).1/\((Y3 f x).getD k (0,0)).1<=2000/\0<=((Y3 f x).getD k (0,0)).2/\((Y3 f x).getD k (0,0)).2<=2000:=by
 intro k g;unfold Y3 at *;rw[GF] at g;rw[Zeb _ _ oq];exact h.clk x j k oq
theorem ZaT(h:RdG f)(g:x∈XR f):0<=Qj (Y3 f x)/\Qj (Y3 f x)<=100000:=by
 have q:(Y3 f x).length=x.1.ops.length+1:=GF _ _ _;have m:=(h.few x g).1;have j:=xF (l:=Y3 f x) (fun k hk=>by have:=h.get g k hk;omega) oq ((Y3 f x).length-1) oq;unfold Qj;omega
theorem qL{h p:Int}(h1:1<=h)(p1:1<=p):1<=clock.VH h p:=arith.U4 (arith.xp (x:=p) h1) p1
theorem qC:∀(l:List (Int × Int))(h k:Int),(∀c∈l,1<=c.1)->1<=h->h<=2000->clock.YQ h l=some k->1<=k/\k<=2000
 | [],h,k,_,h1,h2,e=>by injection e with e;omega
 | c::l,h,k,hl,h1,h2,e=>by
  rw[clock.YQ] at e;by_cases ho:2000<clock.VH h c.1
  .rw[Z3 ho] at e;cases e
  rw[Z2 ho] at e;exact qC l _ k (fun c hc=>hl c (List.mem_cons_of_mem _ hc)) (qL h1 (hl c List.mem_cons_self)) oq e
theorem Eo(h:RdG f)(m:x∈XR f):∀c∈Y3 f x,1<=c.1/\c.1<=2000/\0<=c.2/\c.2<=2000:=by
 intro c j;obtain⟨k,g,e⟩:=Yn j;have:=h.get m k g;rw[Zf,Ze g] at this;simp only[Ya] at this;rw[e] at this;exact this
theorem j8(h:RdG f)(m:x∈XR f){s t:Int × Int}(j:0<=s.1/\s.1<=4000/\1<=s.2/\s.2<=2000)(e:stepW f s x=some t):0<=t.1/\t.1<=4000/\1<=t.2/\t.2<=2000:=by
 unfold stepW at e
 cases hh:clock.YQ 1 (Y3 f x++[(s.2,0)]) with
 | none=>rw[hh] at e;cases e
 | some k =>
  rw[hh] at e;simp only at e;have hb:=qC _ 1 k (fun c hc=>by
   rcases List.mem_append.1 hc with hc|hc
   .exact(Eo h m c hc).1
   obtain rfl:=List.mem_singleton.1 hc;exact j.2.2.1) oq oq hh
  by_cases g:4000<max s.1 (Qj (Y3 f x)+x.2)
  .rw[Z3 g] at e;cases e
  rw[Z2 g] at e;injection e with e
  subst e;exact⟨by simp only;omega,by simp only;omega,hb.1,hb.2⟩
theorem xK{f:FD}(h:RdG f):∀(l:List (AD × Int))(s t:Int × Int),(∀x∈l,x∈XR f)->(0<=s.1/\s.1<=4000/\1<=s.2/\s.2<=2000)->JQ f l s=some t->0<=t.1/\t.1<=4000/\1<=t.2/\t.2<=2000
 | [],s,t,_,hs,e=>by injection e with e;subst e;exact hs
 | x::l,s,t,hl,hs,e=>by
  have e2:(stepW f s x).bind (JQ f l)=some t:=e
  cases hh:stepW f s x with
  | none=>rw[hh] at e2;cases e2
  | some u =>
   rw[hh] at e2;exact xK h l u t (fun y hy=>hl y (List.mem_cons_of_mem _ hy)) (j8 h (hl x List.mem_cons_self) hs hh) e2
def WnI(f:FD)(ai an aT al:OA)(ci cn ct cl n s:Nat)(w:World)(pre:List RdX)(W:World):Prop :=
 ∃sv hv:Int,JQ f (pre.map rdP) (0,1)=some (sv,hv)/\Boxed W s 2 (.int .i64 sv)/\Boxed W (s+1) 2 (.int .i64 hv)/\FlB W n f ai an aT al ci cn ct cl /\
  Boxed W (n+1) 2 (.int .i64 0)/\Boxed W (n+1+1) 2 (.int .i64 0)/\Boxed W (n+1+1+1) 38 (.int .i64 0)/\Below w.1.size w W
def WnX(f:FD)(n:Nat)(w:World)(pre:List RdX)(W:World):Prop :=
 JQ f (pre.map rdP) (0,1)=none/\Boxed W (n+1) 2 (.int .i64 0)/\Boxed W (n+1+1) 2 (.int .i64 0)/\Boxed W (n+1+1+1) 38 (.int .i64 8)/\Below w.1.size w W
theorem Y2{A B:World}{row:Option Nat}{cs:Array Value}{fr:Nat × Nat}(h:A.1[b]?=some (.cells cs t fr))(hg:A.grownBy B row)(hr:∀r,row=some r->∃o:Obj,A.1[r]?=some o/\o.isCells=false):B.1[b]?=some (.cells cs t fr) :=
 (hg.block b (Zb h) (fun e=>by obtain⟨o,ho,hc⟩:=hr b e.symm;rw[h] at ho;injection ho with ho;subst ho;cases hc)).trans h
theorem WnI.below{j an g m:OA}{q v x cl n s:Nat}{w W W':World}{pre:List RdX}(h:WnI f j an g m q v x cl n s w pre W)(hb:Below W.1.size W W'):WnI f j an g m q v x cl n s w pre W':=by
 obtain⟨I,H,G,y,z,A,C,D,E,F⟩:=h;exact⟨I,H,G,(hb.block _ (Boxed.lt y)).trans y,(hb.block _ (Boxed.lt z)).trans z,(hb.block _ (Zb A)).trans A,(hb.block _ (Boxed.lt C)).trans C,(hb.block _ (Boxed.lt D)).trans D,(hb.block _ (Boxed.lt E)).trans E,F.trans (hb.mono F.size)⟩
theorem WnI.own{ai an aT al:OA}{ci cn ct cl n s:Nat}(hb:w.1.size<=base):OwnFrom base (WnI f ai an aT al ci cn ct cl n s w):=fun p A B row h hg hrw=>by
 obtain⟨sv,hv,h0,h1,h2,h3,h4,h5,h6,h7⟩:=h;have hc:=fun r e=>(hrw r e).2
 exact⟨sv,hv,h0,Y2 h1 hg hc,Y2 h2 hg hc,Y2 h3 hg hc,Y2 h4 hg hc,Y2 h5 hg hc,Y2 h6 hg hc,ownFrom_below (β:=Unit) (Zc _) hb () A B row h7 hg hrw⟩
theorem WnX.own(hb:w.1.size<=base):OwnFrom base (WnX f n w):=fun p A B row h hg hrw=>by
 obtain⟨h0,h4,h5,h6,h7⟩:=h;have hc:=fun r e=>(hrw r e).2
 exact⟨h0,Y2 h4 hg hc,Y2 h5 hg hc,Y2 h6 hg hc,ownFrom_below (β:=Unit) (Zc _) hb () A B row h7 hg hrw⟩
