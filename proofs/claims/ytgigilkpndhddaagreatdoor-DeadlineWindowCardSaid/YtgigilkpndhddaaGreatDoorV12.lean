/- Parts of the proof. -/
import Derived.Test.YtgigilkpndhddaaGreatDoorV02
import Derived.Test.YtgigilkpndhddaaGreatDoorV11
set_option linter.all false
set_option maxRecDepth 100000
set_option maxHeartbeats 16000000
namespace Go.Proofs.YtgigilkpndhddaaGreatDoor.syn
open Tryz
open Go.RowKit
attribute [local go_sem] ZT
theorem qq{ℓ n id:Nat}{P:Program}{ops:Array Oper}{Q:Exit→Act→World→Prop}{a:Act}{w:World}{S:World→Prop}(hm:P.follows .mixedOrders=true)(hd:ops.toList.all V7=true)(hlet:¬LetsOut Q)(hS:S w.drew)
  (h:S w.drew→wpAnyH P .any ops Q S ops.size (Array.replicate ops.size false) a w.drew):(Code.region id ops true).wpIn (Fence.wide.inRound ℓ) n P Q a w :=
 zx hm hd hlet (wpAny_of_held _ _ _ _ (h hS))
theorem Y3{W:World}{b c o:Nat}{t:TypeId}{v u:Value}(h:Boxed W b t v)(hb:b≠c):Boxed (W.setCell ⟨c,o,none⟩ u) b t v:=(Zr W ⟨c,o,none⟩ u b hb).trans h
theorem KO.of_belowW{W W':World}(h:Below W.heap.size W W'):KeepsOthers W W':=⟨h.size,fun k o ho _=>(h.block k (Zb ho)).trans ho⟩
theorem ZbU{W w9:World}{base:Nat}{e:TypeId}{size n:Nat}{v:Value}{xs:List Value}(ho:W.ownsRow base e size v n xs)(hg:W.grownBy w9 v.ownBlock):KeepsOthers W w9:=KeepsOthers.of_grownBy hg (fun j o2 hj hq=>by
 rcases ho.2 with ⟨rfl,_⟩|⟨g,cap,cur,rfl,_,hh,_⟩
 ·cases hj
 injection hj with hj
 subst hj;rw[hh] at hq;injection hq with hq
 subst hq;rfl)
theorem Js{w:World}{base:Nat}{e:TypeId}{size n:Nat}{v:Value}{xs:List Value}(h:w.ownsRow base e size v n xs)(q:0<n):∃g cap,v=.slice (some ⟨g,0,none⟩) n cap∧base≤g∧g<w.heap.size∧n≤cap∧∀j u,xs[j]?=some u→w.cell? ⟨g,j,none⟩=some u:=by
 rcases h.2 with ⟨_,hz⟩|⟨g,cap,cur,rfl,hb,hg,hnc,_⟩
 ·omega
 refine⟨g,cap,rfl,hb,Zb hg,hnc,fun j u hj=>?_⟩;obtain⟨x,f,m⟩:=Zcn h j u hj;injection f with f
 subst f;rw[show(⟨g,j,none⟩:Addr)=(⟨g,0,none⟩:Addr).add j from by unfold Addr.add;split<;>simp_all];exact m
theorem ZeU{t:Array Value}(h:t.size=46):t=#[slt t 0,slt t 1,slt t 2,slt t 3,slt t 4,slt t 5,slt t 6,slt t 7,slt t 8,slt t 9,slt t 10,slt t 11,slt t 12,slt t 13,slt t 14,slt t 15,slt t 16,slt t 17,slt t 18,slt t 19,slt t 20,slt t 21,slt t 22,slt t 23,slt t 24,slt t 25,slt t 26,slt t 27,slt t 28,slt t 29,slt t 30,slt t 31,slt t 32,slt t 33,slt t 34,slt t 35,slt t 36,slt t 37,slt t 38,slt t 39,slt t 40,slt t 41,slt t 42,slt t 43,slt t 44,slt t 45]:=JZ h
theorem uC{w:World}(a b c d:Value):Calls prog 29 #[.agg #[a,b,c,d]] w fun x w'=>x=.returned (.func (.func 75) #[] #[.pointer (some ⟨w.heap.size,0,none⟩)])∧Below w.heap.size w w'∧w'.heap.size=w.heap.size+1∧w'.heap[w.heap.size]?=some (.cells #[a,b,c,d] 34 (0,0)):=by
 go_enter func29,ntmps29;go_wp2;go_ret;exact⟨rfl,bq,by simp,Yw w _⟩
def S2W(s:Nat)(x y:Value)(w':World):Prop:=w'.cell? ⟨s,0,none⟩=some x∧w'.cell? ⟨s+1,0,none⟩=some y
theorem S2W.set{s b o:Nat}{x y v:Value}{w':World}(hb:b<s)(h:S2W s x y w'):S2W s x y (w'.setCell ⟨b,o,none⟩ v):=⟨(ZG w' ⟨b,o,none⟩ ⟨s,0,none⟩ v (by show b≠s;omega)).trans h.1,(ZG w' ⟨b,o,none⟩ ⟨s+1,0,none⟩ v (by show b≠s+1;omega)).trans h.2⟩
theorem zg{w:World}(f:FD)(U an T V:Option Addr)(ci cn ct cl:Nat)(hf:FAP w f U an T V)(hg:RdG f)
  (hR:∀W,Below w.heap.size w W→Calls prog 21 #[fv f U an T V ci cn ct cl] W fun x w'=>x=.returned (.bool true)∧Below W.heap.size W w')
  (hS:∀W,Below w.heap.size w W→∀i,I64 i→Calls prog 76 #[fv f U an T V ci cn ct cl,.int .i64 i] W fun x w'=>x=.returned (VO (XR f i))∧Below W.heap.size W w') :
  Calls prog 11 #[fv f U an T V ci cn ct cl] w fun x w'=>x=.returned (xB (Jd f (YV f) (0,1)))∧Below w.heap.size w w':=by
 have HF:=hid hf;have HG:=hid hg;have du:=hid hR;have dj:=hid (fun(x:AD × Int) (hx:x∈YV f) (ad:Option Addr) (cap:Nat) (ak:Row OpR 3 w x.1.ops ad) (W:World) (hb:Below w.heap.size w W)=>(show Calls prog 30 #[fv f U an T V ci cn ct cl,.agg #[.int .i64 x.1.src,.slice ad x.1.ops.length cap]] W fun e w'=>(∃v,e=.returned v∧w'.ownsRow W.heap.size 62 2 v (x.1.ops.length+1) (ckC (YN f x)))∧Below W.heap.size W w' from by
  obtain⟨c,hc⟩:=hg.src x hx;have:=yN (w:=W) (.slice U f.ins.length ci) (.slice an f.nods.length cn) (.slice T f.tasks.length ct) (.slice V f.tells.length cl) x.1.src c x.1.ops ad cap (by have:=(hg.few x hx).1;omega) (ak.below J8 hb)
   (fun W2 hb2=>by have h1:=hS W2 (hb.trans (hb2.mono hb.size)) x.1.src (hg.few x hx).2;rw[hc] at h1;exact h1)
  unfold YN;rw[hc];exact this))
 have dy:=hid (fun(x:AD × Int) (hx:x∈YV f) (W:World) (g cap:Nat) (hgs:g<W.heap.size) (hcap:x.1.ops.length+1≤cap) (ah:∀j u,(ckC (YN f x))[j]?=some u→W.cell? ⟨g,j,none⟩=some u)=>(show Calls prog 31 #[.slice (some ⟨g,0,none⟩) (x.1.ops.length+1) cap] W fun e w'=>e=.returned (.int .i64 (YW (YN f x)))∧Below W.heap.size W w' from by
  have hl:(YN f x).length=x.1.ops.length+1:=Jk _ _ _;have bl:=(hg.few x hx).1;have:=xq (w:=W) (YN f x) g 0 cap oq oq oq hgs (fun k hk=>by
   rw[ZD];exact⟨ah _ _ (V3 _ k hk).1,ah _ _ (V3 _ k hk).2⟩) (fun k hk=>by have:=hg.get hx k hk;omega)
  rw[hl] at this;exact this))
 have dp:=hid (fun(x:AD × Int) (hx:x∈YV f) (G:Int) (h1:1≤G) (h2:G≤2000) (W:World) (g cap:Nat) (hgs:g<W.heap.size) (ah:∀j u,(ckC (YN f x++[(G,0)]))[j]?=some u→W.cell? ⟨g,j,none⟩=some u)=>(show Calls prog 32 #[.slice (some ⟨g,0,none⟩) (x.1.ops.length+1+1) cap] W fun e w'=>e=.returned (clock.U2 (clock.YL 1 (YN f x++[(G,0)])))∧Below W.heap.size W w' from by
  have hl:(YN f x++[(G,0)]).length=x.1.ops.length+1+1:=by rw[Zx];unfold YN;rw[Jk];rfl
  have bl:=(hg.few x hx).1;have cu:∀k,k<(YN f x++[(G,0)]).length→clock.EV ((YN f x++[(G,0)]).getD k (0,0)):=by
   intro k hk;have hm:(YN f x++[(G,0)]).getD k (0,0)∈YN f x++[(G,0)]:=by rw[Zf,Ze hk];exact Zi hk
   unfold clock.EV;rcases List.mem_append.1 hm with hm|hm
   ·exact Vz hg hx _ hm
   rw[List.mem_singleton.1 hm];exact⟨h1,h2,by simp only;omega,by simp only;omega⟩
  have:=clock.vY (YN f x++[(G,0)]) g 0 cap W oq hgs (fun k hk=>by
   rw[ZD];exact⟨ah _ _ (V3 _ k hk).1,ah _ _ (V3 _ k hk).2⟩) cu
  rw[hl] at this;exact this))
 have dx:=hid (fun(x:AD × Int) (hx:x∈YV f)=>V9 hg hx);have di:=hid (fun(l:List (AD × Int)) (t:Int × Int) (hl:∀x∈l,x∈YV f) (e:Jd f l (0,1)=some t)=>gP hg l (0,1) t hl (by decide) e);have dm:=hid hg.dl;have dn:=hid hg.few;clear hf hR hS hg;unfold fv at *;refine(Zt (n:=6)).1 ?_;refine callsIn_of_wp_marks func11 rfl trivial ?_ rfl;simp only[ntmps11,ZI,Zp,Zw,Nat.reduceAdd,Nat.reduceSub,ZF,ZE,ZL,ZJ,ZM,ZC];gi_upto_region 1 with fail
 obtain⟨W1,ap⟩:∃W1,(((w.alloc (.cells #[.slice U f.ins.length ci,.slice an f.nods.length cn,.slice T f.tasks.length ct,.slice V f.tells.length cl] 34)).alloc (.cells #[.int .i64 0] 2)).alloc (.cells #[.int .i64 0] 2)).alloc (.cells #[.int .i64 0] 38)=W1:=⟨_,rfl⟩;have hB:Below w.heap.size w W1:=by rw[←ap];exact bq
 have ce:FlB W1 w.heap.size f U an T V ci cn ct cl:=by rw[←ap];exact(Za _ _ _ (by simp;omega)).trans ((Za _ _ _ (by simp;omega)).trans ((Za _ _ _ (by simp)).trans (Yw w _)))
 have de:Boxed W1 (w.heap.size+1) 2 (.int .i64 0):=by rw[←ap];have:=((Boxed.new (w.alloc (.cells #[.slice U f.ins.length ci,.slice an f.nods.length cn,.slice T f.tasks.length ct,.slice V f.tells.length cl] 34)) 2 (.int .i64 0)).alloc (.cells #[.int .i64 0] 2)).alloc (.cells #[.int .i64 0] 38);rwa [Zu] at this
 have df:Boxed W1 (w.heap.size+1+1) 2 (.int .i64 0):=by rw[←ap];have:=(Boxed.new ((w.alloc (.cells #[.slice U f.ins.length ci,.slice an f.nods.length cn,.slice T f.tasks.length ct,.slice V f.tells.length cl] 34)).alloc (.cells #[.int .i64 0] 2)) 2 (.int .i64 0)).alloc (.cells #[.int .i64 0] 38);rwa [Zu,Zu] at this
 have dg:Boxed W1 (w.heap.size+1+1+1) 38 (.int .i64 0):=by rw[←ap];have:=Boxed.new (((w.alloc (.cells #[.slice U f.ins.length ci,.slice an f.nods.length cn,.slice T f.tasks.length ct,.slice V f.tells.length cl] 34)).alloc (.cells #[.int .i64 0] 2)).alloc (.cells #[.int .i64 0] 2)) 38 (.int .i64 0);rwa [Zu,Zu,Zu] at this
 rw[ap];clear ap;obtain⟨⟨x0,x1,x2,x3⟩,xf⟩:=Yx ce;have HB:=hid hB;have HX:=hid (Zh ce (Zh de (Zh df dg)));clear hB ce de df dg;gi_upto_region 3 with (refine⟨trivial,?_⟩;gi_at_call 21;refine(Zt.2 (du.out _ HB.out)).mono ?_;rintro e q ⟨rfl,hb2⟩;have HB2:=hid hb2;clear hb2)
 gi_upto_region 4 with fail
 clear x0 x1 x2 x3 xf;have hb2:=HB2.out;have Z:=hid (Zh ((hb2.block _ (Zb HX.out.1)).trans HX.out.1) (Zh ((hb2.block _ HX.out.2.1.lt).trans HX.out.2.1) (Zh ((hb2.block _ HX.out.2.2.1.lt).trans HX.out.2.2.1) ((hb2.block _ HX.out.2.2.2.lt).trans HX.out.2.2.2))));obtain⟨W3,bd⟩:=ez ((q.alloc (.cells #[.int .i64 0] 2)).alloc (.cells #[.int .i64 1] 2));have ao:Below q.heap.size q W3:=by rw[←bd];exact bq
 have db:Boxed W3 q.heap.size 2 (.int .i64 0):=by rw[←bd];exact(Boxed.new q 2 (.int .i64 0)).alloc _
 have ca:Boxed W3 (q.heap.size+1) 2 (.int .i64 1):=by rw[←bd];have:=Boxed.new (q.alloc (.cells #[.int .i64 0] 2)) 2 (.int .i64 1);rwa [Zu] at this
 rw[bd];clear bd;have bp:Below w.heap.size w W3:=HB.out.trans ((hb2.mono HB.out.size).trans (ao.mono (Zm HB.out.size hb2.size)));have dq:=hid (show WnI f U an T V ci cn ct cl w.heap.size q.heap.size w [] W3 from ⟨0,1,rfl,db,ca,(ao.block _ (Zb Z.out.1)).trans Z.out.1,(ao.block _ (Boxed.lt Z.out.2.1)).trans Z.out.2.1,(ao.block _ (Boxed.lt Z.out.2.2.1)).trans Z.out.2.2.1,(ao.block _ (Boxed.lt Z.out.2.2.2)).trans Z.out.2.2.2,bp⟩);have eh:w.heap.size+1+1+1<q.heap.size:=by have:=HX.out.2.2.2.lt;have:=hb2.size;omega
 have ei:=ca.lt;obtain⟨⟨x0,x1,x2,x3⟩,xf⟩:=Yx ((ao.block _ (Zb Z.out.1)).trans Z.out.1);clear db ca hb2 ao bp;gi_wp2_with (refine⟨trivial,?_⟩;gi_at_call 29;refine(Zt.2 (uC _ _ _ _)).mono ?_;rintro e w4 ⟨rfl,hb4,cb,da⟩;have HB4:=hid hb4;have dt:=hid da;have dw:=hid cb;clear hb4 cb da);have cb:=dw.out;have dr:=hid (dq.out.below HB4.out);have dv:∀pre W,(WnI f U an T V ci cn ct cl w.heap.size q.heap.size w pre W∧FlB W W3.heap.size f U an T V ci cn ct cl)→RdR w f U an T V ci cn ct cl W3.heap.size W:=fun pre W h=>by
  obtain⟨⟨_,_,_,_,_,_,_,_,_,h7⟩,h8⟩:=h;exact⟨h7,h8⟩
 clear x0 x1 x2 x3 xf;refine Zfq (F:=Fence.wide) (gf:=75) (lb:=#[.pointer (some ⟨W3.heap.size,0,none⟩)]) rfl oq rfl trivial (enters_of func75 kq rfl)
  (Zcx f U an T V ci cn ct cl W3.heap.size _ w4 HF.out) (fun _ _=>trivial) (fun _ _ _ _ _ _ _=>trivial) (fun _ _ _=>trivial) (fun _=>rfl)
  (fun pre W=>WnI f U an T V ci cn ct cl w.heap.size q.heap.size w pre W∧FlB W W3.heap.size f U an T V ci cn ct cl) (WnX f w.heap.size w)
  (fun p A B row h hg hrw=>⟨WnI.own (base:=w4.heap.size) oq p A B row h.1 hg hrw,Y5 h.2 hg (fun r e=>(hrw r e).2)⟩) (WnX.own oq) dv ⟨dr.out,dt.out⟩
  (fun pre x a' W=>Zfs w f pre x W∧∃b7,w.heap.size≤b7∧W.heap[b7]?=some (.cells #[.int .i64 x.1.src,.slice x.2.2.1 x.1.ops.length x.2.2.2] 69 (0,0))∧a'.tmps.size=46∧slt a'.tmps 1=.pointer (some ⟨w.heap.size,0,none⟩)∧slt a'.tmps 2=.pointer (some ⟨w.heap.size+1,0,none⟩)∧slt a'.tmps 3=.pointer (some ⟨w.heap.size+1+1,0,none⟩)∧slt a'.tmps 4=.pointer (some ⟨w.heap.size+1+1+1,0,none⟩) ∧
   slt a'.tmps 5=.pointer (some ⟨q.heap.size,0,none⟩)∧slt a'.tmps 6=.pointer (some ⟨q.heap.size+1,0,none⟩)∧slt a'.tmps 7=.pointer (some ⟨b7,0,none⟩)∧slt a'.tmps 8=.int .i64 x.2.1∧a'.defers=[])
  (fun pre x a' s A C row hs hg hrw=>by
   obtain⟨h1,b7,h2,h3,h4⟩:=hs;exact⟨h1,b7,h2,Y5 h3 hg (fun r e=>(hrw r e).2),h4⟩) ?assign ?body ?done ?stop
 case assign =>
  rintro l pre ⟨a,dl,ad,cap⟩ W K ⟨hi,hq⟩ ed hK;have HI:=hid hi;have HQ:=hid hq;have bm:w.heap.size≤W.heap.size:=by obtain⟨_,_,_,_,_,_,_,_,_,h⟩:=hi;exact h.size
  clear hi hq;simp only[rdE];gi_wp2;exact hK _ _ bq ⟨HI.out.below bq,(Za _ _ _ (Zb HQ.out)).trans HQ.out⟩ ⟨ed,W.heap.size,bm,Yw W _,by simp,by simp[slt],by simp[slt],by simp[slt],by simp[slt],by simp[slt],by simp[slt],by simp[slt],by simp[slt],rfl⟩
 case body =>
  rintro l pre ⟨a,dl,ad,cap⟩ ⟨t,dd⟩ W hl hr ⟨hi,hq⟩ ⟨⟨⟨rs,az⟩,ak⟩,b7,ek,h7,cd,s1,s2,s3,s4,s5,s6,s7,s8,hd⟩;simp only at cd s1 s2 s3 s4 s5 s6 s7 s8 hd az ak h7;subst hd;rw[ZeU cd,s1,s2,s3,s4,s5,s6,s7,s8];generalize slt t 0=u0,slt t 9=u9,slt t 10=u10,slt t 11=u11,slt t 12=u12,slt t 13=u13,slt t 14=u14,slt t 15=u15,slt t 16=u16,slt t 17=u17,slt t 18=u18,slt t 19=u19,slt t 20=u20,slt t 21=u21,slt t 22=u22,slt t 23=u23,slt t 24=u24,slt t 25=u25,slt t 26=u26,slt t 27=u27,slt t 28=u28,slt t 29=u29,slt t 30=u30,slt t 31=u31,slt t 32=u32,slt t 33=u33,slt t 34=u34,slt t 35=u35,slt t 36=u36,slt t 37=u37,slt t 38=u38,slt t 39=u39,slt t 40=u40,slt t 41=u41,slt t 42=u42,slt t 43=u43,slt t 44=u44,slt t 45=u45;clear cd s1 s2 s3 s4 s5 s6 s7 s8 t;obtain⟨M,G,bg,i1,i2,i3,i4,i5,i6,i7⟩:=hi;have O:(a,dl)∈YV f:=by rw[←az];exact List.mem_append_right _ List.mem_cons_self
  have bx:=di.out (pre.map rdP) (M,G) (fun x hx=>by rw[←az];exact List.mem_append_left _ hx) bg;have ec:=dm.out _ O;have bl:=(dn.out _ O).1;have cc:=dx.out _ O;simp only at bx ec bl cc;obtain⟨n,hn⟩:=ez a.ops.length;have HN:=hid hn;have bh:=hid (fun W hb=>dj.out (a,dl) O ad cap ak W hb);have bb:=hid (fun W g cap h1 h2 h3=>dy.out (a,dl) O W g cap h1 h2 h3);have af:=hid (fun W g cap h1 h2=>dp.out (a,dl) O G bx.2.2.1 bx.2.2.2 W g cap h1 h2);have z:=hid (show Jd f ((pre++[(a,dl,ad,cap)]).map rdP) (0,1)=stepW f (M,G) (a,dl) by rw[ZU,ze,bg];exact Zc3 f _ _);obtain⟨X,hX⟩:=ez (YN f (a,dl));obtain⟨st,dc⟩:=ez (YW X);obtain⟨H,hH⟩:=ez (clock.YL 1 (X++[(G,0)]));unfold stepW at z;simp only at bh bb af z;rw[hX] at bh bb af z cc;rw[dc] at bb z cc;rw[hH] at af z;rw[hn] at bh bb af bl h7;obtain⟨⟨x0,x1,x2,x3⟩,xf⟩:=Yx i3;obtain⟨⟨z0,z1⟩,zf⟩:=YD h7;have cf:=hid i1;have cg:=hid i2;have aa:=hid i3;have ab:=hid i4;have ac:=hid i5;have aw:=hid i6;have bv:=hid i7;have ax:=hid hq;have ej:=hid hr;have bm:=i7.size;have eo:=Zb hq;have en:l<W.heap.size:=by obtain⟨r,h⟩:=hr;exact(Zq.1 h).1
  have er:=i2.lt;clear hX dc hH i1 i2 i3 i4 i5 i6 i7 hq hr az ak h7 O bg hn;gi_upto_region 8 with (refine⟨trivial,?_⟩;gi_at_call 30;refine(Zt.2 (bh.out _ bv.out)).mono ?_;rintro e w5 ⟨⟨v,rfl,bs⟩,hb5⟩;have ch:=hid bs;have HB5:=hid hb5;clear bs hb5)
  clear x0 x1 x2 x3 xf z0 z1 zf;obtain⟨g,vc,rfl,el,cq,ee,ah⟩:=Js ch.out oq;have dk:=hid ah;have cm:=hid (fun W' (hb:Below w5.heap.size w5 W')=>bb.out W' g vc (Zd cq hb.size) ee (fun j u hj=>(hb.cell (p:=⟨g,j,none⟩) cq).trans (dk.out j u hj)));have ep:=HB5.out.size;have e1:Boxed w5 q.heap.size 2 (.int .i64 M):=(HB5.out.block _ cf.out.lt).trans cf.out;have c5:=e1.cell;have f5:=e1.frozen;have l5:=e1.lt;have bt:=hid e1;have ef:IntKind.i64.wrap (st+dl)=st+dl:=ZK _ oq;clear e1 ah;refine qq (S:=(fun _:World=>True)) kq kq (by rintro⟨_,_,h⟩;exact h) trivial (fun hHeld=>?_);refine tk 1 hHeld ?_;refine tk 3 hHeld ?_;refine rz 0 2 (fun K hK=>?_) fun K hK=>?_
  go_simp;refine hK.out _ _ (fun hHeld=>?_);clear hK K;refine ry 2 fun K hK=>?_
  (go_simp;go_at_call 31;refine(cm.out _ bq).mono ?_;rintro y w6 ⟨rfl,hb6⟩;have HB6:=hid (show Below w5.heap.size w5 w6 from(Zg _ _).drew.trans hb6);clear hb6)
  refine hK.out _ _ (fun hHeld=>?_);clear hK K;have c6:=(HB6.out.cell (p:=⟨q.heap.size,0,none⟩) l5).trans c5;have f6:=Boxed.frozen (t:=2) (B:=q.heap.size) ((HB6.out.block _ l5).trans bt.out);refine tk 4 hHeld ?_;refine tk 5 hHeld ?_;refine ry 6 fun K hK=>?_
  go_simp;refine hK.out _ _ (fun hHeld=>?_);clear hK K;refine Zy kq ?_ _;rotate_left
  (go_simp;go_at_call 31;refine(cm.out _ bq).mono ?_;rintro y w6 ⟨rfl,hb6⟩;have HB6:=hid (show Below w5.heap.size w5 w6 from(Zg _ _).drew.trans hb6);clear hb6)
  refine hK.out _ _ (fun hHeld=>?_);clear hK K;have c6:=(HB6.out.cell (p:=⟨q.heap.size,0,none⟩) l5).trans c5;have f6:=Boxed.frozen (t:=2) (B:=q.heap.size) ((HB6.out.block _ l5).trans bt.out);refine tk 4 hHeld ?_;refine ry 0 fun K hK=>?_
  go_simp;refine hK.out _ _ (fun hHeld=>?_);clear hK K;refine tk 5 hHeld ?_;refine ry 6 fun K hK=>?_
  go_simp;refine hK.out _ _ (fun hHeld=>?_);clear hK K;refine Zy kq ?_ _
  all_goals
   obtain⟨m,hm⟩:=ez ((if M<st+dl then st+dl else M));have cz:max M (st+dl)=m:=by rw[←hm];split<;>omega
   rw[hm];obtain⟨W6,ay⟩:=ez (w6.setCell ⟨q.heap.size,0,none⟩ (.int .i64 m));have hb6:=HB6.out;have q1:Boxed w6 q.heap.size 2 (.int .i64 M):=(hb6.block _ l5).trans bt.out;have q2:Boxed w5 (q.heap.size+1) 2 (.int .i64 G):=(HB5.out.block _ cg.out.lt).trans cg.out;have q3:Boxed w6 (q.heap.size+1) 2 (.int .i64 G):=(hb6.block _ (Boxed.lt q2)).trans q2;have e1:Boxed W6 q.heap.size 2 (.int .i64 m):=by rw[←ay];exact q1.set _
   have e2:Boxed W6 (q.heap.size+1) 2 (.int .i64 G):=by rw[←ay];exact Y3 q3 oq
   have av:But (fun k=>k=q.heap.size) w5 W6:=by rw[←ay];exact(But.of_below hb6).then (But.set (S:=fun k=>k=q.heap.size) rfl _) (fun _ _ e=>e)
   have br:KeepsOthers w5 W6:=by rw[←ay];exact(KO.of_belowW hb6).trans (KeepsOthers.setCell _ _ _)
   have bf:=av.own ch.out (fun k e hk=>by have Y:some g=some k:=e;injection Y with Y;have em:k=q.heap.size:=hk;omega);have eq:=av.size;rw[ay];have co:=Boxed.cell (t:=2) e2;have bi:=hid (show Boxed W6 q.heap.size 2 (.int .i64 m) from e1);have bj:=hid (show Boxed W6 (q.heap.size+1) 2 (.int .i64 G) from e2);have bn:=hid av;have bo:=hid br;have au:=hid bf;have ds:=hid cz;obtain⟨i0,cv,cw,cx,cy⟩:=info_parts UX;have ag:=hid (Zh cv (Zh cw (Zh cx cy)));clear ay hb6 q1 q2 q3 e1 e2 av br bf cv cw cx cy c5 f5 c6 f6 hm cz HB6 ef;rw[ds.out] at z
   cases H with
   | none =>
    simp only[clock.U2] at af z;gi_upto_region 10 with (first|(refine wpListIn_append_own _ (by rfl) (.tmp 29) (.tmp 32) 30 (by rfl) W.heap.size 62 i0 _ 2 16 underlying30 ag.out.1 ag.out.2.1 ag.out.2.2.1 ag.out.2.2.2 rfl oq (.slice (some ⟨g,0,none⟩) (n+1) vc) (n+1) (ckC X) (by rfl) (own_below au.out bq) ⟨W6.heap.size,0,none⟩ 1 1 [.int .i64 G,.int .i64 0] (by rfl) (by rfl) (World.news_of_block (Zz _ _)) (by simp[Value.oneCell']) (by unfold maxLen;omega) oq (by simp;omega) ?_;intro v9 w9 R ar bz;have bw:=hid (ZbU (own_below au.out bq) ar);obtain⟨g9,bc,rfl,cr,be,_,aj⟩:=Js R oq;have HY:=hid (af.out w9 g9 bc be (by rw[V2];exact aj));have bu:=hid ar;clear R ar bz aj)|(refine⟨trivial,?_⟩;gi_at_call 32;refine(CallsIn.inRound l (Zt.2 HY.out)).mono ?_;rintro e E ⟨rfl,I⟩;have ba:=hid I;clear I))
    have I:=ba.out;have ae:=hid ((KO.of_belowW HB5.out).trans (bo.out.trans ((KeepsOthers.alloc W6 (.cells #[.int .i64 G,.int .i64 0] 62)).trans (bw.out.trans (KO.of_belowW I)))));have am:=hid (show But (fun k=>(Value.slice (some ⟨g,0,none⟩) (n+1) vc).ownBlock=some k) W6 E from((But.of_below ((Zg _ W6).alloc (Zc _) (.cells #[.int .i64 G,.int .i64 0] 62))).then (But.of_grown bu.out) (fun _ _ e=>e)).then (But.of_below I) (fun _ _ e=>e));have r1:Boxed E q.heap.size 2 (.int .i64 m):=(am.out.block _ bi.out.lt (fun e=>by have Y:some g=some q.heap.size:=e;injection Y with Y;omega)).trans bi.out;have r2:Boxed E (q.heap.size+1) 2 (.int .i64 G):=(am.out.block _ bj.out.lt (fun e=>by have Y:some g=some (q.heap.size+1):=e;injection Y with Y;omega)).trans bj.out;have J:But (fun k=>k=q.heap.size∨k=g) W E:=((But.of_below HB5.out).then bn.out (fun k _ e=>.inl e)).then am.out (fun k _ e=>.inr (by have Y:some g=some k:=e;injection Y with Y;exact Y.symm));have L:∀k,k<W.heap.size→k≠q.heap.size→¬(k=q.heap.size∨k=g):=fun k h1 h2=>oq
    have t1:FlB E w.heap.size f U an T V ci cn ct cl:=(J.block _ (Zb aa.out) (L _ (Zb aa.out) oq)).trans aa.out;have t2:Boxed E (w.heap.size+1) 2 (.int .i64 0):=(J.block _ ab.out.lt (L _ ab.out.lt oq)).trans ab.out;have t3:Boxed E (w.heap.size+1+1) 2 (.int .i64 0):=(J.block _ ac.out.lt (L _ ac.out.lt oq)).trans ac.out;have t4:Boxed E (w.heap.size+1+1+1) 38 (.int .i64 0):=(J.block _ aw.out.lt (L _ aw.out.lt oq)).trans aw.out;have tq:FlB E W3.heap.size f U an T V ci cn ct cl:=(J.block _ (Zb ax.out) (L _ (Zb ax.out) oq)).trans ax.out;have tB:Below w.heap.size w E:=bv.out.trans (J.below bm (fun k e=>by rcases e with e|e<;>omega));have HT:=hid (Zh t1 (Zh t2 (Zh t3 (Zh t4 (Zh tq tB)))));have cj:=hid (show Boxed E q.heap.size 2 (.int .i64 m) from r1);have ck:=hid (show Boxed E (q.heap.size+1) 2 (.int .i64 G) from r2);have k1:=Boxed.cell (t:=2) r1;have k2:=Boxed.cell (t:=2) r2;have f2:=Boxed.frozen (t:=2) r2;have l2:=Boxed.lt (t:=2) r2;have k4:=t2.cell;have f4:=t2.frozen;have l4:=t2.lt;have k5:=t3.cell;have f5:=t3.frozen;have eg:=t3.lt;have k6:=t4.cell;have f6:=t4.frozen;have l6:=t4.lt;clear I r1 r2 J L t1 t2 t3 t4 tq tB co;gi_wp2;obtain⟨t1,t2,t3,t4,tq,tB⟩:=HT.out;refine⟨(ae.out.trans (((KeepsOthers.setCell _ _ _).trans (KeepsOthers.setCell _ _ _)).trans (KeepsOthers.setCell _ _ _))).from _,rfl,z.out,?_,?_,?_,?_⟩
    ·exact Y3 (Y3 (t2.set (.int .i64 0)) oq) oq
    ·exact Y3 ((Y3 (c:=w.heap.size+1) (o:=0) (u:=.int .i64 0) t3 oq).set (.int .i64 0)) oq
    ·exact(Y3 (c:=w.heap.size+1+1) (o:=0) (u:=.int .i64 0) (Y3 (c:=w.heap.size+1) (o:=0) (u:=.int .i64 0) t4 oq) oq).set (.int .i64 8)
    exact((tB.setCell (p:=⟨w.heap.size+1,0,none⟩) (by show w.heap.size≤w.heap.size+1;omega) _).setCell (p:=⟨w.heap.size+1+1,0,none⟩) (by show w.heap.size≤w.heap.size+1+1;omega) _).setCell (p:=⟨w.heap.size+1+1+1,0,none⟩) (by show w.heap.size≤w.heap.size+1+1+1;omega) _
   | some h =>
    simp only[clock.U2] at af z;gi_upto_region 10 with (first|(refine wpListIn_append_own _ (by rfl) (.tmp 29) (.tmp 32) 30 (by rfl) W.heap.size 62 i0 _ 2 16 underlying30 ag.out.1 ag.out.2.1 ag.out.2.2.1 ag.out.2.2.2 rfl oq (.slice (some ⟨g,0,none⟩) (n+1) vc) (n+1) (ckC X) (by rfl) (own_below au.out bq) ⟨W6.heap.size,0,none⟩ 1 1 [.int .i64 G,.int .i64 0] (by rfl) (by rfl) (World.news_of_block (Zz _ _)) (by simp[Value.oneCell']) (by unfold maxLen;omega) oq (by simp;omega) ?_;intro v9 w9 R ar bz;have bw:=hid (ZbU (own_below au.out bq) ar);obtain⟨g9,bc,rfl,cr,be,_,aj⟩:=Js R oq;have HY:=hid (af.out w9 g9 bc be (by rw[V2];exact aj));have bu:=hid ar;clear R ar bz aj)|(refine⟨trivial,?_⟩;gi_at_call 32;refine(CallsIn.inRound l (Zt.2 HY.out)).mono ?_;rintro e E ⟨rfl,I⟩;have ba:=hid I;clear I))
    have I:=ba.out;have ae:=hid ((KO.of_belowW HB5.out).trans (bo.out.trans ((KeepsOthers.alloc W6 (.cells #[.int .i64 G,.int .i64 0] 62)).trans (bw.out.trans (KO.of_belowW I)))));have am:=hid (show But (fun k=>(Value.slice (some ⟨g,0,none⟩) (n+1) vc).ownBlock=some k) W6 E from((But.of_below ((Zg _ W6).alloc (Zc _) (.cells #[.int .i64 G,.int .i64 0] 62))).then (But.of_grown bu.out) (fun _ _ e=>e)).then (But.of_below I) (fun _ _ e=>e));have r1:Boxed E q.heap.size 2 (.int .i64 m):=(am.out.block _ bi.out.lt (fun e=>by have Y:some g=some q.heap.size:=e;injection Y with Y;omega)).trans bi.out;have r2:Boxed E (q.heap.size+1) 2 (.int .i64 G):=(am.out.block _ bj.out.lt (fun e=>by have Y:some g=some (q.heap.size+1):=e;injection Y with Y;omega)).trans bj.out;have J:But (fun k=>k=q.heap.size∨k=g) W E:=((But.of_below HB5.out).then bn.out (fun k _ e=>.inl e)).then am.out (fun k _ e=>.inr (by have Y:some g=some k:=e;injection Y with Y;exact Y.symm));have L:∀k,k<W.heap.size→k≠q.heap.size→¬(k=q.heap.size∨k=g):=fun k h1 h2=>oq
    have t1:FlB E w.heap.size f U an T V ci cn ct cl:=(J.block _ (Zb aa.out) (L _ (Zb aa.out) oq)).trans aa.out;have t2:Boxed E (w.heap.size+1) 2 (.int .i64 0):=(J.block _ ab.out.lt (L _ ab.out.lt oq)).trans ab.out;have t3:Boxed E (w.heap.size+1+1) 2 (.int .i64 0):=(J.block _ ac.out.lt (L _ ac.out.lt oq)).trans ac.out;have t4:Boxed E (w.heap.size+1+1+1) 38 (.int .i64 0):=(J.block _ aw.out.lt (L _ aw.out.lt oq)).trans aw.out;have tq:FlB E W3.heap.size f U an T V ci cn ct cl:=(J.block _ (Zb ax.out) (L _ (Zb ax.out) oq)).trans ax.out;have tB:Below w.heap.size w E:=bv.out.trans (J.below bm (fun k e=>by rcases e with e|e<;>omega));have HT:=hid (Zh t1 (Zh t2 (Zh t3 (Zh t4 (Zh tq tB)))));have cj:=hid (show Boxed E q.heap.size 2 (.int .i64 m) from r1);have ck:=hid (show Boxed E (q.heap.size+1) 2 (.int .i64 G) from r2);have k1:=Boxed.cell (t:=2) r1;have k2:=Boxed.cell (t:=2) r2;have f2:=Boxed.frozen (t:=2) r2;have l2:=Boxed.lt (t:=2) r2;have k4:=t2.cell;have f4:=t2.frozen;have l4:=t2.lt;have k5:=t3.cell;have f5:=t3.frozen;have eg:=t3.lt;have k6:=t4.cell;have f6:=t4.frozen;have l6:=t4.lt;clear I r1 r2 J L t1 t2 t3 t4 tq tB co;by_cases ho:4000<m
    ·rw[Z2 ho] at z;gi_wp2;obtain⟨t1,t2,t3,t4,tq,tB⟩:=HT.out;refine⟨(ae.out.trans (((KeepsOthers.setCell _ _ _).trans (KeepsOthers.setCell _ _ _)).trans (KeepsOthers.setCell _ _ _))).from _,rfl,z.out,?_,?_,?_,?_⟩
     ·exact Y3 (Y3 (t2.set (.int .i64 0)) oq) oq
     ·exact Y3 ((Y3 (c:=w.heap.size+1) (o:=0) (u:=.int .i64 0) t3 oq).set (.int .i64 0)) oq
     ·exact(Y3 (c:=w.heap.size+1+1) (o:=0) (u:=.int .i64 0) (Y3 (c:=w.heap.size+1) (o:=0) (u:=.int .i64 0) t4 oq) oq).set (.int .i64 8)
     exact((tB.setCell (p:=⟨w.heap.size+1,0,none⟩) (by show w.heap.size≤w.heap.size+1;omega) _).setCell (p:=⟨w.heap.size+1+1,0,none⟩) (by show w.heap.size≤w.heap.size+1+1;omega) _).setCell (p:=⟨w.heap.size+1+1+1,0,none⟩) (by show w.heap.size≤w.heap.size+1+1+1;omega) _
    rw[Z1 ho] at z;gi_wp2;have tE:But (fun k=>k=q.heap.size+1) E (E.setCell ⟨q.heap.size+1,0,none⟩ (.int .i64 h)):=But.set (S:=fun k=>k=q.heap.size+1) rfl _;obtain⟨t1,t2,t3,t4,tq,tB⟩:=HT.out;refine⟨(ae.out.trans (KeepsOthers.setCell _ _ _)).from _,trivial,⟨m,h,z.out,Y3 cj.out oq,ck.out.set _,?_,?_,?_,?_,?_⟩,?_⟩
    ·exact(tE.block _ (Zb t1) oq).trans t1
    ·exact Y3 t2 oq
    ·exact Y3 t3 oq
    ·exact Y3 t4 oq
    ·exact tB.setCell (by show w.heap.size≤q.heap.size+1;omega) _
    exact(tE.block _ (Zb tq) oq).trans tq
 case done =>
  rintro D xs W hD dh ⟨hi,hq⟩ hk;have bk:=hid ((Mk.nil w.heap.size 0 W).cons oq (Zk _) hk);obtain⟨M,G,h0,h1,h2,h3,h4,h5,h6,h7⟩:=hi;rw[dh] at h0;have dz:=hid h0;have HI:=hid (Zh h4 (Zh h5 (Zh h6 h7)));have c5:=h1.cell;have c6:=h2.cell;have f1:=h4.cell;have g1:=h4.frozen;have f2:=h5.cell;have g2:=h5.frozen;have f3:=h6.cell;have g3:=h6.frozen;have l1:=h4.lt;have l2:=h5.lt;have l3:=h6.lt;clear h0 h1 h2 h3 h4 h5 h6 hk dh hq;gi_wp2;have KS1:=hid (show S2W q.heap.size (.int .i64 M) (.int .i64 G) W.drew from ⟨c5,c6⟩);have KS2:=hid (show S2W q.heap.size (.int .i64 M) (.int .i64 G) (W.setCell ⟨w.heap.size+1,0,none⟩ (.int .i64 M)).drew from S2W.set (w':=W) oq ⟨c5,c6⟩);have KS3:=hid (show S2W q.heap.size (.int .i64 M) (.int .i64 G) ((W.setCell ⟨w.heap.size+1,0,none⟩ (.int .i64 M)).setCell ⟨w.heap.size+1+1,0,none⟩ (.int .i64 G)).drew from S2W.set oq (S2W.set (w':=W) oq ⟨c5,c6⟩));have KS4:=hid (show S2W q.heap.size (.int .i64 M) (.int .i64 G) (((W.setCell ⟨w.heap.size+1,0,none⟩ (.int .i64 M)).setCell ⟨w.heap.size+1+1,0,none⟩ (.int .i64 G)).setCell ⟨w.heap.size+1+1+1,0,none⟩ (.int .i64 0)).drew from S2W.set oq (S2W.set oq (S2W.set (w':=W) oq ⟨c5,c6⟩)));refine wpIn_wide.2 (wp_region_noPanic ?_);refine ZO (S:=S2W q.heap.size (.int .i64 M) (.int .i64 G)) kq (by first|with_reducible exact KS1.out|with_reducible exact KS2.out|with_reducible exact KS3.out|with_reducible exact KS4.out) (fun hHeld=>?_);refine tk 0 hHeld ?_;refine tk 1 hHeld ?_;refine ry 2 fun K hK=>?_
  go_simp;refine hK.out _ _ (fun hHeld=>?_);clear hK K;refine ry 3 fun K hK=>?_
  go_simp;refine hK.out _ _ (fun hHeld=>?_);clear hK K;refine ry 4 fun K hK=>?_
  go_simp;refine hK.out _ _ (fun hHeld=>?_);clear hK K;refine Zy kq ?_ _;refine NoPanic.normal ?_;obtain⟨h4,h5,h6,h7⟩:=HI.out;have b1:Boxed (((W.setCell ⟨w.heap.size+1,0,none⟩ (.int .i64 M)).setCell ⟨w.heap.size+1+1,0,none⟩ (.int .i64 G)).setCell ⟨w.heap.size+1+1+1,0,none⟩ (.int .i64 0)) (w.heap.size+1) 2 (.int .i64 M):=Y3 (Y3 (h4.set (.int .i64 M)) oq) oq;have b2:Boxed (((W.setCell ⟨w.heap.size+1,0,none⟩ (.int .i64 M)).setCell ⟨w.heap.size+1+1,0,none⟩ (.int .i64 G)).setCell ⟨w.heap.size+1+1+1,0,none⟩ (.int .i64 0)) (w.heap.size+1+1) 2 (.int .i64 G):=Y3 ((Y3 (c:=w.heap.size+1) (o:=0) (u:=.int .i64 M) h5 oq).set (.int .i64 G)) oq;have b3:Boxed (((W.setCell ⟨w.heap.size+1,0,none⟩ (.int .i64 M)).setCell ⟨w.heap.size+1+1,0,none⟩ (.int .i64 G)).setCell ⟨w.heap.size+1+1+1,0,none⟩ (.int .i64 0)) (w.heap.size+1+1+1) 38 (.int .i64 0):=(Y3 (c:=w.heap.size+1+1) (o:=0) (u:=.int .i64 G) (Y3 (c:=w.heap.size+1) (o:=0) (u:=.int .i64 M) h6 oq) oq).set (.int .i64 0);have cp:Below w.heap.size w (((W.setCell ⟨w.heap.size+1,0,none⟩ (.int .i64 M)).setCell ⟨w.heap.size+1+1,0,none⟩ (.int .i64 G)).setCell ⟨w.heap.size+1+1+1,0,none⟩ (.int .i64 0)):=((h7.setCell (p:=⟨w.heap.size+1,0,none⟩) (by show w.heap.size≤w.heap.size+1;omega) _).setCell (p:=⟨w.heap.size+1+1,0,none⟩) (by show w.heap.size≤w.heap.size+1+1;omega) _).setCell (p:=⟨w.heap.size+1+1+1,0,none⟩) (by show w.heap.size≤w.heap.size+1+1+1;omega) _;obtain⟨WZ,aq⟩:=ez (((((W.setCell ⟨w.heap.size+1,0,none⟩ (.int .i64 M)).setCell ⟨w.heap.size+1+1,0,none⟩ (.int .i64 G)).setCell ⟨w.heap.size+1+1+1,0,none⟩ (.int .i64 0))).drew);have z1:Boxed WZ (w.heap.size+1) 2 (.int .i64 M):=by rw[←aq];exact b1
  have z2:Boxed WZ (w.heap.size+1+1) 2 (.int .i64 G):=by rw[←aq];exact b2
  have z3:Boxed WZ (w.heap.size+1+1+1) 38 (.int .i64 0):=by rw[←aq];exact b3
  have zB:Below w.heap.size w WZ:=by rw[←aq];exact cp.drew
  have zM:Mk w.heap.size W.heap.size [mkD D] WZ:=by rw[←aq];exact bk.out.from (((((KeepsOthers.setCell _ _ _).trans (KeepsOthers.setCell _ _ _)).trans (KeepsOthers.setCell _ _ _)).trans (KeepsOthers.drew _)).from _)
  rw[aq];have HZ:=hid (Zh z1 (Zh z2 (Zh z3 zB)));have ea:=hid zM;clear aq z1 z2 z3 zB zM b1 b2 b3 cp h4 h5 h6 h7 KS1 KS2 KS3 KS4 bk c5 c6 f1 g1 f2 g2 f3 g3;gi_wp2;refine ea.out.leaves (fun W' hW'=>⟨.tuple #[.int .i64 M,.int .i64 G,.int .i64 0],?_,?_⟩)
  ·have q1:=Boxed.cell (t:=2) (hW'.cells _ _ HZ.out.1 rfl);have q2:=Boxed.cell (t:=2) (hW'.cells _ _ HZ.out.2.1 rfl);have q3:=Boxed.cell (t:=38) (hW'.cells _ _ HZ.out.2.2.1 rfl);clear hW';simp only[results,results11];go_simp
  exact⟨by rw[dz.out];rfl,HZ.out.2.2.2.trans hW'.below⟩
 rintro D pre W hD ⟨rs,az⟩ ⟨h0,h4,h5,h6,h7⟩ hk;have bk:=hid ((Mk.nil w.heap.size 0 W).cons oq (Zk _) hk);have eb:Jd f (YV f) (0,1)=none:=by rw[←az,ze,h0];rfl
 have HZ:=hid (Zh h4 (Zh h5 (Zh h6 h7)));clear h0 h4 h5 h6 h7 hk;gi_wp2;refine bk.out.leaves (fun W' hW'=>⟨.tuple #[.int .i64 0,.int .i64 0,.int .i64 8],?_,?_⟩)
 ·have q1:=Boxed.cell (t:=2) (hW'.cells _ _ HZ.out.1 rfl);have q2:=Boxed.cell (t:=2) (hW'.cells _ _ HZ.out.2.1 rfl);have q3:=Boxed.cell (t:=38) (hW'.cells _ _ HZ.out.2.2.1 rfl);clear hW';simp only[results,results11];go_simp
 exact⟨by rw[eb];rfl,HZ.out.2.2.2.trans hW'.below⟩
def Kg(c:Int × Int)(ops:List (Int × Int × Int)):Nat→Int
 | 0=>0
 | i+1=>Kg c ops i+((Xi c ops i).1+(Xi c ops (i+1)).1)
theorem ym(c:Int × Int)(ops:List (Int × Int × Int))(n:Nat):∀i,i≤n→Uc (ckQ c ops n) i=(Xi c ops n).2+Kg c ops i
 | 0,_=>by
  unfold Uc Kg;rw[Jk,show n+1-1=n from rfl,GB _ _ (Zc _)];omega
 | i+1,h=>by
  have:=ym c ops n i oq;unfold Uc Kg;rw[this,GB _ _ oq,GB _ _ h];omega
theorem jL(c:Int × Int)(ops:List (Int × Int × Int))(n:Nat):YW (ckQ c ops n)=(Xi c ops n).2+Kg c ops n:=by
 unfold YW;rw[Jk];exact ym c ops n n (Zc _)
theorem gL{c:Int × Int}{ops:List (Int × Int × Int)}(h:∀i,i≤ops.length→1≤(Xi c ops i).1∧(Xi c ops i).1≤2000):∀i,i≤ops.length→0≤Kg c ops i∧Kg c ops i≤4000*(i:Int)
 | 0,_=>by unfold Kg;omega
 | i+1,hi=>by
  have h1:=gL h i oq;have h2:=h i oq;have h3:=h (i+1) hi;unfold Kg;push_cast;omega
theorem yl{f:FD}{i:Int}{c:Int × Int}(h:XR f i=some c):(∃k:Nat,i=(k:Int)∧∃hk:k<f.ins.length,f.ins[k]=c)∨(∃k:Nat,i=(f.ins.length:Int)+(k:Int)∧∃hk:k<f.tasks.length,(f.tasks[k].per,f.tasks[k].ph)=c):=by
 unfold XR at h;split at h
 ·cases h
 rename_i h0
 split at h
 ·rename_i h1
  left;have g:i.toNat<f.ins.length:=oq;rw[Ze g] at h;injection h with h
  exact⟨i.toNat,oq,g,h⟩
 rename_i h1
 right
 cases hk:f.tasks[(i-(f.ins.length:Int)).toNat]? with
 | none=>rw[hk] at h;cases h
 | some t =>
  rw[hk] at h;obtain⟨g,j⟩:=ZA.1 hk;injection h with h
  exact⟨_,oq,g,by rw[j];exact h⟩
def LtI(w:World)(B:Nat)(src:Int)(ad:Option Addr)(n cap:Nat)(c:Int × Int)(ops:List (Int × Int × Int))(k:Nat)(v:Value)(W:World):Prop :=
 CkI w B c ops k v W∧W.heap[w.heap.size+1]?=some (.cells #[.int .i64 src,.slice ad n cap] 69 (0,0))
def LtS(n0 bo po n cap oo:Nat)(cp cq ok on od:Int)(W:World):Prop :=
 W.cell? ⟨n0+1+1,0,none⟩=some (.int .i64 cp)∧W.cell? ⟨n0+1+1,1,none⟩=some (.int .i64 cq)∧W.cell? ⟨n0+1,1,none⟩=some (.slice (some ⟨bo,oo,none⟩) n cap)∧W.cell? ⟨bo,po,none⟩=some (.int .i64 ok)∧W.cell? ⟨bo,po+1,none⟩=some (.int .i64 on)∧W.cell? ⟨bo,po+2,none⟩=some (.int .i64 od)
theorem ZbW{w:World}(f:FD)(ai an aT al:Option Addr)(ci cn ct cl:Nat)(hf:FAP w f ai an aT al)(src:Int)(c:Int × Int)(ops:List (Int × Int × Int))(V:Option Addr)(cap:Nat)(hl:ops.length≤20)(ax:Row OpR 3 w ops V)
  (az:XR f src=some c)(aj:∀i,i≤ops.length→1≤(Xi c ops i).1∧(Xi c ops i).1≤2000∧0≤(Xi c ops i).2∧(Xi c ops i).2≤2000)
  (cm:∀i,i<ops.length→(clock.YB (Xi c ops i).1 (Xi c ops i).2 (ops.getD i (0,0,0)).1 (ops.getD i (0,0,0)).2.1 (ops.getD i (0,0,0)).2.2).2.2=0)
  (hA:∀(W:World)(p q k n d a b:Int),clock.YB p q k n d=(a,b,0)→Calls prog 74 #[.agg #[.int .i64 p,.int .i64 q],.agg #[.int .i64 k,.int .i64 n,.int .i64 d]] W fun e w'=>e=.returned (.tuple #[.agg #[.int .i64 a,.int .i64 b],.int .i64 0])∧Below W.heap.size W w') :
  Calls prog 28 #[fv f ai an aT al ci cn ct cl,.agg #[.int .i64 src,.slice V ops.length cap]] w fun x w'=>(∃v,x=.returned (.tuple #[.int .i64 (YW (ckQ c ops ops.length)),v])∧w'.ownsRow w.heap.size 62 2 v (ops.length+1) (ckC (ckQ c ops ops.length)))∧Below w.heap.size w w':=by
 have HW:=hid (yl az);have db:=hid hf.ins;have dk:=hid hf.tasks;obtain⟨dl,_,dm,_⟩:=hf.lens;have ca:=hid (gL (c:=c) (ops:=ops) (fun i hi=>⟨(aj i hi).1,(aj i hi).2.1⟩));have ba:=hid aj;have cy:=hid hA;have dd:=hid cm;have cb:=hid (jL c ops ops.length);obtain⟨n,hn⟩:=ez ops.length;obtain⟨nI,am⟩:=ez f.ins.length;obtain⟨nT,ao⟩:=ez f.tasks.length;have HR:=hid ax;have T:=hid hn;have bt:=hid am;have dc:=hid ao;rw[hn] at hl cb ⊢;rw[am] at dl;rw[ao] at dm;unfold fv;rw[am,ao];clear hf az aj hA cm ax hn am ao;obtain⟨p,q⟩:=c;go_enter func28,ntmps28;go_upto_region 2 with fail
 obtain⟨W1,J⟩:∃W1,((w.alloc (.cells #[.slice ai nI ci,.slice an f.nods.length cn,.slice aT nT ct,.slice al f.tells.length cl] 34)).alloc (.cells #[.int .i64 src,.slice V n cap] 69)).alloc (.cells #[.int .i64 0,.int .i64 0] 62)=W1:=⟨_,rfl⟩;have hB:Below w.heap.size w W1:=by rw[←J];exact bq
 have co:W1.heap[w.heap.size]?=some (.cells #[.slice ai nI ci,.slice an f.nods.length cn,.slice aT nT ct,.slice al f.tells.length cl] 34 (0,0)):=by rw[←J];exact(Za _ _ _ (by simp;omega)).trans ((Za _ _ _ (by simp)).trans (Yw w _))
 have bh:W1.heap[w.heap.size+1]?=some (.cells #[.int .i64 src,.slice V n cap] 69 (0,0)):=by
  rw[←J];have:=Yw (w.alloc (.cells #[.slice ai nI ci,.slice an f.nods.length cn,.slice aT nT ct,.slice al f.tells.length cl] 34)) (.cells #[.int .i64 src,.slice V n cap] 69);rw[Zu] at this;exact(Za _ _ _ (by simp)).trans this
 have ap:W1.heap[w.heap.size+1+1]?=some (.cells #[.int .i64 0,.int .i64 0] 62 (0,0)):=by
  rw[←J];have:=Yw ((w.alloc (.cells #[.slice ai nI ci,.slice an f.nods.length cn,.slice aT nT ct,.slice al f.tells.length cl] 34)).alloc (.cells #[.int .i64 src,.slice V n cap] 69)) (.cells #[.int .i64 0,.int .i64 0] 62);simpa using this
 rw[J];clear J;obtain⟨⟨a0,a1,a2,a3⟩,af⟩:=Yx co;obtain⟨⟨y0,y1⟩,yf⟩:=YD bh;obtain⟨⟨O,R⟩,zf⟩:=YD ap;have HB:=hid hB;have dg:=hid bh;have dh:=hid ap;have dy:=Zb ap;clear hB co bh ap;rcases HW.out with ⟨k,hk,hk2,hkc⟩|⟨k,hk,hk2,hkc⟩
 case' inl =>
  obtain⟨bb,oo,rfl,bd,r0,r1⟩:=db.out.at hk2;rw[hkc] at r0 r1;rw[←HB.out.cell (p:=⟨bb,_,none⟩) bd] at r0 r1;rw[bt.out] at hk2;rw[hk] at y0;clear hkc hk;have j1:(k:Int)<(nI:Int):=oq;have j0:(0:Int)≤(k:Int):=oq;go_upto_region 5 with fail
  clear r0 r1 j0 j1
 case' inr =>
  obtain⟨bb,oo,e,bd,r0,r1,r2,_⟩:=dk.out.at hk2;subst e;have Z:=Z3 Prod.fst hkc;have aa:=Z3 Prod.snd hkc;simp only at Z aa;rw[Z] at r1;rw[aa] at r2;rw[←HB.out.cell (p:=⟨bb,_,none⟩) bd] at r1 r2;rw[dc.out] at hk2;rw[bt.out] at hk;rw[hk] at y0;clear hkc Z aa r0 hk;have j1:(k:Int)<(nT:Int):=oq;have j0:(0:Int)≤(k:Int):=oq;have j2:¬(nI:Int)+(k:Int)<(nI:Int):=oq;have j3:IntKind.i64.wrap ((nI:Int)+(k:Int)-(nI:Int))=(k:Int):=by rw[show(nI:Int)+(k:Int)-(nI:Int)=(k:Int) by omega];exact ZK _ oq
  go_upto_region 5 with fail
  clear r1 r2 j0 j1 j2 j3
 all_goals
  obtain⟨W2,X⟩:=ez ((W1.setCell ⟨w.heap.size+1+1,0,none⟩ (.int .i64 p)).setCell ⟨w.heap.size+1+1,1,none⟩ (.int .i64 q));have b2:W2.heap[w.heap.size+1+1]?=some (.cells #[.int .i64 p,.int .i64 q] 62 (0,0)):=by rw[←X];exact(XS (XS dh.out).1).2
  have b1:W2.heap[w.heap.size+1]?=some (.cells #[.int .i64 src,.slice V n cap] 69 (0,0)):=by rw[←X];exact(Zr _ _ _ _ (by show w.heap.size+1≠w.heap.size+1+1;omega)).trans ((Zr _ _ _ _ (by show w.heap.size+1≠w.heap.size+1+1;omega)).trans dg.out)
  have bB:Below w.heap.size w W2:=by rw[←X];exact(HB.out.setCell (by show w.heap.size≤w.heap.size+1+1;omega) _).setCell (by show w.heap.size≤w.heap.size+1+1;omega) _
  rw[X];clear X a0 a1 a2 a3 af y0 y1 yf O R zf;obtain⟨⟨O,R⟩,zf⟩:=YD b2;have dt:=Zb b2;have HB2:=hid (Zh b1 (Zh b2 bB));clear b1 b2 bB;go_upto_region 6 with fail
  obtain⟨W3,ah⟩:=ez (W2.alloc (.cells #[.int .i64 p,.int .i64 q] 62));have hb3:Below W2.heap.size W2 W3:=by rw[←ah];exact bq
  have cr:W3.heap[W2.heap.size]?=some (.cells #[.int .i64 p,.int .i64 q] 62 (0,0)):=by rw[←ah];exact Yw _ _
  rw[ah];clear ah O R zf;have da:=hid (show LtI w (w.heap.size+1+1) src V n cap (p,q) ops 0 (.slice (some ⟨W2.heap.size,0,none⟩) 1 1) W3 from ⟨⟨(hb3.block _ dt).trans HB2.out.2.1,⟨rfl,.inr ⟨W2.heap.size,1,#[.int .i64 p,.int .i64 q],rfl,oq,cr,oq,by unfold maxLen;omega,rfl,rfl⟩⟩,HB2.out.2.2.trans (hb3.mono HB2.out.2.2.size)⟩,(hb3.block _ (Zb HB2.out.1)).trans HB2.out.1⟩);clear hb3 cr;go_wp2;go_loopw [7,8,9] (fun v s i wr=>Hid (∃k:Nat,i=.int .i64 (k:Int)∧k≤n∧s=.int .i64 (Kg (p,q) ops k)∧LtI w (w.heap.size+1+1) src V n cap (p,q) ops k v wr)) (fun _ _ i _=>n-(intOf i).toNat)
  case atStart=>exact⟨0,rfl,Zk _,rfl,da.out⟩
  obtain⟨k,rfl,hk,rfl,hi,ha⟩:=hrel.out;clear hrel;have HI:=hid hi;have cx:=hid ha;have bk:=Zb hi.1;have dw:=hi.2.2.size;obtain⟨⟨y0,y1⟩,yf⟩:=YD ha;clear hi ha;by_cases A:k<n
  ·obtain⟨bo,oo,e,be,ce⟩:=(HR.out.below J8 HI.out.2.2).at (i:=k) (by rw[T.out];exact A);have ag:=hid (show Xi (p,q) ops (k+1)=nxt (Xi (p,q) ops k) (ops[k]'(by rw[T.out];exact A)) from by rw[Xi,Zf,Ze (by rw[T.out];exact A)];rfl);obtain⟨⟨ok,on,od⟩,bg⟩:∃o,ops[k]'(by rw[T.out];exact A)=o:=⟨_,rfl⟩;rw[bg] at ce ag;obtain⟨h0,h1,h2⟩:=ce;simp only at h0 h1 h2;have bl:=xW (p,q) ops k;have U:=hid (show Kg (p,q) ops (k+1)=Kg (p,q) ops k+((Xi (p,q) ops k).1+(Xi (p,q) ops (k+1)).1) from rfl);have ds:=ca.out k (by rw[T.out];exact hk);have cu:=ba.out k (by rw[T.out];exact hk);have cv:=ba.out (k+1) (by rw[T.out];exact A);have H:=hid HI.out.1;have de:=hid HI.out.2.1;have HBW:=hid HI.out.2.2;obtain⟨⟨cp,cq⟩,M⟩:=ez (Xi (p,q) ops k);rw[M] at H ag U cu;obtain⟨⟨I,dq⟩,bf⟩:=ez (Xi (p,q) ops (k+1));rw[bf] at bl ag U cv;obtain⟨sm,ab⟩:=ez (Kg (p,q) ops k);rw[ab] at U ds ⊢;simp only at U cu cv;have dj:=hid bl;have cz:=hid bf;have E:=dd.out k (by rw[T.out];exact A);rw[Zf,Ze (by rw[T.out];exact A),Z9,bg,M] at E;simp only at E;have HA:=hid (fun W=>cy.out W cp cq ok on od I dq (by
    have e1:=ag.out;unfold nxt at e1;injection e1 with e1 e2
    simp only at e1 e2;rw[e1,e2,←E]))
   clear E;have i1:(k:Int)<(n:Int):=oq;have i0:(0:Int)≤(k:Int):=oq;have eb:IntKind.i64.wrap ((k:Int)+1)=((k+1:Nat):Int):=ZK _ oq;have ec:IntKind.i64.wrap (cp+I)=cp+I:=ZK _ oq;have ed:IntKind.i64.wrap (sm+(cp+I))=sm+(cp+I):=ZK _ oq;obtain⟨⟨O,R⟩,zf⟩:=YD H.out;rw[e] at y1 ⊢;have dx:=hid (show LtS w.heap.size bo (oo+k*3) n cap oo cp cq ok on od wr from ⟨O,R,y1,h0,h1,h2⟩);have m:=hid (fun(W':World) (hb:Below wr.heap.size wr W')=>(show LtS w.heap.size bo (oo+k*3) n cap oo cp cq ok on od W' from ⟨(hb.cell (p:=⟨w.heap.size+1+1,0,none⟩) bk).trans O,(hb.cell (p:=⟨w.heap.size+1+1,1,none⟩) bk).trans R,(hb.cell (p:=⟨w.heap.size+1,1,none⟩) (by show w.heap.size+1<wr.heap.size;omega)).trans y1,(hb.cell (p:=⟨bo,oo+k*3,none⟩) be).trans h0,(hb.cell (p:=⟨bo,oo+k*3+1,none⟩) be).trans h1,(hb.cell (p:=⟨bo,oo+k*3+2,none⟩) be).trans h2⟩));clear bg M bf ab bl;go_upto_region 10 with fail
   refine ZO (S:=LtS w.heap.size bo (oo+k*3) n cap oo cp cq ok on od) kq (by exact m.out _ bq) (fun hHeld=>?_);refine tk 0 hHeld ?_;refine tk 1 hHeld ?_;refine tk 2 hHeld ?_;refine tk 3 hHeld ?_;refine tk 4 hHeld ?_;refine tk 5 hHeld ?_;refine ZV (rs:=[6,10]) kq (by simp) ?_;refine ZH (o:=?_) ?_ (fun K hK=>?_) (ZH (o:=?_) ?_ (fun K hK=>?_) AllReadyH.nil);rotate_left 1
   ·(simp only[List.getElem?_toArray,List.getElem?_cons_succ,List.getElem?_cons_zero];rfl)
   rotate_left 2
   ·(simp only[List.getElem?_toArray,List.getElem?_cons_succ,List.getElem?_cons_zero];rfl)
   rotate_left 1
   (go_simp;go_at_call 74;refine(HA.out _).mono ?_;rintro y w7 ⟨rfl,L⟩;have HB7:=hid (show Below wr.heap.size wr w7 from(Zg _ wr).drew.trans (L.mono (by simp)));have bj:=HB7.out.size;clear L)
   refine hK.out _ _ (by exact m.out _ HB7.out) (fun hHeld=>?_);clear hK K
   try simp only[Act.put,sA,sB,sC]
   refine tk 7 hHeld ?_;refine tk 8 hHeld ?_;refine tk 9 hHeld ?_;refine ZV (rs:=[10]) kq (by simp) ?_;refine ZH (o:=?_) ?_ (fun K hK=>?_) AllReadyH.nil;rotate_left 1
   ·(simp only[List.getElem?_toArray,List.getElem?_cons_succ,List.getElem?_cons_zero];rfl)
   go_simp;refine hK.out _ _ (by exact m.out _ bq) (fun hHeld=>?_);clear hK K
   try simp only[Act.put,sA,sB,sC]
   refine ZV (rs:=[11]) kq (by simp) ?_;refine ZH (o:=?_) ?_ (fun K hK=>?_) AllReadyH.nil;rotate_left 1
   ·(simp only[List.getElem?_toArray,List.getElem?_cons_succ,List.getElem?_cons_zero];rfl)
   go_simp;refine hK.out _ _ (by exact m.out _ bq) (fun hHeld=>?_);clear hK K
   try simp only[Act.put,sA,sB,sC]
   refine tk 12 hHeld ?_;refine Zy kq ?_ _;obtain⟨W8,g⟩:=ez (w7.alloc (.cells #[.int .i64 I,.int .i64 dq] 62));have Y:Below wr.heap.size wr W8:=by rw[←g];exact HB7.out.alloc HB7.out.size _
   have C:W8.heap[w7.heap.size]?=some (.cells #[.int .i64 I,.int .i64 dq] 62 (0,0)):=by rw[←g];exact Yw _ _
   rw[g];clear g;obtain⟨D,hD⟩:=ez w7.heap.size;rw[hD] at C ⊢;have dn:wr.heap.size≤D:=oq;have G:=hid Y;have bx:=hid C;clear Y C hD HB7 bj;rotate_left;go_simp;refine hK.out _ _ (by exact m.out _ bq) (fun hHeld=>?_);clear hK K
   try simp only[Act.put,sA,sB,sC]
   refine ZV (rs:=[6]) kq (by simp) ?_;refine ZH (o:=?_) ?_ (fun K hK=>?_) AllReadyH.nil;rotate_left 1
   ·(simp only[List.getElem?_toArray,List.getElem?_cons_succ,List.getElem?_cons_zero];rfl)
   (go_simp;go_at_call 74;refine(HA.out _).mono ?_;rintro y w7 ⟨rfl,L⟩;have HB7:=hid (show Below wr.heap.size wr w7 from(((Zg _ wr).drew).alloc (by simp) _).trans (L.mono (by simp)));have bj:=HB7.out.size;have q7:w7.heap[wr.heap.size]?=some (.cells #[.int .i64 0,.int .i64 0] 62 (0,0)):=(L.block _ (by simp)).trans (Yw wr.drew _);have bw:=hid q7;obtain⟨⟨d0,d1⟩,df⟩:=YD q7;clear q7;clear L)
   refine hK.out _ _ (by exact m.out _ HB7.out) (fun hHeld=>?_);clear hK K
   try simp only[Act.put,sA,sB,sC]
   refine tk 7 hHeld ?_;refine tk 8 hHeld ?_;refine tk 9 hHeld ?_;refine ZV (rs:=[11]) kq (by simp) ?_;refine ZH (o:=?_) ?_ (fun K hK=>?_) AllReadyH.nil;rotate_left 1
   ·(simp only[List.getElem?_toArray,List.getElem?_cons_succ,List.getElem?_cons_zero];rfl)
   go_simp;refine hK.out _ _ (by exact m.out _ bq) (fun hHeld=>?_);clear hK K
   try simp only[Act.put,sA,sB,sC]
   refine tk 12 hHeld ?_;refine Zy kq ?_ _;obtain⟨W8,g⟩:=ez ((w7.setCell ⟨wr.heap.size,0,none⟩ (.int .i64 I)).setCell ⟨wr.heap.size,1,none⟩ (.int .i64 dq));have Y:Below wr.heap.size wr W8:=by rw[←g];exact(HB7.out.setCell (Zc _) _).setCell (Zc _) _
   have C:W8.heap[wr.heap.size]?=some (.cells #[.int .i64 I,.int .i64 dq] 62 (0,0)):=by rw[←g];exact(XS (XS bw.out).1).2
   rw[g];clear g d0 d1 df;obtain⟨D,hD⟩:=ez wr.heap.size;rw[hD] at C ⊢;have dn:wr.heap.size≤D:=oq;have G:=hid Y;have bx:=hid C;clear Y C hD HB7 bj bw
   all_goals
    have aq:=hid ((G.out.block _ bk).trans H.out);have bn:=hid ((G.out.block _ (show w.heap.size+1<wr.heap.size by omega)).trans cx.out);have dz:=G.out.size;clear y0 y1 yf O R zf h0 h1 h2;obtain⟨⟨O,R⟩,zf⟩:=YD aq.out;obtain⟨⟨d0,d1⟩,df⟩:=YD bx.out;go_upto_region 13 with fail
    obtain⟨W9,z⟩:=ez ((W8.setCell ⟨w.heap.size+1+1,0,none⟩ (.int .i64 I)).setCell ⟨w.heap.size+1+1,1,none⟩ (.int .i64 dq));have bi:W9.heap[w.heap.size+1+1]?=some (.cells #[.int .i64 I,.int .i64 dq] 62 (0,0)):=by rw[←z];exact(XS (XS aq.out).1).2
    have ck:W9.ownsRow (w.heap.size+1+1+1) 62 2 u7 (k+1) (ckC (ckQ (p,q) ops k)):=by rw[←z];exact Xg (Xg (own_below de.out G.out) oq _) oq _
    have cc:W9.heap[w.heap.size+1]?=some (.cells #[.int .i64 src,.slice V n cap] 69 (0,0)):=by rw[←z];exact(Zr _ _ _ _ (by show w.heap.size+1≠w.heap.size+1+1;omega)).trans ((Zr _ _ _ _ (by show w.heap.size+1≠w.heap.size+1+1;omega)).trans bn.out)
    have ea:W8.heap.size≤W9.heap.size:=by rw[←z];simp
    have cd:Below w.heap.size w W9:=by rw[←z];exact((HBW.out.trans (G.out.mono HBW.out.size)).setCell (by show w.heap.size≤w.heap.size+1+1;omega) _).setCell (by show w.heap.size≤w.heap.size+1+1;omega) _
    rw[z];clear z O R zf d0 d1 df;obtain⟨⟨O,R⟩,zf⟩:=YD bi;have bz:=hid bi;have bv:=hid ck;have bm:=hid cc;have bp:=hid cd;obtain⟨i0,cf,cg,ch,cj⟩:=info_parts UX;have ae:=hid (Zh cf (Zh cg (Zh ch cj)));clear bi ck cc cd cf cg ch cj;go_upto_region 9 with (refine wpList_append_own _ (by rfl) (.tmp 62) (.tmp 64) 30 (by rfl) (w.heap.size+1+1+1) 62 i0 _ 2 16 underlying30 ae.out.1 ae.out.2.1 ae.out.2.2.1 ae.out.2.2.2 rfl oq u7 (k+1) (ckC (ckQ (p,q) ops k)) (by rfl) (own_below bv.out bq) ⟨W9.heap.size,0,none⟩ 1 1 [.int .i64 I,.int .i64 dq] (by rfl) (by rfl) (World.news_of_block (Zz _ _)) (by simp[Value.oneCell']) (by unfold maxLen;omega) oq (by simp;omega) ?_;intro dv cw F aw dr;have bu:=hid F;have br:=hid aw;clear F aw dr)
    clear O R zf;have ak:=X3 bv.out;have bc:=hid ((But.of_below ((Zg _ W9).alloc (Zc _) (.cells #[.int .i64 I,.int .i64 dq] 62))).then (But.of_grown br.out) (fun _ _ e=>e));have au:Below w.heap.size w cw:=bp.out.trans (bc.out.below bp.out.size (fun j e=>by have:=ak j e;omega));have av:=(bc.out.block _ (Zb bz.out) (fun e=>by have:=ak _ e;omega)).trans bz.out;have ar:=(bc.out.block _ (Zb bm.out) (fun e=>by have:=ak _ e;omega)).trans bm.out;have bs:=hid (show LtI w (w.heap.size+1+1) src V n cap (p,q) ops (k+1) dv cw from ⟨⟨by rw[cz.out];exact av,by rw[dj.out,V2];exact bu.out,au⟩,ar⟩);clear au av ar ak;go_wp2;go_roundw
    case rel=>exact⟨k+1,by go_num,oq,Z3 (Value.int .i64) U.out.symm,e▸bs.out⟩
    simp[intOf];omega
  obtain rfl:k=n:=oq;have du:=ca.out k (by rw[T.out];exact Zc _);have ay:=ba.out k (by rw[T.out];exact Zc _);have H:=hid HI.out.1;obtain⟨⟨cp,cq⟩,M⟩:=ez (Xi (p,q) ops k);have ac:=cb.out;rw[M] at H ay ac;obtain⟨sm,ab⟩:=ez (Kg (p,q) ops k);rw[ab] at du ac ⊢;simp only at ay ac;have di:=hid ac;obtain⟨⟨O,R⟩,zf⟩:=YD H.out;have ee:IntKind.i64.wrap (cq+sm)=cq+sm:=ZK _ oq;clear M ab ac;go_wp2;exact Zl (v:=.tuple #[.int .i64 (cq+sm),u7]) (by simp only[results,results28];go_simp) rfl ⟨⟨_,by rw[di.out],Xd HI.out.2.1 oq⟩,HI.out.2.2⟩
theorem Zag(f:FD)(l m:List (AD × Int))(s:Int):Qb f (l++m) s=Qb f m (Qb f l s):=by unfold Qb;rw[List.foldl_append]
theorem zY(f:FD)(l:List (AD × Int))(x:AD × Int)(s:Int):Qb f (l++[x]) s=max (Qb f l s) (YW (YN f x)+x.2):=by rw[Zag];rfl
theorem eH(f:FD)(l m:List (AD × Int)):XH f (l++m)=XH f l++XH f m:=by simp[XH]
theorem zG(f:FD)(l:List (AD × Int))(x:AD × Int):XH f (l++[x])=XH f l++YN f x:=by rw[eH];simp[XH]
theorem Ks{f:FD}(hg:RdG f):∀(l:List (AD × Int)),(∀x∈l,x∈YV f)→(XH f l).length≤21*l.length
 | [],_=>by simp[XH]
 | x::l,h=>by
  have h1:=Ks hg l (fun y hy=>h y (List.mem_cons_of_mem _ hy));have h2:=(hg.few x (h x List.mem_cons_self)).1;rw[Jw,Zx,Zp];have h3:(YN f x).length=x.1.ops.length+1:=Jk _ _ _;omega
theorem qB{f:FD}(hg:RdG f):∀(l:List (AD × Int))(s:Int),(∀x∈l,x∈YV f)→0≤s→s≤200000→0≤Qb f l s∧Qb f l s≤200000
 | [],s,_,h0,h1=>⟨h0,h1⟩
 | x::l,s,h,h0,h1=>by
  have h2:=V9 hg (h x List.mem_cons_self);have h3:=hg.dl x (h x List.mem_cons_self);exact qB hg l (max s (YW (YN f x)+x.2)) (fun y hy=>h y (List.mem_cons_of_mem _ hy)) oq oq
theorem Za3(g j:Nat):(⟨g,0,none⟩:Addr).add j=⟨g,j,none⟩:=by unfold Addr.add;split<;>simp_all
def SdI(w:World)(f:FD)(ai an aT al:Option Addr)(ci cn ct cl:Nat)(pre:List (AD × Int))(v:Value)(W:World):Prop :=
 FlB W w.heap.size f ai an aT al ci cn ct cl∧W.ownsRow (w.heap.size+1) 62 2 v (XH f pre).length (ckC (XH f pre))∧Below w.heap.size w W
theorem SdI.below{w W W':World}{f:FD}{ai an aT al:Option Addr}{ci cn ct cl:Nat}{pre:List (AD × Int)}{v:Value}(h:SdI w f ai an aT al ci cn ct cl pre v W)(hb:Below W.heap.size W W'):SdI w f ai an aT al ci cn ct cl pre v W' :=
 ⟨(hb.block _ (Zb h.1)).trans h.1,own_below h.2.1 hb,h.2.2.trans (hb.mono h.2.2.size)⟩
def StS(n0:Nat)(f0 f1 f2 f3:Value)(bt pt:Nat)(sl:Value)(ba pa:Nat)(src:Int)(os:Value)(W:World):Prop :=
 W.cell? ⟨n0,0,none⟩=some f0∧W.cell? ⟨n0,1,none⟩=some f1∧W.cell? ⟨n0,2,none⟩=some f2∧W.cell? ⟨n0,3,none⟩=some f3∧W.cell? ⟨bt,pt,none⟩=some sl∧W.cell? ⟨ba,pa,none⟩=some (.int .i64 src)∧W.cell? ⟨ba,pa+1,none⟩=some os
theorem StS.below{f:Nat}{m f1 q v:Value}{bt pt:Nat}{F:Value}{g j:Nat}{src:Int}{os:Value}{W W':World}(h:StS f m f1 q v bt pt F g j src os W)(hb:Below W.heap.size W W'):StS f m f1 q v bt pt F g j src os W':=by
 obtain⟨x,y,z,A,C,D,E⟩:=h;have lt:∀{b o:Nat}{u:Value},W.cell? ⟨b,o,none⟩=some u→b<W.heap.size:=fun e=>World.block_lt_of_cell? W _ e
 exact⟨(hb.cell (p:=⟨f,0,none⟩) (lt x)).trans x,(hb.cell (p:=⟨f,1,none⟩) (lt y)).trans y,(hb.cell (p:=⟨f,2,none⟩) (lt z)).trans z,(hb.cell (p:=⟨f,3,none⟩) (lt A)).trans A,(hb.cell (p:=⟨bt,pt,none⟩) (lt C)).trans C,(hb.cell (p:=⟨g,j,none⟩) (lt D)).trans D,(hb.cell (p:=⟨g,j+1,none⟩) (lt E)).trans E⟩
def StT(n0:Nat)(f0 f1 f2 f3:Value)(ba p2:Nat)(src:Int)(p3:Nat)(os:Value)(p4:Nat)(dl:Int)(W:World):Prop :=
 W.cell? ⟨n0,0,none⟩=some f0∧W.cell? ⟨n0,1,none⟩=some f1∧W.cell? ⟨n0,2,none⟩=some f2∧W.cell? ⟨n0,3,none⟩=some f3∧W.cell? ⟨ba,p2,none⟩=some (.int .i64 src)∧W.cell? ⟨ba,p3,none⟩=some os∧W.cell? ⟨ba,p4,none⟩=some (.int .i64 dl)
theorem StT.below{f:Nat}{m f1 q v:Value}{g p2 p3 p4:Nat}{src j:Int}{os:Value}{W W':World}(h:StT f m f1 q v g p2 src p3 os p4 j W)(hb:Below W.heap.size W W'):StT f m f1 q v g p2 src p3 os p4 j W':=by
 obtain⟨x,y,z,A,C,D,E⟩:=h;have lt:∀{b o:Nat}{u:Value},W.cell? ⟨b,o,none⟩=some u→b<W.heap.size:=fun e=>World.block_lt_of_cell? W _ e
 exact⟨(hb.cell (p:=⟨f,0,none⟩) (lt x)).trans x,(hb.cell (p:=⟨f,1,none⟩) (lt y)).trans y,(hb.cell (p:=⟨f,2,none⟩) (lt z)).trans z,(hb.cell (p:=⟨f,3,none⟩) (lt A)).trans A,(hb.cell (p:=⟨g,p2,none⟩) (lt C)).trans C,(hb.cell (p:=⟨g,p3,none⟩) (lt D)).trans D,(hb.cell (p:=⟨g,p4,none⟩) (lt E)).trans E⟩
theorem uJ{w:World}(f:FD)(ai an aT al:Option Addr)(ci cn ct cl:Nat)(hf:FAP w f ai an aT al)(hg:RdG f)(bz:(YV f).length≤2000000)
  (hA:∀(W:World)(p q k n d a b:Int),clock.YB p q k n d=(a,b,0)→Calls prog 74 #[.agg #[.int .i64 p,.int .i64 q],.agg #[.int .i64 k,.int .i64 n,.int .i64 d]] W fun e w'=>e=.returned (.tuple #[.agg #[.int .i64 a,.int .i64 b],.int .i64 0])∧Below W.heap.size W w') :
  Calls prog 10 #[fv f ai an aT al ci cn ct cl] w fun x w'=>(∃v,x=.returned (.tuple #[.int .i64 (Qb f (YV f) 0),v])∧w'.ownsRow w.heap.size 62 2 v (XH f (YV f)).length (ckC (XH f (YV f))))∧Below w.heap.size w w':=by
 have cd:=hid (fun(x:AD × Int) (hx:x∈YV f) (ad:Option Addr) (cap:Nat) (ak:Row OpR 3 w x.1.ops ad) (W:World) (hb:Below w.heap.size w W)=>(show Calls prog 28 #[fv f ai an aT al ci cn ct cl,.agg #[.int .i64 x.1.src,.slice ad x.1.ops.length cap]] W fun e w'=>(∃v,e=.returned (.tuple #[.int .i64 (YW (YN f x)),v])∧w'.ownsRow W.heap.size 62 2 v (x.1.ops.length+1) (ckC (YN f x)))∧Below W.heap.size W w' from by
  obtain⟨c,hc⟩:=hg.src x hx;have hk:=hg.clk x hx;have ho:=hg.ok x hx;rw[hc] at hk ho;have:=ZbW (w:=W) f ai an aT al ci cn ct cl (hf.below hb) x.1.src c x.1.ops ad cap (hg.few x hx).1 (ak.below J8 hb) hc hk ho hA;unfold YN;rw[hc];exact this))
 have cv:=hid (fun(l:List (AD × Int)) (h:∀x∈l,x∈YV f)=>qB hg l 0 h oq oq);have cw:=hid (fun(l:List (AD × Int)) (h:∀x∈l,x∈YV f)=>Ks hg l h);have cz:=hid (fun(x:AD × Int) (hx:x∈YV f)=>V9 hg hx);have cx:=hid hg.dl;have cy:=hid hg.few;have df:=hid hf.tasks;have de:=hid hf.tells;have dc:=hid hf.args;have bv:=hid bz;obtain⟨_,_,dh,dg⟩:=hf.lens;obtain⟨T,hT⟩:=ez f.tasks.length;obtain⟨L,hL⟩:=ez f.tells.length;have HT:=hid hT;have HL:=hid hL;rw[hT] at dh;rw[hL] at dg;clear hf hg bz hA hT hL;unfold fv at *;rw[HT.out,HL.out] at cd ⊢;go_enter func10,ntmps10;go_upto_region 3 with fail
 obtain⟨W1,bu⟩:=ez (w.alloc (.cells #[.slice ai f.ins.length ci,.slice an f.nods.length cn,.slice aT T ct,.slice al L cl] 34));have hB:Below w.heap.size w W1:=by rw[←bu];exact bq
 have da:FlB W1 w.heap.size f ai an aT al ci cn ct cl:=by unfold FlB;rw[HT.out,HL.out,←bu];exact Yw w _
 rw[bu];clear bu;have dd:=hid (show SdI w f ai an aT al ci cn ct cl [] (.slice none 0 0) W1 from ⟨da,Yf _ _ _ _,hB⟩);clear hB da;go_wp2;go_loopw [4,5,6] (fun s v i wr=>Hid (∃k:Nat,i=.int .i64 (k:Int)∧k≤T∧s=.int .i64 (Qb f (rdT (f.tasks.take k)) 0)∧SdI w f ai an aT al ci cn ct cl (rdT (f.tasks.take k)) v wr)) (fun _ _ i _=>T-(intOf i).toNat)
 case atStart=>exact⟨0,rfl,Zk _,rfl,dd.out⟩
 obtain⟨i,rfl,hi,rfl,hI⟩:=hrel.out;clear hrel;have HI:=hid hI;clear hI;by_cases bi:i<T
 ·obtain⟨bt,ot,du,bw,ch,dj,y0,y1,y2,y3,ak⟩:=gN df.out (i:=i) (by rw[HT.out];exact bi);have cf:=hid ak;have bs:=hid y3;have ao:=hid (dc.out _ (Zi (show i<f.tasks.length by rw[HT.out];exact bi)));have br:=hid (fun k hk=>gB (f:=f) (i:=i) (k:=k) (by rw[HT.out];exact bi) hk);have az:=hid (ES (l:=f.tasks) (i:=i) (by rw[HT.out];exact bi));obtain⟨td,bp⟩:∃td,f.tasks[i]'(by rw[HT.out];exact bi)=td:=⟨_,rfl⟩;rw[bp] at bs ao br az cf;obtain⟨node,dt,ph,args⟩:=td;simp only at bs ao br az cf;obtain⟨A,hA⟩:=ez args.length;have HA:=hid hA;have di:=ao.out.1;rw[hA] at di bs;obtain⟨ab,bl⟩:=ez (rdT (f.tasks.take i));rw[bl] at HI br az ⊢;have i1:(i:Int)<(T:Int):=oq;have i0:(0:Int)≤(i:Int):=oq;have dv:IntKind.i64.wrap ((i:Int)+1)=((i+1:Nat):Int):=ZK _ oq;obtain⟨⟨x0,x1,x2,x3⟩,xf⟩:=Yx HI.out.1;rw[HT.out] at x2;rw[HL.out] at x3;clear y0 y1 y2 y3 ak bp hA bl;go_wp2;clear x0 x1 x2 x3 xf;go_loopw [4,5,7] (fun s v j wq=>Hid (∃k:Nat,j=.int .i64 (k:Int)∧k≤A∧s=.int .i64 (Qb f (ab++(args.take k).map (fun a=>(a,(0:Int)))) 0)∧SdI w f ai an aT al ci cn ct cl (ab++(args.take k).map (fun a=>(a,(0:Int)))) v wq)) (fun _ _ j _=>A-(intOf j).toNat)
  case atStart=>exact⟨0,rfl,Zk _,by simp,by simpa using HI.out⟩
  obtain⟨k,rfl,hk,rfl,O⟩:=hrel.out;clear hrel;have D:=hid O;have dq:=Zb O.1;obtain⟨⟨x0,x1,x2,x3⟩,xf⟩:=Yx O.1;rw[HT.out] at x2;rw[HL.out] at x3;have y3:=(O.2.2.cell (p:=⟨bt,ot+i*4+3,none⟩) dj).trans bs.out;clear O;by_cases I:k<A
  ·obtain⟨ba,oa,e2,cj,z0,ac,M,z1,F⟩:=cf.out.at (i:=k) (by rw[HA.out];exact I);subst e2;rw[←D.out.2.2.cell (p:=⟨ba,_,none⟩) cj] at z0 z1;have V:=br.out k (by rw[HA.out];exact I);have aa:(args.take (k+1)).map (fun a=>(a,(0:Int)))=(args.take k).map (fun a=>(a,(0:Int)))++[(args[k]'(by rw[HA.out];exact I),0)]:=by rw[Zv (by rw[HA.out];exact I),ZU];rfl
   obtain⟨a,ha⟩:∃a,args[k]'(by rw[HA.out];exact I)=a:=⟨_,rfl⟩;rw[ha] at z0 z1 F V aa;obtain⟨src,m⟩:=a;simp only at z0 z1 F;have aj:ab++(args.take (k+1)).map (fun a=>(a,(0:Int)))=(ab++(args.take k).map (fun a=>(a,(0:Int))))++[(⟨src,m⟩,0)]:=by rw[aa,List.append_assoc]
   obtain⟨pre,Z⟩:=ez (ab++(args.take k).map (fun a=>(a,(0:Int))));rw[Z] at V aj D ⊢;have ay:=hid aj;have j1:(k:Int)<(A:Int):=oq;have j0:(0:Int)≤(k:Int):=oq;have ds:IntKind.i64.wrap ((k:Int)+1)=((k+1:Nat):Int):=ZK _ oq;clear aa ha aj Z;rw[ch] at x2 ⊢;obtain⟨r,V⟩:=V;have z:((⟨src,m⟩:AD),0)∈YV f:=by rw[←V];exact List.mem_append_right _ List.mem_cons_self
   have ah:∀y∈pre,y∈YV f:=fun y hy=>by rw[←V];exact List.mem_append_left _ hy
   have dn:pre.length≤2000000:=by have h9:=Z3 List.length V;rw[Zx] at h9;have:=bv.out;omega
   have ck:=cv.out pre ah;have cm:=cw.out pre ah;have bn:=cz.out _ z;have co:=cx.out _ z;have bd:=(cy.out _ z).1;have U:(YN f (⟨src,m⟩,0)).length=m.length+1:=Jk _ _ _;have C:=zY f pre (⟨src,m⟩,0) 0;have ae:=zG f pre (⟨src,m⟩,0);have H:=hid (fun W (hb:Below w.heap.size w W)=>cd.out (⟨src,m⟩,0) z ac M F W hb);obtain⟨s0,bm⟩:=ez (Qb f pre 0);rw[bm] at C ck ⊢;obtain⟨X,hX⟩:=ez (YN f (⟨src,m⟩,0));simp only at H C co bd;rw[hX] at H C ae bn U;obtain⟨st,bo⟩:=ez (YW X);rw[bo] at H C bn;obtain⟨nX,bj⟩:=ez m.length;rw[bj] at H U bd z1;rw[ch] at H;obtain⟨nP,ag⟩:=ez ((XH f pre).length);rw[ag] at cm;have cc:=hid C;have ca:=hid ae;have aq:=hid U;have av:=hid ag;clear V z ah C ae bm hX bo bj ag F U;have am:=hid (show StS w.heap.size (.slice ai f.ins.length ci) (.slice an f.nods.length cn) (.slice (some ⟨bt,ot,none⟩) T ct) (.slice al L cl) bt (ot+i*4+3) (.slice (some ⟨ba,oa,none⟩) A bw) ba (oa+k*2) src (.slice ac nX M) wr from ⟨x0,x1,x2,x3,y3,z0,z1⟩);go_upto_region 9 with fail
   clear x0 x1 x2 x3 xf y3 z0 z1;refine ZO (S:=StS w.heap.size (.slice ai f.ins.length ci) (.slice an f.nods.length cn) (.slice (some ⟨bt,ot,none⟩) T ct) (.slice al L cl) bt (ot+i*4+3) (.slice (some ⟨ba,oa,none⟩) A bw) ba (oa+k*2) src (.slice ac nX M)) kq (by exact am.out.below bq) (fun hHeld=>?_);refine tk 0 hHeld ?_;refine tk 1 hHeld ?_;refine tk 2 hHeld ?_;refine tk 3 hHeld ?_;refine tk 4 hHeld ?_;refine tk 5 hHeld ?_;refine tk 6 hHeld ?_;refine tk 7 hHeld ?_;refine tk 8 hHeld ?_;refine tk 9 hHeld ?_;refine ry 10 fun K hK=>?_
   (go_simp;go_at_call 28;refine(H.out _ (D.out.2.2.trans ((Zg _ wr).drew.mono D.out.2.2.size))).mono ?_;rintro y w7 ⟨⟨vc,rfl,bk⟩,bb⟩;have HB7:=hid (show Below wr.heap.size wr w7 from(Zg _ wr).drew.trans bb);have ce:=hid bk;clear bb bk)
   refine hK.out _ _ (fun hHeld=>?_) (by exact am.out.below HB7.out);clear hK K;refine tk 11 hHeld ?_;refine tk 12 hHeld ?_;refine tk 13 hHeld ?_;refine tk 14 hHeld ?_;refine tk 15 hHeld ?_;refine Zy kq ?_ _;obtain⟨g,cr,rfl,dm,dk,dr,bc⟩:=Js ce.out oq;have cb:=hid bc;have J:=hid (D.out.below HB7.out);have dp:=HB7.out.size;have E:=J.out.2.1;rw[av.out] at E;have ax:=hid E;obtain⟨i0,be,bf,bg,bh⟩:=info_parts UX;have R:=hid (Zh be (Zh bf (Zh bg bh)));clear bc E be bf bg bh;go_upto_region 8 with (refine wpList_append_own _ (by rfl) (.tmp 48) (.tmp 49) 30 (by rfl) (w.heap.size+1) 62 i0 _ 2 16 underlying30 R.out.1 R.out.2.1 R.out.2.2.1 R.out.2.2.2 rfl oq u5 nP (ckC (XH f pre)) (by rfl) ax.out ⟨g,0,none⟩ (nX+1) cr (ckC X) (by rfl) (by rw[yL,aq.out]) (fun j u hj=>by rw[Za3];exact cb.out j u hj) (kJ X) (by unfold maxLen;omega) oq oq ?_;intro cq cu G Y cp;have aw:=hid G;have ar:=hid Y;clear G Y cp)
   have af:=X3 ax.out;have ap:=hid (But.of_grown ar.out);have au:=hid (show SdI w f ai an aT al ci cn ct cl (pre++[(⟨src,m⟩,0)]) cq cu from ⟨(ap.out.block _ (Zb J.out.1) (fun e=>by have:=af _ e;omega)).trans J.out.1,by rw[ca.out,Zx,av.out,aq.out,V2];exact aw.out,J.out.2.2.trans (ap.out.below J.out.2.2.size (fun j e=>by have:=af j e;omega))⟩);clear af;go_wp2;go_roundw
   case rel=>exact⟨k+1,by go_num,oq,by rw[ay.out,cc.out];congr 1;split<;>omega,by rw[ay.out];exact ch▸au.out⟩
   simp[intOf];omega
  obtain rfl:k=A:=oq;go_wp2;go_roundw
  case rel=>exact⟨i+1,by go_num,oq,by rw[az.out,←HA.out,ZS],by rw[az.out];have:=D.out;rw[←HA.out,ZS] at this;exact this⟩
  simp[intOf];omega
 obtain rfl:T=i:=oq;have db:f.tasks.take T=f.tasks:=by rw[←HT.out,ZS]
 rw[db] at HI ⊢;clear db;obtain⟨⟨x0,x1,x2,x3⟩,xf⟩:=Yx HI.out.1;rw[HT.out] at x2;rw[HL.out] at x3;go_wp2;clear x0 x1 x2 x3 xf;go_loopw [4,5,10] (fun s v j wq=>Hid (∃k:Nat,j=.int .i64 (k:Int)∧k≤L∧s=.int .i64 (Qb f (rdT f.tasks++(f.tells.take k).map (fun t=>(t.arg,t.dl))) 0)∧SdI w f ai an aT al ci cn ct cl (rdT f.tasks++(f.tells.take k).map (fun t=>(t.arg,t.dl))) v wq)) (fun _ _ j _=>L-(intOf j).toNat)
 case atStart=>exact⟨0,rfl,Zk _,by simp,by simpa using HI.out⟩
 obtain⟨k,rfl,hk,rfl,O⟩:=hrel.out;clear hrel;have D:=hid O;have dq:=Zb O.1;obtain⟨⟨x0,x1,x2,x3⟩,xf⟩:=Yx O.1;rw[HT.out] at x2;rw[HL.out] at x3;clear O;by_cases I:k<L
 ·obtain⟨ba,oa,cg,cj,z0,z1,z2,z4,ac,M,z3,F⟩:=de.out.at (i:=k) (by rw[HL.out];exact I);rw[←D.out.2.2.cell (p:=⟨ba,_,none⟩) cj] at z2 z3 z4;have V:=jD (f:=f) (k:=k) (by rw[HL.out];exact I);have aa:(f.tells.take (k+1)).map (fun t=>(t.arg,t.dl))=(f.tells.take k).map (fun t=>(t.arg,t.dl))++[((f.tells[k]'(by rw[HL.out];exact I)).arg,(f.tells[k]'(by rw[HL.out];exact I)).dl)]:=by rw[Zv (by rw[HL.out];exact I),ZU];rfl
  obtain⟨td,bp⟩:∃td,f.tells[k]'(by rw[HL.out];exact I)=td:=⟨_,rfl⟩;rw[bp] at z2 z3 z4 F V aa;obtain⟨dt,ph,⟨src,m⟩,dl⟩:=td;simp only at z2 z3 z4 F V aa;have aj:rdT f.tasks++(f.tells.take (k+1)).map (fun t=>(t.arg,t.dl))=(rdT f.tasks++(f.tells.take k).map (fun t=>(t.arg,t.dl)))++[(⟨src,m⟩,dl)]:=by rw[aa,List.append_assoc]
  obtain⟨pre,Z⟩:=ez (rdT f.tasks++(f.tells.take k).map (fun t=>(t.arg,t.dl)));rw[Z] at V aj D ⊢;have ay:=hid aj;have j1:(k:Int)<(L:Int):=oq;have j0:(0:Int)≤(k:Int):=oq;have ds:IntKind.i64.wrap ((k:Int)+1)=((k+1:Nat):Int):=ZK _ oq;clear aa bp aj Z z0 z1;rw[cg] at x3 ⊢;obtain⟨r,V⟩:=V;have z:((⟨src,m⟩:AD),dl)∈YV f:=by rw[←V];exact List.mem_append_right _ List.mem_cons_self
  have ah:∀y∈pre,y∈YV f:=fun y hy=>by rw[←V];exact List.mem_append_left _ hy
  have dn:pre.length≤2000000:=by have h9:=Z3 List.length V;rw[Zx] at h9;have:=bv.out;omega
  have ck:=cv.out pre ah;have cm:=cw.out pre ah;have bn:=cz.out _ z;have co:=cx.out _ z;have bd:=(cy.out _ z).1;have U:(YN f (⟨src,m⟩,dl)).length=m.length+1:=Jk _ _ _;have C:=zY f pre (⟨src,m⟩,dl) 0;have ae:=zG f pre (⟨src,m⟩,dl);have H:=hid (fun W (hb:Below w.heap.size w W)=>cd.out (⟨src,m⟩,dl) z ac M F W hb);obtain⟨s0,bm⟩:=ez (Qb f pre 0);rw[bm] at C ck ⊢;obtain⟨X,hX⟩:=ez (YN f (⟨src,m⟩,dl));simp only at H C co bd;rw[hX] at H C ae bn U;obtain⟨st,bo⟩:=ez (YW X);rw[bo] at H C bn;obtain⟨nX,bj⟩:=ez m.length;rw[bj] at H U bd z3;rw[cg] at H;obtain⟨nP,ag⟩:=ez ((XH f pre).length);rw[ag] at cm;have cc:=hid C;have ca:=hid ae;have aq:=hid U;have av:=hid ag;clear V z ah C ae bm hX bo bj ag F U;have dw:IntKind.i64.wrap (st+dl)=st+dl:=ZK _ oq;have am:=hid (show StT w.heap.size (.slice ai f.ins.length ci) (.slice an f.nods.length cn) (.slice aT T ct) (.slice (some ⟨ba,oa,none⟩) L cl) ba (oa+k*5+2) src (oa+k*5+3) (.slice ac nX M) (oa+k*5+4) dl wr from ⟨x0,x1,x2,x3,z2,z3,z4⟩);go_upto_region 15 with fail
  clear x0 x1 x2 x3 xf z2 z3 z4;refine ZO (S:=StT w.heap.size (.slice ai f.ins.length ci) (.slice an f.nods.length cn) (.slice aT T ct) (.slice (some ⟨ba,oa,none⟩) L cl) ba (oa+k*5+2) src (oa+k*5+3) (.slice ac nX M) (oa+k*5+4) dl) kq (by exact am.out.below bq) (fun hHeld=>?_);refine tk 0 hHeld ?_;refine tk 1 hHeld ?_;refine tk 2 hHeld ?_;refine tk 3 hHeld ?_;refine tk 4 hHeld ?_;refine tk 5 hHeld ?_;refine tk 6 hHeld ?_;refine ry 7 fun K hK=>?_
  (go_simp;go_at_call 28;refine(H.out _ (D.out.2.2.trans ((Zg _ wr).drew.mono D.out.2.2.size))).mono ?_;rintro y w7 ⟨⟨vc,rfl,bk⟩,bb⟩;have HB7:=hid (show Below wr.heap.size wr w7 from(Zg _ wr).drew.trans bb);have ce:=hid bk;clear bb bk)
  refine hK.out _ _ (fun hHeld=>?_) (by exact am.out.below HB7.out);clear hK K;refine tk 8 hHeld ?_;refine tk 9 hHeld ?_;refine tk 10 hHeld ?_;refine tk 11 hHeld ?_;refine tk 12 hHeld ?_;refine Zy kq ?_ _;obtain⟨g,cr,rfl,dm,dk,dr,bc⟩:=Js ce.out oq;have cb:=hid bc;obtain⟨x0,x1,x2,x3,z2,z3,z4⟩:=am.out.below HB7.out;have J:=hid (D.out.below HB7.out);have dp:=HB7.out.size;have E:=J.out.2.1;rw[av.out] at E;have ax:=hid E;obtain⟨i0,be,bf,bg,bh⟩:=info_parts UX;have R:=hid (Zh be (Zh bf (Zh bg bh)));clear bc E be bf bg bh;go_upto_region 14 with (refine wpList_append_own _ (by rfl) (.tmp 79) (.tmp 80) 30 (by rfl) (w.heap.size+1) 62 i0 _ 2 16 underlying30 R.out.1 R.out.2.1 R.out.2.2.1 R.out.2.2.2 rfl oq u5 nP (ckC (XH f pre)) (by rfl) ax.out ⟨g,0,none⟩ (nX+1) cr (ckC X) (by rfl) (by rw[yL,aq.out]) (fun j u hj=>by rw[Za3];exact cb.out j u hj) (kJ X) (by unfold maxLen;omega) oq oq ?_;intro cq cu G Y cp;have aw:=hid G;have ar:=hid Y;clear G Y cp)
  have af:=X3 ax.out;have ap:=hid (But.of_grown ar.out);have au:=hid (show SdI w f ai an aT al ci cn ct cl (pre++[(⟨src,m⟩,dl)]) cq cu from ⟨(ap.out.block _ (Zb J.out.1) (fun e=>by have:=af _ e;omega)).trans J.out.1,by rw[ca.out,Zx,av.out,aq.out,V2];exact aw.out,J.out.2.2.trans (ap.out.below J.out.2.2.size (fun j e=>by have:=af j e;omega))⟩);clear af;go_wp2;go_roundw
  case rel=>exact⟨k+1,by go_num,oq,by rw[ay.out,cc.out];congr 1;split<;>omega,by rw[ay.out];exact cg▸au.out⟩
  simp[intOf];omega
 obtain rfl:k=L:=oq;have bx:rdT f.tasks++(f.tells.take k).map (fun t=>(t.arg,t.dl))=YV f:=by rw[←HL.out,ZS];rfl
 rw[bx] at D ⊢;clear bx;obtain⟨ls,C⟩:=ez (Qb f (YV f) 0);rw[C];go_wp2;exact Zl (v:=.tuple #[.int .i64 ls,u5]) (by simp only[results,results10];go_simp) rfl ⟨⟨_,by rw[C],Xd D.out.2.1 oq⟩,D.out.2.2⟩
def MdG(G:FD→Prop)(x:Ending)(w':World):Prop:=x=.returned (.tuple #[.agg #[.slice none 0 0,.slice none 0 0,.slice none 0 0,.slice none 0 0],.bool false]) ∨
 ∃(f:FD)(ai an aT al:Option Addr)(ci cn ct cl:Nat),x=.returned (.tuple #[fv f ai an aT al ci cn ct cl,.bool true])∧FAP w' f ai an aT al∧G f
theorem uP{w:World}(G:FD→Prop)(p0 p1 p2 p3:Option Addr)(n0 n1 n2 n3 c0 c1 c2 c3:Nat)(u:Int)
  (hM:∀W,Below w.heap.size w W→Calls prog 7 #[.agg #[.slice p0 n0 c0,.slice p1 n1 c1,.slice p2 n2 c2,.slice p3 n3 c3]] W fun x w'=>MdG G x w'∧Below W.heap.size W w')
  (hA:∀W,Calls prog 6 #[] W fun x w'=>x=.returned (.bool true)∧Below W.heap.size W w')
  (hG:∀f,G f→RdG f∧(YV f).length≤2000000)
  (hR:∀(W:World)(f:FD)(y an m z:Option Addr)(A C D cl:Nat),FAP W f y an m z→G f→Calls prog 21 #[fv f y an m z A C D cl] W fun x w'=>x=.returned (.bool true)∧Below W.heap.size W w')
  (hS:∀(W:World)(f:FD)(y an m z:Option Addr)(A C D cl:Nat),FAP W f y an m z→∀i,I64 i→Calls prog 76 #[fv f y an m z A C D cl,.int .i64 i] W fun x w'=>x=.returned (VO (XR f i))∧Below W.heap.size W w')
  (hP:∀(W:World)(p q k n d a b:Int),clock.YB p q k n d=(a,b,0)→Calls prog 74 #[.agg #[.int .i64 p,.int .i64 q],.agg #[.int .i64 k,.int .i64 n,.int .i64 d]] W fun e w'=>e=.returned (.tuple #[.agg #[.int .i64 a,.int .i64 b],.int .i64 0])∧Below W.heap.size W w')
  (hJ:∀(W:World)(f:FD)(y an m z:Option Addr)(A C D cl:Nat),FAP W f y an m z→Calls prog 8 #[fv f y an m z A C D cl,.int .i64 u] W fun x w'=>(∃v e,x=.returned (.tuple #[v,.int .i64 e])∧((u<0∨20000<u)→e=12))∧Below W.heap.size W w') :
  Calls prog 4 #[.agg #[.slice p0 n0 c0,.slice p1 n1 c1,.slice p2 n2 c2,.slice p3 n3 c3],.int .i64 u] w fun x w'=>x=.returned (.bool true)∧Below w.heap.size w w':=by
 have HM:=hid hM;have ac:=hid hA;have am:=hid (fun(W W0:World) (f:FD) (y an m z:Option Addr) (A C D cl:Nat) (hf:FAP W0 f y an m z) (hb:Below W0.heap.size W0 W) (g:G f)=>zg (w:=W) f y an m z A C D cl (hf.below hb) (hG f g).1 (fun W2 h2=>hR W2 f y an m z A C D cl ((hf.below hb).below h2) g) (fun W2 h2=>hS W2 f y an m z A C D cl ((hf.below hb).below h2)));have ak:=hid (fun(W:World) (f:FD) (y an m z:Option Addr) (A C D cl:Nat) (hf:FAP W f y an m z) (g:G f)=>uJ (w:=W) f y an m z A C D cl hf (hG f g).1 (hG f g).2 hP);have af:=hid hJ;have az:=hid hG;clear hM hA hG hR hS hP hJ;obtain⟨W1,L⟩:=ez (w.alloc (.cells #[.slice p0 n0 c0,.slice p1 n1 c1,.slice p2 n2 c2,.slice p3 n3 c3] 27));have hB:Below w.heap.size w W1:=by rw[←L];exact bq
 have aa:W1.heap[w.heap.size]?=some (.cells #[.slice p0 n0 c0,.slice p1 n1 c1,.slice p2 n2 c2,.slice p3 n3 c3] 27 (0,0)):=by rw[←L];exact Yw w _
 have au:=Zb aa;have HB:=hid hB;have HQ:=hid aa;clear hB aa;go_enter func4,ntmps4;go_upto_region 1 with fail
 first|rw[L]|skip
 clear L;go_upto_region 6 with (first
  | (go_at_call 6;refine(ac.out _).mono ?_;rintro x w2 ⟨rfl,hb2⟩;have HB2:=hid (HB.out.trans (hb2.mono HB.out.size));have bf:=hb2.size;obtain⟨⟨x0,x1,x2,x3⟩,xf⟩:=Yx ((hb2.block _ au).trans HQ.out);clear hb2)
  | (go_at_call 7;refine(HM.out _ HB2.out).mono ?_;rintro x w4 ⟨ap,hb4⟩;have HB4:=hid (HB2.out.trans (hb4.mono HB2.out.size));have bg:=hb4.size;clear hb4;rcases ap with rfl|⟨f,y,an,m,z,A,C,D,cl,rfl,hf4,hg4⟩<;>(try (have ae:=hid hf4;have V:=hid hg4;clear hf4 hg4;unfold fv))))
 ·exact Zl (v:=.bool true) (by simp only[results,results4];go_simp) rfl ⟨rfl,bq⟩
 obtain⟨Z,M⟩:=ez (w4.alloc (.cells #[.slice y f.ins.length A,.slice an f.nods.length C,.slice m f.tasks.length D,.slice z f.tells.length cl] 34));have R:Z.heap[w4.heap.size]?=some (.cells #[.slice y f.ins.length A,.slice an f.nods.length C,.slice m f.tasks.length D,.slice z f.tells.length cl] 34 (0,0)):=by rw[←M];exact Yw w4 _
 have hb5:Below w4.heap.size w4 Z:=by rw[←M];exact bq
 have ay:w4.heap.size<Z.heap.size:=Zb R;have HB5:=hid (HB4.out.trans (hb5.mono HB4.out.size));have aj:=hid R;have U:=hid (ae.out.below hb5);obtain⟨⟨y0,y1,y2,y3⟩,yf⟩:=Yx R;have ab:=ak.out Z f y an m z A C D cl U.out V.out;unfold fv at ab;have ba:=hid ab;have F:=hid (fun W hb=>am.out W Z f y an m z A C D cl U.out hb V.out);have ag:=hid (fun W (hb:Below Z.heap.size Z W)=>af.out W f y an m z A C D cl (U.out.below hb));unfold fv at F ag;have J:=hid (az.out f V.out);rw[M];clear M R hb5 x0 x1 x2 x3 xf HM ac HQ ae ak am af ab;go_upto_region 7 with (go_at_call 10;refine ba.out.mono ?_;rintro x w6 ⟨⟨v6,rfl,ax⟩,hb6⟩;have ah:=hid ax;have HB6:=hid hb6;clear hb6 ax)
 clear y0 y1 y2 y3 yf;have bh:=HB6.out.size;obtain⟨⟨y0,y1,y2,y3⟩,yf⟩:=Yx ((HB6.out.block _ ay).trans aj.out);obtain⟨bb,ao,rfl⟩:=YI ah.out;have X:=hid (fun(W:World) (hb:Below w6.heap.size w6 W)=>xm (w:=W) (XH f (YV f)) bb ao (by have:=Ks J.out.1 (YV f) (fun _ h=>h);have:=J.out.2;omega)
  (fun k hk=>by
   obtain⟨g,c,e,_,_,_,bd⟩:=Js (own_below ah.out hb) oq;injection e with e
   exact⟨g,0,e,by rw[ZD];exact bd _ _ (V3 _ k hk).1⟩)
  (fun k hk=>by
   have hm:(XH f (YV f)).getD k (0,0)∈XH f (YV f):=by rw[Zf,Ze hk];exact Zi hk
   obtain⟨x,hx,hc⟩:=List.mem_flatMap.1 hm;have:=Vz J.out.1 hx _ hc;exact⟨this.1,this.2.1⟩))
 have E:=hid (fun(r:Int) (hr:ZaX (XH f (YV f)) r)=>Zep J.out.1 hr);obtain⟨nC,aw⟩:=ez ((XH f (YV f)).length);rw[aw] at X ⊢;obtain⟨ls,av⟩:=ez (Qb f (YV f) 0);rw[av] at E ⊢;obtain⟨ow,how⟩:=ez (Jd f (YV f) (0,1));rw[how] at F E;clear aw av how
 cases ow with
 | none =>
  simp only[xB] at F;go_upto_region 8 with (go_at_call 11;refine(F.out _ HB6.out).mono ?_;rintro x w7 ⟨rfl,H⟩;have HB7:=hid H;clear H)
  go_upto_region 9 with (go_at_call 12;refine(X.out _ HB7.out).mono ?_;rintro x w8 ⟨⟨r,rfl,hr⟩,rfl⟩;have Y:=hid hr;clear hr)
  have j:=E.out r Y.out;by_cases hc:r=0
  ·subst hc;go_wp2;exact Zl (v:=.bool true) (by simp only[results,results4];go_simp) rfl ⟨rfl,HB5.out.trans ((HB6.out.trans (HB7.out.mono HB6.out.size)).mono HB5.out.size)⟩
  have hl:4000<ls:=by
   by_cases h:4000<ls
   ·exact h
   rw[Z1 oq] at j;cases j
  have bc:(r == 0)=false:=by rw[ZY];exact hc
  clear j;go_wp2;exact Zl (v:=.bool true) (by simp only[results,results4];go_simp) rfl ⟨rfl,HB5.out.trans ((HB6.out.trans (HB7.out.mono HB6.out.size)).mono HB5.out.size)⟩
 | some sh =>
  obtain⟨s,h⟩:=sh;simp only[xB] at F;go_upto_region 8 with (go_at_call 11;refine(F.out _ HB6.out).mono ?_;rintro x w7 ⟨rfl,H⟩;have HB7:=hid H;have bi:=H.size;clear H)
  clear y0 y1 y2 y3 yf;obtain⟨⟨y0,y1,y2,y3⟩,yf⟩:=Yx ((HB7.out.block _ oq).trans ((HB6.out.block _ ay).trans aj.out));go_upto_region 9 with (go_at_call 12;refine(X.out _ HB7.out).mono ?_;rintro x w8 ⟨⟨r,rfl,hr⟩,rfl⟩;have Y:=hid hr;clear hr)
  have j:=E.out r Y.out;have O:¬(r=0∨4000<ls):=fun hc=>by rw[Z2 hc] at j;cases j
  rw[Z1 O] at j;injection j with j
  injection j with e1 e2
  subst e1;subst e2;have be:¬h=0:=fun e=>O (.inl e)
  have au:¬4000<s:=fun e=>O (.inr e)
  have bc:(h == 0)=false:=by rw[ZY];exact be
  have I:=hid (HB6.out.trans (HB7.out.mono HB6.out.size));clear O;go_upto_region 12 with (go_at_call 8;refine(ag.out _ I.out).mono ?_;rintro x w9 ⟨⟨vj,ej,rfl,ar⟩,aq⟩;have T:=hid (HB5.out.trans ((I.out.trans (aq.mono I.out.size)).mono HB5.out.size));clear aq)
  by_cases h1:0≤u
  ·by_cases h2:u≤20000
   ·go_wp2;exact Zl (v:=.bool true) (by simp only[results,results4];go_simp) rfl ⟨rfl,T.out⟩
   have he:=ar (.inr oq);subst he;go_wp2;exact Zl (v:=.bool true) (by simp only[results,results4];go_simp) rfl ⟨rfl,T.out⟩
  have he:=ar (.inl oq);subst he;go_wp2;exact Zl (v:=.bool true) (by simp only[results,results4];go_simp) rfl ⟨rfl,T.out⟩
theorem Vx(g:∀p f k n d p1 f1:Int,clock.YB p f k n d=(p1,f1,0)→clock.YF p1 f1=true)(c:Int × Int)(ops:List (Int × Int × Int))(m:clock.YF c.1 c.2=true)(h:(clock.YO c.1 c.2 ops).2.2=0) :
  ∀i,i≤ops.length→clock.YF (Xi c ops i).1 (Xi c ops i).2=true∧(clock.YO (Xi c ops i).1 (Xi c ops i).2 (ops.drop i)).2.2=0
 | 0,_=>⟨m,by simpa [Xi] using h⟩
 | i+1,hi=>by
  obtain⟨h1,h2⟩:=Vx g c ops m h i oq;have hd:ops.drop i=ops.getD i (0,0,0)::ops.drop (i+1):=by
   rw[ZN oq,Zf,Ze oq];rfl
  rw[hd] at h2;obtain⟨o,q⟩:=ez (ops.getD i (0,0,0));obtain⟨x,v⟩:=ez (Xi c ops i);have y:Xi c ops (i+1)=nxt x o:=by rw[Xi,v,q]
  rw[v,q,clock.YO] at h2;rw[y];unfold nxt;simp only at h2 ⊢;by_cases j:(clock.YB x.1 x.2 o.1 o.2.1 o.2.2).2.2=0
  ·rw[Z2 j] at h2;exact⟨g _ _ _ _ _ _ _ (by rw[←j]),h2⟩
  rw[Z1 j] at h2;exact absurd h2 j
theorem Uq(j:∀p f k n d p1 f1:Int,clock.YB p f k n d=(p1,f1,0)→clock.YF p1 f1=true)(c:Int × Int)(ops:List (Int × Int × Int))(q:clock.YF c.1 c.2=true)(h:(clock.YO c.1 c.2 ops).2.2=0)(i:Nat)(hi:i<ops.length) :
  (clock.YB (Xi c ops i).1 (Xi c ops i).2 (ops.getD i (0,0,0)).1 (ops.getD i (0,0,0)).2.1 (ops.getD i (0,0,0)).2.2).2.2=0:=by
 have g:=(Vx j c ops q h i oq).2;have hd:ops.drop i=ops.getD i (0,0,0)::ops.drop (i+1):=by
  rw[ZN oq,Zf,Ze oq];rfl
 rw[hd,clock.YO] at g;by_cases m:(clock.YB (Xi c ops i).1 (Xi c ops i).2 (ops.getD i (0,0,0)).1 (ops.getD i (0,0,0)).2.1 (ops.getD i (0,0,0)).2.2).2.2=0
 ·exact m
 rw[Z1 m] at g;exact absurd g m
theorem Zfr{f:FD}(q:∀p f k n d p1 f1:Int,clock.YB p f k n d=(p1,f1,0)→clock.YF p1 f1=true)
  (v:∀x∈YV f,∃s,XR f x.1.src=some s∧x.1.ops.length≤20∧(clock.Ur s.1 s.2 x.1.ops).2.2=0)(z:∀x∈YV f,0≤x.2∧x.2≤1000)(A:f.ins.length≤1000∧f.tasks.length≤1000):RdG f:=by
 refine⟨fun x hx=>?_,fun x hx=>?_,z,fun x hx=>?_,fun x hx=>?_⟩
 ·obtain⟨s,m,_⟩:=v x hx;exact⟨s,m⟩
 ·obtain⟨s,m,y,_⟩:=v x hx;refine⟨y,?_⟩;unfold I64;rcases yl m with ⟨k,hk,hk2,_⟩|⟨k,hk,hk2,_⟩<;>omega
 ·obtain⟨s,m,y,g⟩:=v x hx;rw[m];simp only[Z9];unfold clock.Ur at g;by_cases j:clock.YF s.1 s.2=true
  ·rw[Z2 j] at g;exact fun i hi=>clock.Xq.1 (Vx q s x.1.ops j g i hi).1
  rw[Z1 j] at g;simp at g
 obtain⟨s,m,y,g⟩:=v x hx;rw[m];simp only[Z9];unfold clock.Ur at g;by_cases j:clock.YF s.1 s.2=true
 ·rw[Z2 j] at g;exact fun i hi=>Uq q s x.1.ops j g i hi
 rw[Z1 j] at g;simp at g
theorem Zcw{f:FD}(h:∀t∈f.tasks,t.args.length≤1000)(j:f.tasks.length≤1000)(m:f.tells.length≤1000):(YV f).length≤2000000:=by
 have key:∀l:List TD,(∀t∈l,t.args.length≤1000)→(rdT l).length≤1000*l.length:=by
  intro l
  induction l with
  | nil=>intro _;simp[rdT]
  | cons t l ih =>
   intro g;have:=ih (fun t ht=>g t (List.mem_cons_of_mem _ ht));have q:=g t List.mem_cons_self;unfold rdT at *;rw[List.flatMap_cons,Zx,Zo,Zp];omega
 have:=key f.tasks h;unfold YV;rw[Zx,Zo];omega
def fdW:FD:=⟨[(4,3)],[],[],[⟨4,3,⟨0,[]⟩,2⟩]⟩
theorem Zgl:RdG fdW:=by
 have h:∀x∈YV fdW,x=(⟨0,[]⟩,2):=fun x hx=>List.mem_singleton.1 hx
 refine⟨fun x hx=>?_,fun x hx=>?_,fun x hx=>?_,fun x hx=>?_,fun x hx=>?_⟩
 ·rw[h x hx];exact⟨(4,3),rfl⟩
 ·rw[h x hx];exact⟨by simp,by show I64 0;unfold I64;omega⟩
 ·rw[h x hx];simp only;omega
 ·rw[h x hx];intro i hi;obtain rfl:i=0:=by simpa using hi
  rw[show((XR fdW (⟨0,[]⟩:AD).src).getD (0,0))=(4,3) from rfl];simp only[Xi];omega
 rw[h x hx];intro i hi;exact absurd hi (by simp)
theorem Zgb{w:World}{b bt:Nat}(j:w.heap[b]?=some (.cells #[.int .i64 4,.int .i64 3] 62 (0,0)))(ht:w.heap[bt]?=some (.cells #[.int .i64 4,.int .i64 3,.int .i64 0,.slice none 0 0,.int .i64 2] 71 (0,0))):FAP w fdW (some ⟨b,0,none⟩) none none (some ⟨bt,0,none⟩):=by
 refine⟨.inr ⟨b,0,rfl,Zb j,fun i hi=>?_⟩,.inl rfl,.inl rfl,.inr ⟨bt,0,rfl,Zb ht,fun i hi=>?_⟩,by unfold fdW;simp,(fun t ht=>by cases ht),fun t ht=>?_⟩
 ·have g:i<1:=hi;obtain rfl:i=0:=oq;obtain⟨⟨m,q⟩,_⟩:=YD j;exact⟨m,q⟩
 ·have g:i<1:=hi;obtain rfl:i=0:=oq;have f:∀k u,(#[Value.int .i64 4,.int .i64 3,.int .i64 0,.slice none 0 0,.int .i64 2]:Array Value)[k]?=some u→w.cell? ⟨bt,k,none⟩=some u:=fun k u hk=>by rw[Z7 w bt k _ _ _ ht];exact hk
  exact⟨f 0 _ rfl,f 1 _ rfl,f 2 _ rfl,f 4 _ rfl,none,0,f 3 _ rfl,.inl rfl⟩
 obtain rfl:=List.mem_singleton.1 ht;exact⟨by simp,by show I64 0;unfold I64;omega⟩
theorem Zdo(I:∀(W:World)(f:FD)(m an j q:Option Addr)(C D E cl:Nat),FAP W f m an j q→f=fdW→Calls prog 21 #[fv f m an j q C D E cl] W fun x w'=>x=.returned (.bool true)∧Below W.heap.size W w')
  (J:∀(W:World)(f:FD)(m an j q:Option Addr)(C D E cl:Nat),FAP W f m an j q→∀i,I64 i→Calls prog 76 #[fv f m an j q C D E cl,.int .i64 i] W fun x w'=>x=.returned (VO (XR f i))∧Below W.heap.size W w')
  (w:World):Calls prog 6 #[] w fun x w'=>x=.returned (.bool true)∧Below w.heap.size w w':=by
 obtain⟨z,g⟩:=ez ((w.alloc (.cells #[.int .i64 4,.int .i64 3] 62)).alloc (.cells #[.int .i64 4,.int .i64 3,.int .i64 0,.slice none 0 0,.int .i64 2] 71));have F:Below w.heap.size w z:=by rw[←g];exact bq
 have G:z.heap[w.heap.size]?=some (.cells #[.int .i64 4,.int .i64 3] 62 (0,0)):=by rw[←g];exact(Za _ _ _ (by simp)).trans (Yw w _)
 have ht:z.heap[w.heap.size+1]?=some (.cells #[.int .i64 4,.int .i64 3,.int .i64 0,.slice none 0 0,.int .i64 2] 71 (0,0)):=by
  rw[←g];have:=Yw (w.alloc (.cells #[.int .i64 4,.int .i64 3] 62)) (.cells #[.int .i64 4,.int .i64 3,.int .i64 0,.slice none 0 0,.int .i64 2] 71)
  rwa [Zu] at this
 have HB:=hid F;have A:=Zgb G ht;have y:=zg (w:=z) fdW (some ⟨w.heap.size,0,none⟩) none none (some ⟨w.heap.size+1,0,none⟩) 1 0 0 1 A Zgl (fun W hb=>I W fdW _ _ _ _ _ _ _ _ (A.below hb) rfl) (fun W hb=>J W fdW _ _ _ _ _ _ _ _ (A.below hb));rw[show Jd fdW (YV fdW) (0,1)=some (5,4) from by decide +kernel] at y;unfold fv fdW xB at y;simp only[Zp,Zw,ZD] at y;have H:=hid y;clear F G ht A y;go_enter func6,ntmps6;go_wp2_with (go_at_call 11;refine H.out.mono ?_;rintro x L ⟨rfl,hb3⟩;have HB3:=hid hb3;clear hb3);exact Zl (v:=.bool true) (by simp only[results,results6];go_simp) rfl ⟨rfl,HB.out.trans (HB3.out.mono HB.out.size)⟩
end Go.Proofs.YtgigilkpndhddaaGreatDoor.syn
