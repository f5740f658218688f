/- Parts of the proof. -/
import Derived.Test.YtdgifkjaflfdeaaGreatDoorX33
import Derived.Test.YtdgifkjaflfdeaaGreatDoorX37
set_option linter.all false
set_option maxRecDepth 100000
set_option maxHeartbeats 16000000
namespace Go.Proofs.YtdgifkjaflfdeaaGreatDoor.syn
open Tryz
open Go.RowKit
attribute [local go_sem] ZU
variable {n b o base size:Nat}{w W:World}{v:Value}{e:TypeId}{xs:List Value}{f:FD}
theorem qB{ℓ n id:Nat}{P:Program}{ops:Array Oper}{Q:Exit->Act->World->Prop}{a:Act}{S:World->Prop}(hm:P.follows .mixedOrders=true)(hd:ops.toList.all V4=true)(hlet:¬LetsOut Q)(hS:S w.drew)
  (h:S w.drew->wpAnyH P .any ops Q S ops.size (Array.replicate ops.size false) a w.drew):(Code.region id ops true).wpIn (Fence.wide.inRound ℓ) n P Q a w :=
 zF hm hd hlet (wpAny_of_held _ _ _ _ (h hS))
theorem Y0{b c o:Nat}{t:TypeId}{v u:Value}(h:Boxed W b t v)(hb:b≠c):Boxed (W.setCell ⟨c,o,none⟩ u) b t v:=(Zr W ⟨c,o,none⟩ u b hb).trans h
theorem KO.of_belowW{W W':World}(h:Below W.1.size W W'):KeepsOthers W W':=⟨h.size,fun k o ho _=>(h.block k (Zb ho)).trans ho⟩
theorem Zcs{W w9:World}(ho:W.ownsRow base e size v n xs)(hg:W.grownBy w9 v.ownBlock):KeepsOthers W w9:=KeepsOthers.of_grownBy hg (fun j o2 hj hq=>by
 rcases ho.2 with ⟨rfl,_⟩|⟨g,cap,cur,rfl,_,hh,_⟩
 .cases hj
 injection hj with hj
 subst hj;rw[hh] at hq;injection hq with hq
 subst hq;rfl)
theorem KN(h:w.ownsRow base e size v n xs)(q:0<n):∃g cap,v=.slice (some ⟨g,0,none⟩) n cap/\base<=g/\g<w.1.size/\n<=cap/\∀j u,xs[j]?=some u->w.cell? ⟨g,j,none⟩=some u:=by
 rcases h.2 with ⟨_,hz⟩|⟨g,cap,cur,rfl,hb,hg,hnc,_⟩
 .omega
 refine⟨g,cap,rfl,hb,Zb hg,hnc,fun j u hj=>?_⟩;obtain⟨x,f,m⟩:=ZcX h j u hj;injection f with f
 subst f;rw[show(⟨g,j,none⟩:Addr)=(⟨g,0,none⟩:Addr).add j from by unfold Addr.add;split<;>simp_all];exact m
theorem ZfG{t:Array Value}(h:t.size=46):t=#[slt t 0,slt t 1,slt t 2,slt t 3,slt t 4,slt t 5,slt t 6,slt t 7,slt t 8,slt t 9,slt t 10,slt t 11,slt t 12,slt t 13,slt t 14,slt t 15,slt t 16,slt t 17,slt t 18,slt t 19,slt t 20,slt t 21,slt t 22,slt t 23,slt t 24,slt t 25,slt t 26,slt t 27,slt t 28,slt t 29,slt t 30,slt t 31,slt t 32,slt t 33,slt t 34,slt t 35,slt t 36,slt t 37,slt t 38,slt t 39,slt t 40,slt t 41,slt t 42,slt t 43,slt t 44,slt t 45]:=J1 h
theorem uL(a b c d:Value):Calls prog 97 #[.agg #[a,b,c,d]] w fun x w'=>x=.returned (.func (.func 168) #[] #[.pointer (some ⟨w.1.size,0,none⟩)])/\Below w.1.size w w'/\w'.1.size=w.1.size+1/\w'.1[w.1.size]?=some (.cells #[a,b,c,d] 35 (0,0)):=by
 go_enter func97,ntmps97;go_wp2;go_ret;exact⟨rfl,bq,by simp,Yx w _⟩
def S2W(s:Nat)(x y:Value)(w':World):Prop:=w'.cell? ⟨s,0,none⟩=some x/\w'.cell? ⟨s+1,0,none⟩=some y
theorem S2W.set{s b o:Nat}{x y v:Value}{w':World}(hb:b<s)(h:S2W s x y w'):S2W s x y (w'.setCell ⟨b,o,none⟩ v):=⟨(ZH w' ⟨b,o,none⟩ ⟨s,0,none⟩ v (by show b≠s;omega)).trans h.1,(ZH w' ⟨b,o,none⟩ ⟨s+1,0,none⟩ v (by show b≠s+1;omega)).trans h.2⟩
theorem kF(f:FD)(U an T V:OA)(ci cn ct cl:Nat)(hf:FAP w f U an T V)(hg:RdG f)
  (hR:∀W,Below w.1.size w W->Calls prog 44 #[fv f U an T V ci cn ct cl] W fun x w'=>x=.returned (.bool true)/\Below W.1.size W w')
  (hS:∀W,Below w.1.size w W->∀i,I64 i->Calls prog 169 #[fv f U an T V ci cn ct cl,.int .i64 i] W fun x w'=>x=.returned (Uv (XV f i))/\Below W.1.size W w') :
  Calls prog 43 #[fv f U an T V ci cn ct cl] w fun x w'=>x=.returned (kD (JQ f (XR f) (0,1)))/\Below w.1.size w w':=by
 have HF:=hid hf;have HG:=hid hg;have du:=hid hR;have dj:=hid (fun(x:AD × Int) (hx:x∈XR f) (ad:OA) (cap:Nat) (ak:Row OpR 3 w x.1.ops ad) (W:World) (hb:Below w.1.size w W)=>(show Calls prog 98 #[fv f U an T V ci cn ct cl,.agg #[.int .i64 x.1.src,.slice ad x.1.ops.length cap]] W fun e w'=>(∃v,e=.returned v/\w'.ownsRow W.1.size 50 2 v (x.1.ops.length+1) (ckC (Y3 f x)))/\Below W.1.size W w' from by
  obtain⟨c,hc⟩:=hg.src x hx;have:=yP (w:=W) (.slice U f.ins.length ci) (.slice an f.nods.length cn) (.slice T f.tasks.length ct) (.slice V f.tells.length cl) x.1.src c x.1.ops ad cap (by have:=(hg.few x hx).1;omega) (ak.below VK hb)
   (fun W2 hb2=>by have h1:=hS W2 (hb.trans (hb2.mono hb.size)) x.1.src (hg.few x hx).2;rw[hc] at h1;exact h1)
  unfold Y3;rw[hc];exact this))
 have dy:=hid (fun(x:AD × Int) (hx:x∈XR f) (W:World) (g cap:Nat) (hgs:g<W.1.size) (hcap:x.1.ops.length+1<=cap) (ah:∀j u,(ckC (Y3 f x))[j]?=some u->W.cell? ⟨g,j,none⟩=some u)=>(show Calls prog 99 #[.slice (some ⟨g,0,none⟩) (x.1.ops.length+1) cap] W fun e w'=>e=.returned (.int .i64 (Qj (Y3 f x)))/\Below W.1.size W w' from by
  have hl:(Y3 f x).length=x.1.ops.length+1:=GF _ _ _;have bl:=(hg.few x hx).1;have:=xw (w:=W) (Y3 f x) g 0 cap oq oq oq hgs (fun k hk=>by
   rw[ZE];exact⟨ah _ _ (UU _ k hk).1,ah _ _ (UU _ k hk).2⟩) (fun k hk=>by have:=hg.get hx k hk;omega)
  rw[hl] at this;exact this))
 have dp:=hid (fun(x:AD × Int) (hx:x∈XR f) (G:Int) (h1:1<=G) (h2:G<=2000) (W:World) (g cap:Nat) (hgs:g<W.1.size) (ah:∀j u,(ckC (Y3 f x++[(G,0)]))[j]?=some u->W.cell? ⟨g,j,none⟩=some u)=>(show Calls prog 100 #[.slice (some ⟨g,0,none⟩) (x.1.ops.length+1+1) cap] W fun e w'=>e=.returned (clock.UZ (clock.YQ 1 (Y3 f x++[(G,0)])))/\Below W.1.size W w' from by
  have hl:(Y3 f x++[(G,0)]).length=x.1.ops.length+1+1:=by rw[Zy];unfold Y3;rw[GF];rfl
  have bl:=(hg.few x hx).1;have cu:∀k,k<(Y3 f x++[(G,0)]).length->clock.E3 ((Y3 f x++[(G,0)]).getD k (0,0)):=by
   intro k hk;have hm:(Y3 f x++[(G,0)]).getD k (0,0)∈Y3 f x++[(G,0)]:=by rw[Zf,Ze hk];exact Zi hk
   unfold clock.E3;rcases List.mem_append.1 hm with hm|hm
   .exact Eo hg hx _ hm
   rw[List.mem_singleton.1 hm];exact⟨h1,h2,by simp only;omega,by simp only;omega⟩
  have:=clock.um (Y3 f x++[(G,0)]) g 0 cap W oq hgs (fun k hk=>by
   rw[ZE];exact⟨ah _ _ (UU _ k hk).1,ah _ _ (UU _ k hk).2⟩) cu
  rw[hl] at this;exact this))
 have dx:=hid (fun(x:AD × Int) (hx:x∈XR f)=>ZaT hg hx);have di:=hid (fun(l:List (AD × Int)) (t:Int × Int) (hl:∀x∈l,x∈XR f) (e:JQ f l (0,1)=some t)=>xK hg l (0,1) t hl (by decide) e);have dm:=hid hg.dl;have dn:=hid hg.few;clear hf hR hS hg;unfold fv at *;refine(Zu (n:=6)).1 ?_;refine callsIn_of_wp_marks func43 rfl trivial ?_ rfl;simp only[ntmps43,ZJ,Zp,Zx,Nat.reduceAdd,Nat.reduceSub,ZG,ZF,ZM,ZK,ZN,ZD];gi_upto_region 1 with fail
 obtain⟨W1,ap⟩:∃W1,(((w.alloc (.cells #[.slice U f.ins.length ci,.slice an f.nods.length cn,.slice T f.tasks.length ct,.slice V f.tells.length cl] 35)).alloc (.cells #[.int .i64 0] 2)).alloc (.cells #[.int .i64 0] 2)).alloc (.cells #[.int .i64 0] 38)=W1:=⟨_,rfl⟩;have hB:Below w.1.size w W1:=by rw[<-ap];exact bq
 have ce:FlB W1 w.1.size f U an T V ci cn ct cl:=by rw[<-ap];exact(Za _ _ _ (by simp;omega)).trans ((Za _ _ _ (by simp;omega)).trans ((Za _ _ _ (by simp)).trans (Yx w _)))
 have de:Boxed W1 (w.1.size+1) 2 (.int .i64 0):=by rw[<-ap];have:=((Boxed.new (w.alloc (.cells #[.slice U f.ins.length ci,.slice an f.nods.length cn,.slice T f.tasks.length ct,.slice V f.tells.length cl] 35)) 2 (.int .i64 0)).alloc (.cells #[.int .i64 0] 2)).alloc (.cells #[.int .i64 0] 38);rwa [Zv] at this
 have df:Boxed W1 (w.1.size+1+1) 2 (.int .i64 0):=by rw[<-ap];have:=(Boxed.new ((w.alloc (.cells #[.slice U f.ins.length ci,.slice an f.nods.length cn,.slice T f.tasks.length ct,.slice V f.tells.length cl] 35)).alloc (.cells #[.int .i64 0] 2)) 2 (.int .i64 0)).alloc (.cells #[.int .i64 0] 38);rwa [Zv,Zv] at this
 have dg:Boxed W1 (w.1.size+1+1+1) 38 (.int .i64 0):=by rw[<-ap];have:=Boxed.new (((w.alloc (.cells #[.slice U f.ins.length ci,.slice an f.nods.length cn,.slice T f.tasks.length ct,.slice V f.tells.length cl] 35)).alloc (.cells #[.int .i64 0] 2)).alloc (.cells #[.int .i64 0] 2)) 38 (.int .i64 0);rwa [Zv,Zv,Zv] at this
 rw[ap];clear ap;obtain⟨⟨x0,x1,x2,x3⟩,xf⟩:=Yy ce;have HB:=hid hB;have HX:=hid (Zh ce (Zh de (Zh df dg)));clear hB ce de df dg;gi_upto_region 3 with (refine⟨trivial,?_⟩;gi_at_call 44;refine(Zu.2 (du.o _ HB.o)).mono ?_;rintro e q ⟨rfl,hb2⟩;have HB2:=hid hb2;clear hb2)
 gi_upto_region 4 with fail
 clear x0 x1 x2 x3 xf;have hb2:=HB2.o;have Z:=hid (Zh ((hb2.block _ (Zb HX.o.1)).trans HX.o.1) (Zh ((hb2.block _ HX.o.2.1.lt).trans HX.o.2.1) (Zh ((hb2.block _ HX.o.2.2.1.lt).trans HX.o.2.2.1) ((hb2.block _ HX.o.2.2.2.lt).trans HX.o.2.2.2))));obtain⟨W3,bd⟩:=ez ((q.alloc (.cells #[.int .i64 0] 2)).alloc (.cells #[.int .i64 1] 2));have ao:Below q.1.size q W3:=by rw[<-bd];exact bq
 have db:Boxed W3 q.1.size 2 (.int .i64 0):=by rw[<-bd];exact(Boxed.new q 2 (.int .i64 0)).alloc _
 have ca:Boxed W3 (q.1.size+1) 2 (.int .i64 1):=by rw[<-bd];have:=Boxed.new (q.alloc (.cells #[.int .i64 0] 2)) 2 (.int .i64 1);rwa [Zv] at this
 rw[bd];clear bd;have bp:Below w.1.size w W3:=HB.o.trans ((hb2.mono HB.o.size).trans (ao.mono (Zm HB.o.size hb2.size)));have dq:=hid (show WnI f U an T V ci cn ct cl w.1.size q.1.size w [] W3 from ⟨0,1,rfl,db,ca,(ao.block _ (Zb Z.o.1)).trans Z.o.1,(ao.block _ (Boxed.lt Z.o.2.1)).trans Z.o.2.1,(ao.block _ (Boxed.lt Z.o.2.2.1)).trans Z.o.2.2.1,(ao.block _ (Boxed.lt Z.o.2.2.2)).trans Z.o.2.2.2,bp⟩);have eh:w.1.size+1+1+1<q.1.size:=by have:=HX.o.2.2.2.lt;have:=hb2.size;omega
 have ei:=ca.lt;obtain⟨⟨x0,x1,x2,x3⟩,xf⟩:=Yy ((ao.block _ (Zb Z.o.1)).trans Z.o.1);clear db ca hb2 ao bp;gi_wp2_with (refine⟨trivial,?_⟩;gi_at_call 97;refine(Zu.2 (uL _ _ _ _)).mono ?_;rintro e w4 ⟨rfl,hb4,cb,da⟩;have HB4:=hid hb4;have dt:=hid da;have dw:=hid cb;clear hb4 cb da);have cb:=dw.o;have dr:=hid (dq.o.below HB4.o);have dv:∀pre W,(WnI f U an T V ci cn ct cl w.1.size q.1.size w pre W/\FlB W W3.1.size f U an T V ci cn ct cl)->RdR w f U an T V ci cn ct cl W3.1.size W:=fun pre W h=>by
  obtain⟨⟨_,_,_,_,_,_,_,_,_,h7⟩,h8⟩:=h;exact⟨h7,h8⟩
 clear x0 x1 x2 x3 xf;refine Zgg (F:=Fence.wide) (gf:=168) (lb:=#[.pointer (some ⟨W3.1.size,0,none⟩)]) rfl oq rfl trivial (enters_of func168 kq rfl)
  (Zc7 f U an T V ci cn ct cl W3.1.size _ w4 HF.o) (fun _ _=>trivial) (fun _ _ _ _ _ _ _=>trivial) (fun _ _ _=>trivial) (fun _=>rfl)
  (fun pre W=>WnI f U an T V ci cn ct cl w.1.size q.1.size w pre W/\FlB W W3.1.size f U an T V ci cn ct cl) (WnX f w.1.size w)
  (fun p A B row h hg hrw=>⟨WnI.own (base:=w4.1.size) oq p A B row h.1 hg hrw,Y2 h.2 hg (fun r e=>(hrw r e).2)⟩) (WnX.own oq) dv ⟨dr.o,dt.o⟩
  (fun pre x a' W=>Zgi w f pre x W/\∃b7,w.1.size<=b7/\W.1[b7]?=some (.cells #[.int .i64 x.1.src,.slice x.2.2.1 x.1.ops.length x.2.2.2] 92 (0,0))/\a'.tmps.size=46/\slt a'.tmps 1=.pointer (some ⟨w.1.size,0,none⟩)/\slt a'.tmps 2=.pointer (some ⟨w.1.size+1,0,none⟩)/\slt a'.tmps 3=.pointer (some ⟨w.1.size+1+1,0,none⟩)/\slt a'.tmps 4=.pointer (some ⟨w.1.size+1+1+1,0,none⟩) /\
   slt a'.tmps 5=.pointer (some ⟨q.1.size,0,none⟩)/\slt a'.tmps 6=.pointer (some ⟨q.1.size+1,0,none⟩)/\slt a'.tmps 7=.pointer (some ⟨b7,0,none⟩)/\slt a'.tmps 8=.int .i64 x.2.1/\a'.defers=[])
  (fun pre x a' s A C row hs hg hrw=>by
   obtain⟨h1,b7,h2,h3,h4⟩:=hs;exact⟨h1,b7,h2,Y2 h3 hg (fun r e=>(hrw r e).2),h4⟩) ?assign ?body ?done ?stop
 case assign =>
  rintro l pre ⟨a,dl,ad,cap⟩ W K ⟨hi,hq⟩ ed hK;have HI:=hid hi;have HQ:=hid hq;have bm:w.1.size<=W.1.size:=by obtain⟨_,_,_,_,_,_,_,_,_,h⟩:=hi;exact h.size
  clear hi hq;simp only[rdE];gi_wp2;exact hK _ _ bq ⟨HI.o.below bq,(Za _ _ _ (Zb HQ.o)).trans HQ.o⟩ ⟨ed,W.1.size,bm,Yx W _,by simp,by simp[slt],by simp[slt],by simp[slt],by simp[slt],by simp[slt],by simp[slt],by simp[slt],by simp[slt],rfl⟩
 case body =>
  rintro l pre ⟨a,dl,ad,cap⟩ ⟨t,dd⟩ W hl hr ⟨hi,hq⟩ ⟨⟨⟨rs,az⟩,ak⟩,b7,ek,h7,cd,s1,s2,s3,s4,s5,s6,s7,s8,hd⟩;simp only at cd s1 s2 s3 s4 s5 s6 s7 s8 hd az ak h7;subst hd;rw[ZfG cd,s1,s2,s3,s4,s5,s6,s7,s8];generalize slt t 0=u0,slt t 9=u9,slt t 10=u10,slt t 11=u11,slt t 12=u12,slt t 13=u13,slt t 14=u14,slt t 15=u15,slt t 16=u16,slt t 17=u17,slt t 18=u18,slt t 19=u19,slt t 20=u20,slt t 21=u21,slt t 22=u22,slt t 23=u23,slt t 24=u24,slt t 25=u25,slt t 26=u26,slt t 27=u27,slt t 28=u28,slt t 29=u29,slt t 30=u30,slt t 31=u31,slt t 32=u32,slt t 33=u33,slt t 34=u34,slt t 35=u35,slt t 36=u36,slt t 37=u37,slt t 38=u38,slt t 39=u39,slt t 40=u40,slt t 41=u41,slt t 42=u42,slt t 43=u43,slt t 44=u44,slt t 45=u45;clear cd s1 s2 s3 s4 s5 s6 s7 s8 t;obtain⟨M,G,bg,i1,i2,i3,i4,i5,i6,i7⟩:=hi;have O:(a,dl)∈XR f:=by rw[<-az];exact List.mem_append_right _ List.mem_cons_self
  have bx:=di.o (pre.map rdP) (M,G) (fun x hx=>by rw[<-az];exact List.mem_append_left _ hx) bg;have ec:=dm.o _ O;have bl:=(dn.o _ O).1;have cc:=dx.o _ O;simp only at bx ec bl cc;obtain⟨n,hn⟩:=ez a.ops.length;have HN:=hid hn;have bh:=hid (fun W hb=>dj.o (a,dl) O ad cap ak W hb);have bb:=hid (fun W g cap h1 h2 h3=>dy.o (a,dl) O W g cap h1 h2 h3);have af:=hid (fun W g cap h1 h2=>dp.o (a,dl) O G bx.2.2.1 bx.2.2.2 W g cap h1 h2);have z:=hid (show JQ f ((pre++[(a,dl,ad,cap)]).map rdP) (0,1)=stepW f (M,G) (a,dl) by rw[ZV,zn,bg];exact ZdF f _ _);obtain⟨X,hX⟩:=ez (Y3 f (a,dl));obtain⟨st,dc⟩:=ez (Qj X);obtain⟨H,hH⟩:=ez (clock.YQ 1 (X++[(G,0)]));unfold stepW at z;simp only at bh bb af z;rw[hX] at bh bb af z cc;rw[dc] at bb z cc;rw[hH] at af z;rw[hn] at bh bb af bl h7;obtain⟨⟨x0,x1,x2,x3⟩,xf⟩:=Yy i3;obtain⟨⟨z0,z1⟩,zf⟩:=YI h7;have cf:=hid i1;have cg:=hid i2;have aa:=hid i3;have ab:=hid i4;have ac:=hid i5;have aw:=hid i6;have bv:=hid i7;have ax:=hid hq;have ej:=hid hr;have bm:=i7.size;have eo:=Zb hq;have en:l<W.1.size:=by obtain⟨r,h⟩:=hr;exact(Zq.1 h).1
  have er:=i2.lt;clear hX dc hH i1 i2 i3 i4 i5 i6 i7 hq hr az ak h7 O bg hn;gi_upto_region 8 with (refine⟨trivial,?_⟩;gi_at_call 98;refine(Zu.2 (bh.o _ bv.o)).mono ?_;rintro e w5 ⟨⟨v,rfl,bs⟩,hb5⟩;have ch:=hid bs;have HB5:=hid hb5;clear bs hb5)
  clear x0 x1 x2 x3 xf z0 z1 zf;obtain⟨g,vc,rfl,el,cq,ee,ah⟩:=KN ch.o oq;have dk:=hid ah;have cm:=hid (fun W' (hb:Below w5.1.size w5 W')=>bb.o W' g vc (Zd cq hb.size) ee (fun j u hj=>(hb.cell (p:=⟨g,j,none⟩) cq).trans (dk.o j u hj)));have ep:=HB5.o.size;have e1:Boxed w5 q.1.size 2 (.int .i64 M):=(HB5.o.block _ cf.o.lt).trans cf.o;have c5:=e1.cell;have f5:=e1.frozen;have l5:=e1.lt;have bt:=hid e1;have ef:IntKind.i64.wrap (st+dl)=st+dl:=ZL _ oq;clear e1 ah;refine qB (S:=(fun _:World=>True)) kq kq (by rintro⟨_,_,h⟩;exact h) trivial (fun hH=>?_);refine tk 1 hH ?_;refine tk 3 hH ?_;refine rz 0 2 (fun K hK=>?_) fun K hK=>?_
  go_simp;refine hK.o _ _ (fun hH=>?_);clear hK K;refine ry 2 fun K hK=>?_
  (go_simp;go_at_call 99;refine(cm.o _ bq).mono ?_;rintro y w6 ⟨rfl,hb6⟩;have HB6:=hid (show Below w5.1.size w5 w6 from(Zg _ _).drew.trans hb6);clear hb6)
  refine hK.o _ _ (fun hH=>?_);clear hK K;have c6:=(HB6.o.cell (p:=⟨q.1.size,0,none⟩) l5).trans c5;have f6:=Boxed.frozen (t:=2) (B:=q.1.size) ((HB6.o.block _ l5).trans bt.o);refine tk 4 hH ?_;refine tk 5 hH ?_;refine ry 6 fun K hK=>?_
  go_simp;refine hK.o _ _ (fun hH=>?_);clear hK K;refine Zz kq ?_ _;rotate_left
  (go_simp;go_at_call 99;refine(cm.o _ bq).mono ?_;rintro y w6 ⟨rfl,hb6⟩;have HB6:=hid (show Below w5.1.size w5 w6 from(Zg _ _).drew.trans hb6);clear hb6)
  refine hK.o _ _ (fun hH=>?_);clear hK K;have c6:=(HB6.o.cell (p:=⟨q.1.size,0,none⟩) l5).trans c5;have f6:=Boxed.frozen (t:=2) (B:=q.1.size) ((HB6.o.block _ l5).trans bt.o);refine tk 4 hH ?_;refine ry 0 fun K hK=>?_
  go_simp;refine hK.o _ _ (fun hH=>?_);clear hK K;refine tk 5 hH ?_;refine ry 6 fun K hK=>?_
  go_simp;refine hK.o _ _ (fun hH=>?_);clear hK K;refine Zz kq ?_ _
  all_goals
   obtain⟨m,hm⟩:=ez ((if M<st+dl then st+dl else M));have cz:max M (st+dl)=m:=by rw[<-hm];split<;>omega
   (first|rw[hm]|rw[cz]);obtain⟨W6,ay⟩:=ez (w6.setCell ⟨q.1.size,0,none⟩ (.int .i64 m));have hb6:=HB6.o;have q1:Boxed w6 q.1.size 2 (.int .i64 M):=(hb6.block _ l5).trans bt.o;have q2:Boxed w5 (q.1.size+1) 2 (.int .i64 G):=(HB5.o.block _ cg.o.lt).trans cg.o;have q3:Boxed w6 (q.1.size+1) 2 (.int .i64 G):=(hb6.block _ (Boxed.lt q2)).trans q2;have e1:Boxed W6 q.1.size 2 (.int .i64 m):=by rw[<-ay];exact q1.set _
   have e2:Boxed W6 (q.1.size+1) 2 (.int .i64 G):=by rw[<-ay];exact Y0 q3 oq
   have av:But (fun k=>k=q.1.size) w5 W6:=by rw[<-ay];exact(But.of_below hb6).then (But.set (S:=fun k=>k=q.1.size) rfl _) (fun _ _ e=>e)
   have br:KeepsOthers w5 W6:=by rw[<-ay];exact(KO.of_belowW hb6).trans (KeepsOthers.setCell _ _ _)
   have bf:=av.own ch.o (fun k e hk=>by have Y:some g=some k:=e;injection Y with Y;have em:k=q.1.size:=hk;omega);have eq:=av.size;rw[ay];have co:=Boxed.cell (t:=2) e2;have bi:=hid (show Boxed W6 q.1.size 2 (.int .i64 m) from e1);have bj:=hid (show Boxed W6 (q.1.size+1) 2 (.int .i64 G) from e2);have bn:=hid av;have bo:=hid br;have au:=hid bf;have ds:=hid cz;obtain⟨i0,cv,cw,cx,cy⟩:=info_parts k8;have ag:=hid (Zh cv (Zh cw (Zh cx cy)));clear ay hb6 q1 q2 q3 e1 e2 av br bf cv cw cx cy c5 f5 c6 f6 hm cz HB6 ef;rw[ds.o] at z
   cases H with
   | none =>
    simp only[clock.UZ] at af z;gi_upto_region 10 with (first|(refine wpListIn_append_own _ (by rfl) (.tmp 29) (.tmp 32) 31 (by rfl) W.1.size 50 i0 _ 2 16 underlying31 ag.o.1 ag.o.2.1 ag.o.2.2.1 ag.o.2.2.2 rfl oq (.slice (some ⟨g,0,none⟩) (n+1) vc) (n+1) (ckC X) (by rfl) (own_below au.o bq) ⟨W6.1.size,0,none⟩ 1 1 [.int .i64 G,.int .i64 0] (by rfl) (by rfl) (World.news_of_block (ZA _ _)) (by simp[Value.oneCell']) (by unfold maxLen;omega) oq (by simp;omega) ?_;intro v9 w9 R ar bz;have bw:=hid (Zcs (own_below au.o bq) ar);obtain⟨g9,bc,rfl,cr,be,_,aj⟩:=KN R oq;have HY:=hid (af.o w9 g9 bc be (by rw[yN];exact aj));have bu:=hid ar;clear R ar bz aj)|(refine⟨trivial,?_⟩;gi_at_call 100;refine(CallsIn.inRound l (Zu.2 HY.o)).mono ?_;rintro e E ⟨rfl,I⟩;have ba:=hid I;clear I))
    have I:=ba.o;have ae:=hid ((KO.of_belowW HB5.o).trans (bo.o.trans ((KeepsOthers.alloc W6 (.cells #[.int .i64 G,.int .i64 0] 50)).trans (bw.o.trans (KO.of_belowW I)))));have am:=hid (show But (fun k=>(Value.slice (some ⟨g,0,none⟩) (n+1) vc).ownBlock=some k) W6 E from((But.of_below ((Zg _ W6).alloc (Zc _) (.cells #[.int .i64 G,.int .i64 0] 50))).then (But.of_grown bu.o) (fun _ _ e=>e)).then (But.of_below I) (fun _ _ e=>e));have r1:Boxed E q.1.size 2 (.int .i64 m):=(am.o.block _ bi.o.lt (fun e=>by have Y:some g=some q.1.size:=e;injection Y with Y;omega)).trans bi.o;have r2:Boxed E (q.1.size+1) 2 (.int .i64 G):=(am.o.block _ bj.o.lt (fun e=>by have Y:some g=some (q.1.size+1):=e;injection Y with Y;omega)).trans bj.o;have J:But (fun k=>k=q.1.size\/k=g) W E:=((But.of_below HB5.o).then bn.o (fun k _ e=>.inl e)).then am.o (fun k _ e=>.inr (by have Y:some g=some k:=e;injection Y with Y;exact Y.symm));have L:∀k,k<W.1.size->k≠q.1.size->¬(k=q.1.size\/k=g):=fun k h1 h2=>oq
    have t1:FlB E w.1.size f U an T V ci cn ct cl:=(J.block _ (Zb aa.o) (L _ (Zb aa.o) oq)).trans aa.o;have t2:Boxed E (w.1.size+1) 2 (.int .i64 0):=(J.block _ ab.o.lt (L _ ab.o.lt oq)).trans ab.o;have t3:Boxed E (w.1.size+1+1) 2 (.int .i64 0):=(J.block _ ac.o.lt (L _ ac.o.lt oq)).trans ac.o;have t4:Boxed E (w.1.size+1+1+1) 38 (.int .i64 0):=(J.block _ aw.o.lt (L _ aw.o.lt oq)).trans aw.o;have tq:FlB E W3.1.size f U an T V ci cn ct cl:=(J.block _ (Zb ax.o) (L _ (Zb ax.o) oq)).trans ax.o;have tB:Below w.1.size w E:=bv.o.trans (J.below bm (fun k e=>by rcases e with e|e<;>omega));have HT:=hid (Zh t1 (Zh t2 (Zh t3 (Zh t4 (Zh tq tB)))));have cj:=hid (show Boxed E q.1.size 2 (.int .i64 m) from r1);have ck:=hid (show Boxed E (q.1.size+1) 2 (.int .i64 G) from r2);have k1:=Boxed.cell (t:=2) r1;have k2:=Boxed.cell (t:=2) r2;have f2:=Boxed.frozen (t:=2) r2;have l2:=Boxed.lt (t:=2) r2;have k4:=t2.cell;have f4:=t2.frozen;have l4:=t2.lt;have k5:=t3.cell;have f5:=t3.frozen;have eg:=t3.lt;have k6:=t4.cell;have f6:=t4.frozen;have l6:=t4.lt;clear I r1 r2 J L t1 t2 t3 t4 tq tB co;gi_wp2;obtain⟨t1,t2,t3,t4,tq,tB⟩:=HT.o;refine⟨(ae.o.trans (((KeepsOthers.setCell _ _ _).trans (KeepsOthers.setCell _ _ _)).trans (KeepsOthers.setCell _ _ _))).from _,rfl,z.o,?_,?_,?_,?_⟩
    .exact Y0 (Y0 (t2.set (.int .i64 0)) oq) oq
    .exact Y0 ((Y0 (c:=w.1.size+1) (o:=0) (u:=.int .i64 0) t3 oq).set (.int .i64 0)) oq
    .exact(Y0 (c:=w.1.size+1+1) (o:=0) (u:=.int .i64 0) (Y0 (c:=w.1.size+1) (o:=0) (u:=.int .i64 0) t4 oq) oq).set (.int .i64 8)
    exact((tB.setCell (p:=⟨w.1.size+1,0,none⟩) (by show w.1.size<=w.1.size+1;omega) _).setCell (p:=⟨w.1.size+1+1,0,none⟩) (by show w.1.size<=w.1.size+1+1;omega) _).setCell (p:=⟨w.1.size+1+1+1,0,none⟩) (by show w.1.size<=w.1.size+1+1+1;omega) _
   | some h =>
    simp only[clock.UZ] at af z;gi_upto_region 10 with (first|(refine wpListIn_append_own _ (by rfl) (.tmp 29) (.tmp 32) 31 (by rfl) W.1.size 50 i0 _ 2 16 underlying31 ag.o.1 ag.o.2.1 ag.o.2.2.1 ag.o.2.2.2 rfl oq (.slice (some ⟨g,0,none⟩) (n+1) vc) (n+1) (ckC X) (by rfl) (own_below au.o bq) ⟨W6.1.size,0,none⟩ 1 1 [.int .i64 G,.int .i64 0] (by rfl) (by rfl) (World.news_of_block (ZA _ _)) (by simp[Value.oneCell']) (by unfold maxLen;omega) oq (by simp;omega) ?_;intro v9 w9 R ar bz;have bw:=hid (Zcs (own_below au.o bq) ar);obtain⟨g9,bc,rfl,cr,be,_,aj⟩:=KN R oq;have HY:=hid (af.o w9 g9 bc be (by rw[yN];exact aj));have bu:=hid ar;clear R ar bz aj)|(refine⟨trivial,?_⟩;gi_at_call 100;refine(CallsIn.inRound l (Zu.2 HY.o)).mono ?_;rintro e E ⟨rfl,I⟩;have ba:=hid I;clear I))
    have I:=ba.o;have ae:=hid ((KO.of_belowW HB5.o).trans (bo.o.trans ((KeepsOthers.alloc W6 (.cells #[.int .i64 G,.int .i64 0] 50)).trans (bw.o.trans (KO.of_belowW I)))));have am:=hid (show But (fun k=>(Value.slice (some ⟨g,0,none⟩) (n+1) vc).ownBlock=some k) W6 E from((But.of_below ((Zg _ W6).alloc (Zc _) (.cells #[.int .i64 G,.int .i64 0] 50))).then (But.of_grown bu.o) (fun _ _ e=>e)).then (But.of_below I) (fun _ _ e=>e));have r1:Boxed E q.1.size 2 (.int .i64 m):=(am.o.block _ bi.o.lt (fun e=>by have Y:some g=some q.1.size:=e;injection Y with Y;omega)).trans bi.o;have r2:Boxed E (q.1.size+1) 2 (.int .i64 G):=(am.o.block _ bj.o.lt (fun e=>by have Y:some g=some (q.1.size+1):=e;injection Y with Y;omega)).trans bj.o;have J:But (fun k=>k=q.1.size\/k=g) W E:=((But.of_below HB5.o).then bn.o (fun k _ e=>.inl e)).then am.o (fun k _ e=>.inr (by have Y:some g=some k:=e;injection Y with Y;exact Y.symm));have L:∀k,k<W.1.size->k≠q.1.size->¬(k=q.1.size\/k=g):=fun k h1 h2=>oq
    have t1:FlB E w.1.size f U an T V ci cn ct cl:=(J.block _ (Zb aa.o) (L _ (Zb aa.o) oq)).trans aa.o;have t2:Boxed E (w.1.size+1) 2 (.int .i64 0):=(J.block _ ab.o.lt (L _ ab.o.lt oq)).trans ab.o;have t3:Boxed E (w.1.size+1+1) 2 (.int .i64 0):=(J.block _ ac.o.lt (L _ ac.o.lt oq)).trans ac.o;have t4:Boxed E (w.1.size+1+1+1) 38 (.int .i64 0):=(J.block _ aw.o.lt (L _ aw.o.lt oq)).trans aw.o;have tq:FlB E W3.1.size f U an T V ci cn ct cl:=(J.block _ (Zb ax.o) (L _ (Zb ax.o) oq)).trans ax.o;have tB:Below w.1.size w E:=bv.o.trans (J.below bm (fun k e=>by rcases e with e|e<;>omega));have HT:=hid (Zh t1 (Zh t2 (Zh t3 (Zh t4 (Zh tq tB)))));have cj:=hid (show Boxed E q.1.size 2 (.int .i64 m) from r1);have ck:=hid (show Boxed E (q.1.size+1) 2 (.int .i64 G) from r2);have k1:=Boxed.cell (t:=2) r1;have k2:=Boxed.cell (t:=2) r2;have f2:=Boxed.frozen (t:=2) r2;have l2:=Boxed.lt (t:=2) r2;have k4:=t2.cell;have f4:=t2.frozen;have l4:=t2.lt;have k5:=t3.cell;have f5:=t3.frozen;have eg:=t3.lt;have k6:=t4.cell;have f6:=t4.frozen;have l6:=t4.lt;clear I r1 r2 J L t1 t2 t3 t4 tq tB co;by_cases ho:4000<m
    .rw[Z3 ho] at z;gi_wp2;obtain⟨t1,t2,t3,t4,tq,tB⟩:=HT.o;refine⟨(ae.o.trans (((KeepsOthers.setCell _ _ _).trans (KeepsOthers.setCell _ _ _)).trans (KeepsOthers.setCell _ _ _))).from _,rfl,z.o,?_,?_,?_,?_⟩
     .exact Y0 (Y0 (t2.set (.int .i64 0)) oq) oq
     .exact Y0 ((Y0 (c:=w.1.size+1) (o:=0) (u:=.int .i64 0) t3 oq).set (.int .i64 0)) oq
     .exact(Y0 (c:=w.1.size+1+1) (o:=0) (u:=.int .i64 0) (Y0 (c:=w.1.size+1) (o:=0) (u:=.int .i64 0) t4 oq) oq).set (.int .i64 8)
     exact((tB.setCell (p:=⟨w.1.size+1,0,none⟩) (by show w.1.size<=w.1.size+1;omega) _).setCell (p:=⟨w.1.size+1+1,0,none⟩) (by show w.1.size<=w.1.size+1+1;omega) _).setCell (p:=⟨w.1.size+1+1+1,0,none⟩) (by show w.1.size<=w.1.size+1+1+1;omega) _
    rw[Z2 ho] at z;gi_wp2;have tE:But (fun k=>k=q.1.size+1) E (E.setCell ⟨q.1.size+1,0,none⟩ (.int .i64 h)):=But.set (S:=fun k=>k=q.1.size+1) rfl _;obtain⟨t1,t2,t3,t4,tq,tB⟩:=HT.o;refine⟨(ae.o.trans (KeepsOthers.setCell _ _ _)).from _,trivial,⟨m,h,z.o,Y0 cj.o oq,ck.o.set _,?_,?_,?_,?_,?_⟩,?_⟩
    .exact(tE.block _ (Zb t1) oq).trans t1
    .exact Y0 t2 oq
    .exact Y0 t3 oq
    .exact Y0 t4 oq
    .exact tB.setCell (by show w.1.size<=q.1.size+1;omega) _
    exact(tE.block _ (Zb tq) oq).trans tq
 case done =>
  rintro D xs W hD dh ⟨hi,hq⟩ hk;have bk:=hid ((Mk.nil w.1.size 0 W).cons oq (Zk _) hk);obtain⟨M,G,h0,h1,h2,h3,h4,h5,h6,h7⟩:=hi;rw[dh] at h0;have dz:=hid h0;have HI:=hid (Zh h4 (Zh h5 (Zh h6 h7)));have c5:=h1.cell;have c6:=h2.cell;have f1:=h4.cell;have g1:=h4.frozen;have f2:=h5.cell;have g2:=h5.frozen;have f3:=h6.cell;have g3:=h6.frozen;have l1:=h4.lt;have l2:=h5.lt;have l3:=h6.lt;clear h0 h1 h2 h3 h4 h5 h6 hk dh hq;gi_wp2;have KS1:=hid (show S2W q.1.size (.int .i64 M) (.int .i64 G) W.drew from ⟨c5,c6⟩);have KS2:=hid (show S2W q.1.size (.int .i64 M) (.int .i64 G) (W.setCell ⟨w.1.size+1,0,none⟩ (.int .i64 M)).drew from S2W.set (w':=W) oq ⟨c5,c6⟩);have KS3:=hid (show S2W q.1.size (.int .i64 M) (.int .i64 G) ((W.setCell ⟨w.1.size+1,0,none⟩ (.int .i64 M)).setCell ⟨w.1.size+1+1,0,none⟩ (.int .i64 G)).drew from S2W.set oq (S2W.set (w':=W) oq ⟨c5,c6⟩));have KS4:=hid (show S2W q.1.size (.int .i64 M) (.int .i64 G) (((W.setCell ⟨w.1.size+1,0,none⟩ (.int .i64 M)).setCell ⟨w.1.size+1+1,0,none⟩ (.int .i64 G)).setCell ⟨w.1.size+1+1+1,0,none⟩ (.int .i64 0)).drew from S2W.set oq (S2W.set oq (S2W.set (w':=W) oq ⟨c5,c6⟩)));refine wpIn_wide.2 (wp_region_noPanic ?_);refine ZP (S:=S2W q.1.size (.int .i64 M) (.int .i64 G)) kq (by first|with_reducible exact KS1.o|with_reducible exact KS2.o|with_reducible exact KS3.o|with_reducible exact KS4.o) (fun hH=>?_);refine tk 0 hH ?_;refine tk 1 hH ?_;refine ry 2 fun K hK=>?_
  go_simp;refine hK.o _ _ (fun hH=>?_);clear hK K;refine ry 3 fun K hK=>?_
  go_simp;refine hK.o _ _ (fun hH=>?_);clear hK K;refine ry 4 fun K hK=>?_
  go_simp;refine hK.o _ _ (fun hH=>?_);clear hK K;refine Zz kq ?_ _;refine NoPanic.normal ?_;obtain⟨h4,h5,h6,h7⟩:=HI.o;have b1:Boxed (((W.setCell ⟨w.1.size+1,0,none⟩ (.int .i64 M)).setCell ⟨w.1.size+1+1,0,none⟩ (.int .i64 G)).setCell ⟨w.1.size+1+1+1,0,none⟩ (.int .i64 0)) (w.1.size+1) 2 (.int .i64 M):=Y0 (Y0 (h4.set (.int .i64 M)) oq) oq;have b2:Boxed (((W.setCell ⟨w.1.size+1,0,none⟩ (.int .i64 M)).setCell ⟨w.1.size+1+1,0,none⟩ (.int .i64 G)).setCell ⟨w.1.size+1+1+1,0,none⟩ (.int .i64 0)) (w.1.size+1+1) 2 (.int .i64 G):=Y0 ((Y0 (c:=w.1.size+1) (o:=0) (u:=.int .i64 M) h5 oq).set (.int .i64 G)) oq;have b3:Boxed (((W.setCell ⟨w.1.size+1,0,none⟩ (.int .i64 M)).setCell ⟨w.1.size+1+1,0,none⟩ (.int .i64 G)).setCell ⟨w.1.size+1+1+1,0,none⟩ (.int .i64 0)) (w.1.size+1+1+1) 38 (.int .i64 0):=(Y0 (c:=w.1.size+1+1) (o:=0) (u:=.int .i64 G) (Y0 (c:=w.1.size+1) (o:=0) (u:=.int .i64 M) h6 oq) oq).set (.int .i64 0);have cp:Below w.1.size w (((W.setCell ⟨w.1.size+1,0,none⟩ (.int .i64 M)).setCell ⟨w.1.size+1+1,0,none⟩ (.int .i64 G)).setCell ⟨w.1.size+1+1+1,0,none⟩ (.int .i64 0)):=((h7.setCell (p:=⟨w.1.size+1,0,none⟩) (by show w.1.size<=w.1.size+1;omega) _).setCell (p:=⟨w.1.size+1+1,0,none⟩) (by show w.1.size<=w.1.size+1+1;omega) _).setCell (p:=⟨w.1.size+1+1+1,0,none⟩) (by show w.1.size<=w.1.size+1+1+1;omega) _;obtain⟨WZ,aq⟩:=ez (((((W.setCell ⟨w.1.size+1,0,none⟩ (.int .i64 M)).setCell ⟨w.1.size+1+1,0,none⟩ (.int .i64 G)).setCell ⟨w.1.size+1+1+1,0,none⟩ (.int .i64 0))).drew);have z1:Boxed WZ (w.1.size+1) 2 (.int .i64 M):=by rw[<-aq];exact b1
  have z2:Boxed WZ (w.1.size+1+1) 2 (.int .i64 G):=by rw[<-aq];exact b2
  have z3:Boxed WZ (w.1.size+1+1+1) 38 (.int .i64 0):=by rw[<-aq];exact b3
  have zB:Below w.1.size w WZ:=by rw[<-aq];exact cp.drew
  have zM:Mk w.1.size W.1.size [mkD D] WZ:=by rw[<-aq];exact bk.o.from (((((KeepsOthers.setCell _ _ _).trans (KeepsOthers.setCell _ _ _)).trans (KeepsOthers.setCell _ _ _)).trans (KeepsOthers.drew _)).from _)
  rw[aq];have HZ:=hid (Zh z1 (Zh z2 (Zh z3 zB)));have ea:=hid zM;clear aq z1 z2 z3 zB zM b1 b2 b3 cp h4 h5 h6 h7 KS1 KS2 KS3 KS4 bk c5 c6 f1 g1 f2 g2 f3 g3;gi_wp2;refine ea.o.leaves (fun W' hW'=>⟨.tuple #[.int .i64 M,.int .i64 G,.int .i64 0],?_,?_⟩)
  .have q1:=Boxed.cell (t:=2) (hW'.cells _ _ HZ.o.1 rfl);have q2:=Boxed.cell (t:=2) (hW'.cells _ _ HZ.o.2.1 rfl);have q3:=Boxed.cell (t:=38) (hW'.cells _ _ HZ.o.2.2.1 rfl);clear hW';simp only[results,results43];go_simp
  exact⟨by rw[dz.o];rfl,HZ.o.2.2.2.trans hW'.below⟩
 rintro D pre W hD ⟨rs,az⟩ ⟨h0,h4,h5,h6,h7⟩ hk;have bk:=hid ((Mk.nil w.1.size 0 W).cons oq (Zk _) hk);have eb:JQ f (XR f) (0,1)=none:=by rw[<-az,zn,h0];rfl
 have HZ:=hid (Zh h4 (Zh h5 (Zh h6 h7)));clear h0 h4 h5 h6 h7 hk;gi_wp2;refine bk.o.leaves (fun W' hW'=>⟨.tuple #[.int .i64 0,.int .i64 0,.int .i64 8],?_,?_⟩)
 .have q1:=Boxed.cell (t:=2) (hW'.cells _ _ HZ.o.1 rfl);have q2:=Boxed.cell (t:=2) (hW'.cells _ _ HZ.o.2.1 rfl);have q3:=Boxed.cell (t:=38) (hW'.cells _ _ HZ.o.2.2.1 rfl);clear hW';simp only[results,results43];go_simp
 exact⟨by rw[eb];rfl,HZ.o.2.2.2.trans hW'.below⟩
theorem Za5{i:Int}{c:Int × Int}(h:XV f i=some c):(∃k:Nat,i=(k:Int)/\∃hk:k<f.ins.length,f.ins[k]=c)\/(∃k:Nat,i=(f.ins.length:Int)+(k:Int)/\∃hk:k<f.tasks.length,(f.tasks[k].per,f.tasks[k].ph)=c):=by
 unfold XV at h;split at h
 .cases h
 rename_i h0
 split at h
 .rename_i h1
  left;have g:i.toNat<f.ins.length:=oq;rw[Ze g] at h;injection h with h
  exact⟨i.toNat,oq,g,h⟩
 rename_i h1
 right
 cases hk:f.tasks[(i-(f.ins.length:Int)).toNat]? with
 | none=>rw[hk] at h;cases h
 | some t =>
  rw[hk] at h;obtain⟨g,j⟩:=ZB.1 hk;injection h with h
  exact⟨_,oq,g,by rw[j];exact h⟩
theorem Vx(j:∀p f k n d p1 f1:Int,clock.YD p f k n d=(p1,f1,0)->clock.YG p1 f1=true)(c:Int × Int)(g:List (Int × Int × Int))(q:clock.YG c.1 c.2=true)(h:(clock.YL c.1 c.2 g).2.2=0) :
  ∀i,i<=g.length->clock.YG (XT c g i).1 (XT c g i).2=true/\(clock.YL (XT c g i).1 (XT c g i).2 (g.drop i)).2.2=0
 | 0,_=>⟨q,by simpa [XT] using h⟩
 | i+1,hi=>by
  obtain⟨h1,h2⟩:=Vx j c g q h i oq;have hd:g.drop i=g.getD i (0,0,0)::g.drop (i+1):=by
   rw[ZO oq,Zf,Ze oq];rfl
  rw[hd] at h2;obtain⟨o,v⟩:=ez (g.getD i (0,0,0));obtain⟨x,y⟩:=ez (XT c g i);have z:XT c g (i+1)=nxt x o:=by rw[XT,y,v]
  rw[y,v,clock.YL] at h2;rw[z];unfold nxt;simp only at h2 ⊢;by_cases m:(clock.YD x.1 x.2 o.1 o.2.1 o.2.2).2.2=0
  .rw[Z3 m] at h2;exact⟨j _ _ _ _ _ _ _ (by rw[<-m]),h2⟩
  rw[Z2 m] at h2;exact absurd h2 m
theorem Un(m:∀p f k n d p1 f1:Int,clock.YD p f k n d=(p1,f1,0)->clock.YG p1 f1=true)(c:Int × Int)(g:List (Int × Int × Int))(v:clock.YG c.1 c.2=true)(h:(clock.YL c.1 c.2 g).2.2=0)(i:Nat)(hi:i<g.length) :
  (clock.YD (XT c g i).1 (XT c g i).2 (g.getD i (0,0,0)).1 (g.getD i (0,0,0)).2.1 (g.getD i (0,0,0)).2.2).2.2=0:=by
 have j:=(Vx m c g v h i oq).2;have hd:g.drop i=g.getD i (0,0,0)::g.drop (i+1):=by
  rw[ZO oq,Zf,Ze oq];rfl
 rw[hd,clock.YL] at j;by_cases q:(clock.YD (XT c g i).1 (XT c g i).2 (g.getD i (0,0,0)).1 (g.getD i (0,0,0)).2.1 (g.getD i (0,0,0)).2.2).2.2=0
 .exact q
 rw[Z2 q] at j;exact absurd j q
theorem Zgh(q:∀p f k n d p1 f1:Int,clock.YD p f k n d=(p1,f1,0)->clock.YG p1 f1=true)
  (v:∀x∈XR f,∃s,XV f x.1.src=some s/\x.1.ops.length<=20/\(clock.V9 s.1 s.2 x.1.ops).2.2=0)(z:∀x∈XR f,0<=x.2/\x.2<=1000)(A:f.ins.length<=1000/\f.tasks.length<=1000):RdG f:=by
 refine⟨fun x hx=>?_,fun x hx=>?_,z,fun x hx=>?_,fun x hx=>?_⟩
 .obtain⟨s,m,_⟩:=v x hx;exact⟨s,m⟩
 .obtain⟨s,m,y,_⟩:=v x hx;refine⟨y,?_⟩;unfold I64;rcases Za5 m with ⟨k,hk,hk2,_⟩|⟨k,hk,hk2,_⟩<;>omega
 .obtain⟨s,m,y,g⟩:=v x hx;rw[m];simp only[Ya];unfold clock.V9 at g;by_cases j:clock.YG s.1 s.2=true
  .rw[Z3 j] at g;exact fun i hi=>clock.Xz.1 (Vx q s x.1.ops j g i hi).1
  rw[Z2 j] at g;simp at g
 obtain⟨s,m,y,g⟩:=v x hx;rw[m];simp only[Ya];unfold clock.V9 at g;by_cases j:clock.YG s.1 s.2=true
 .rw[Z3 j] at g;exact fun i hi=>Un q s x.1.ops j g i hi
 rw[Z2 j] at g;simp at g
theorem Zc6(h:∀t∈f.tasks,t.args.length<=1000)(j:f.tasks.length<=1000)(m:f.tells.length<=1000):(XR f).length<=2000000:=by
 have key:∀l:List TD,(∀t∈l,t.args.length<=1000)->(rdT l).length<=1000*l.length:=by
  intro l
  induction l with
  | nil=>intro _;simp[rdT]
  | cons t l ih =>
   intro g;have:=ih (fun t ht=>g t (List.mem_cons_of_mem _ ht));have q:=g t List.mem_cons_self;unfold rdT at *;rw[List.flatMap_cons,Zy,Zo,Zp];omega
 have:=key f.tasks h;unfold XR;rw[Zy,Zo];omega
def GWd(f:FD):Prop:=Xd f=true/\f.ins.length<=1000/\f.tells.length<=1000/\∀t∈f.tasks,t.args.length<=1000
theorem zU{a:AD}{j g:Int}(h:XM f a j g=true):∃s,XV f a.src=some s/\a.ops.length<=20/\(clock.V9 s.1 s.2 a.ops).2.2=0:=by
 unfold XM at h
 cases hs:XV f a.src with
 | none=>rw[hs] at h;cases h
 | some s =>
  rw[hs] at h;simp only[ZC,Yl] at h;exact⟨s,rfl,h.1,h.2.1⟩
theorem Zfe(h:GWd f):RdG f/\(XR f).length<=2000000:=by
 obtain⟨z,v,y,q⟩:=h;have m:=QS z;have C:=m.few;have key:∀x∈XR f,(∃s,XV f x.1.src=some s/\x.1.ops.length<=20/\(clock.V9 s.1 s.2 x.1.ops).2.2=0)/\0<=x.2/\x.2<=1000:=by
  intro x g;unfold XR at g;rcases List.mem_append.1 g with g|g
  .obtain⟨t,ht,g⟩:=List.mem_flatMap.1 g;obtain⟨a,A,rfl⟩:=Yf.1 g;obtain⟨i,hi,e⟩:=Yn ht;have j:=m.fits i hi a (by rw[<-JP hi,e];exact A);exact⟨zU j,by simp only;omega,by simp only;omega⟩
  obtain⟨t,ht,rfl⟩:=Yf.1 g;have j:=m.tel t ht;exact⟨zU j.2,by have:=j.1;simp only;omega,by have:=j.1;simp only;omega⟩
 exact⟨Zgh (fun p f k n d p1 f1 h=>(Jf h).2.1) (fun x g=>(key x g).1) (fun x g=>(key x g).2) ⟨v,oq⟩,Zc6 q oq y⟩
theorem Zc8{j an g m:OA}{q v y cl:Nat}(z:FAP W f j an g m)(h:Xd f=true):Calls prog 44 #[fv f j an g m q v y cl] W fun x w'=>x=.returned (.bool true)/\Below W.1.size W w':=by
 have:=Ue (w:=W) f j an g m q v y cl z;rw[h] at this;exact this
theorem Zgq(W:World)(f:FD)(ai an aT al:OA)(ci cn ct cl:Nat)(hf:FAP W f ai an aT al)(i:Int)(hi:I64 i):Calls prog 169 #[fv f ai an aT al ci cn ct cl,.int .i64 i] W fun x w'=>x=.returned (Uv (XV f i))/\Below W.1.size W w':=Uu (w:=W) f ai an aT al ci cn ct cl hf i hi
