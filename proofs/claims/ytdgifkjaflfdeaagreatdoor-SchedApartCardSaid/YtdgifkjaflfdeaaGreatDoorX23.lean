/- Parts of the proof. -/
import Derived.Test.YtdgifkjaflfdeaaGreatDoorX20
set_option linter.all false
set_option maxRecDepth 100000
set_option maxHeartbeats 16000000
namespace Go.Proofs.YtdgifkjaflfdeaaGreatDoor.syn
open Tryz
open Go.RowKit Go.Shelf
attribute [local go_sem] ZU
theorem Js{ℓ n id:Nat}{P:Program}{ops:Array Oper}{Q:Exit->Act->World->Prop}{a:Act}{w:World}{S:World->Prop}(hm:P.follows .mixedOrders=true)(hd:ops.toList.all V4=true)(hlet:¬LetsOut Q)(hS:S w.drew)
  (h:S w.drew->wpAnyH P .any ops Q S ops.size (Array.replicate ops.size false) a w.drew):(Code.region id ops true).wpIn (Fence.wide.inRound ℓ) n P Q a w :=
 zF hm hd hlet (wpAny_of_held _ _ _ _ (h hS))
noncomputable def JO(p:PG)(xIx fIx iIx:IE)(e:PE)(way:ByteArray):Nat × List Op3:=@Classical.epsilon (Nat × List Op3) ⟨(0,[])⟩ (fun r=>∃N,XG p.flows p.ins.length xIx fIx iIx N e way []=some r)
theorem JZ{p:PG}{xIx f iIx:IE}{e:PE}(h:Xe p.flows p.ins.length xIx f iIx e)(g:ByteArray):∃N,XG p.flows p.ins.length xIx f iIx N e g []=some (JO p xIx f iIx e g):=by
 refine Classical.epsilon_spec (p:=fun r=>∃N,XG p.flows p.ins.length xIx f iIx N e g []=some r) ?_;obtain⟨N,j⟩:=h
 cases hg:XG p.flows p.ins.length xIx f iIx N e g [] with
 | none=>exact absurd hg (j g [])
 | some r=>exact⟨r,N,hg⟩
noncomputable def Kv(p:PG)(xIx fIx iIx:IE)(e:PE)(way:ByteArray):Bool:=decide ((JO p xIx fIx iIx e way).2.length<=20)
def XC:PL->ByteArray->Nat->List (PE × ByteArray)
 | .nil,_,_=>[]
 | .cons k nm n d args a tl,w,i=>(⟨k,nm,n,d,args,a⟩,w++⟨#[47]⟩++dg i)::XC tl w (i+1)
theorem J6:∀(l:PL)(w:ByteArray)(i:Nat),(XC l w i).length=l.len:=by
 intro l
 induction l with
 | nil=>intro w i;rfl
 | cons k nm n d args a tl ih1 ih2=>intro w i;simp only[XC,Zp,ih2,PL.len]<;>(try omega)
theorem EF:∀(l:PL)(w:ByteArray)(i j:Nat)(c:PE),l.at j=some c->(XC l w i)[j]?=some (c,w++⟨#[47]⟩++dg (i+j)):=by
 intro l
 induction l with
 | nil=>intro w i j c h;cases h
 | cons k nm n d args a tl ih1 ih2 =>
  intro w i j c h
  cases j with
  | zero=>cases h;rfl
  | succ j =>
   have:=ih2 w (i+1) j c h;rw[show i+1+j=i+(j+1) by omega] at this;simp only[XC,List.getElem?_cons_succ];exact this
noncomputable def qo(p:PG)(xIx fIx iIx:IE)(s:PE × ByteArray):Bool:=(XC s.1.args s.2 0).all (fun k=>Kv p xIx fIx iIx k.1 k.2)
noncomputable def Zan(p:PG)(xIx fIx iIx:IE)(e:PE)(i:Nat):Bool:=Kv p xIx fIx iIx e (dg i)&&((YV e (dg i)).filter isC).all (qo p xIx fIx iIx)
noncomputable def Qv(p:PG)(xIx fIx iIx:IE):List FL->Nat->Bool
 | [],_=>true
 | f::l,i=>Zan p xIx fIx iIx f.e i&&Qv p xIx fIx iIx l (i+1)
theorem qn{p:PG}{xIx f iIx:IE}{l:List FL}{i:Nat}(h:i<l.length)(j:Nat):Qv p xIx f iIx (l.drop i) j=(Zan p xIx f iIx l[i].e j&&Qv p xIx f iIx (l.drop (i+1)) (j+1)):=by
 rw[ZO h];rfl
theorem Zbx{α:Type}{f:α->Bool}{l:List α}{j:Nat}(h:j<l.length):(l.take (j+1)).all f=((l.take j).all f&&f l[j]):=by
 rw[Zw h,List.all_append];simp only[List.all_cons,List.all_nil,Bool.and_true]
theorem Zd7{w:World}{b:Nat}{f g j m q v x y:Value}{t:TypeId}(h:w.1[b]?=some (.cells #[f,g,j,m,q,v,x,y] t (0,0))) :
  (w.cell? ⟨b,0,none⟩=some f/\w.cell? ⟨b,1,none⟩=some g/\w.cell? ⟨b,2,none⟩=some j/\w.cell? ⟨b,3,none⟩=some m/\w.cell? ⟨b,4,none⟩=some q/\w.cell? ⟨b,5,none⟩=some v/\w.cell? ⟨b,6,none⟩=some x/\w.cell? ⟨b,7,none⟩=some y)/\∀o,w.frozen? ⟨b,o,none⟩=false:=by
 refine⟨⟨?_,?_,?_,?_,?_,?_,?_,?_⟩,?_⟩
 all_goals first|(intro o;simp[World.frozen?,h])|simp[World.cell?,h]
theorem Zg3{W0 w:World}(p:PG)(an C A D:OA)(G F E H:Nat)(hp:AP W0 p an C A D G F E H)(I:JW p)(O T R U V m:Nat)(L v q M y:List (ByteArray × Value))(hM:Mkr W0 p an C A D G F E H O T R U V m L v q M y w)
  (xIx g iIx:IE)(hX:XF y xIx)(Y:XF q g)(Z:XF v iIx)(J:∀k j,xIx k=some j->j<=1000)(e:PE)(f:ByteArray)(z:OA)(cap:Nat)(hs:Qs W0 e z cap f)(X:Xe p.flows p.ins.length xIx g iIx e) :
  Calls prog 143 #[.pointer (some ⟨m,0,none⟩),spv e z cap f] w fun x w'=>x=.returned (.bool (Kv p xIx g iIx e f))/\Below w.1.size w w':=by
 obtain⟨N,h⟩:=JZ X f;exact Zef p an C A D G F E H hp I O T R U V m L v q M y hM xIx g iIx hX Y Z J N e f z cap hs _ _ h
structure AoI (w:World) (m B:Nat) (Ds:List Nat) (X:World):Prop where
 low:Below w.1.size w X
 size:w.1.size+1<=B
 bsize:B<=X.1.size
 b0:Boxed X w.1.size 167 (.pointer (some ⟨m,0,none⟩))
 marks:Mks w.1.size Ds X
 under:∀D∈Ds,D<B
section
variable {w:World} {m B:Nat} {Ds:List Nat} {X Y:World}
theorem AoI.keep(h:AoI w m B Ds X)(hb:Below B X Y):AoI w m B Ds Y:=by
 have f:=h.size;exact⟨h.low.trans (hb.mono oq),f,Zm h.bsize hb.size,(hb.block _ oq).trans h.b0,⟨fun D hD=>⟨(h.marks.1 D hD).1,(hb.block D (h.under D hD)).trans (h.marks.1 D hD).2⟩,h.marks.2⟩,h.under⟩
theorem AoI.more(h:AoI w m B Ds X){B':Nat}(h1:B<=B')(h2:B'<=X.1.size):AoI w m B' Ds X :=
 ⟨h.low,Zm h.size h1,h2,h.b0,h.marks,fun D hD=>Zd (h.under D hD) h1⟩
theorem AoI.mark(h:AoI w m B Ds X){D:Nat}(g:B<=D)(f:X.1[D]?=some (.deferred (some []))):AoI w m X.1.size (D::Ds) X:=by
 have j:=h.size;refine⟨h.low,Zm h.size h.bsize,Zc _,h.b0,⟨fun D' hD'=>?_,List.nodup_cons.2 ⟨fun hm=>?_,h.marks.2⟩⟩,fun D' hD'=>?_⟩
 .rcases ZS.1 hD' with rfl|hm
  .exact⟨oq,f⟩
  exact h.marks.1 D' hm
 .have:=h.under D hm;omega
 rcases ZS.1 hD' with rfl|hm
 .exact Zb f
 have:=h.under D' hm;have:=h.bsize;omega
theorem AoI.upon(h:AoI w m B Ds X){r:Nat}(g:Upon r X Y)(y:w.1.size<r)(j:∃cs t fz,X.1[r]?=some (.cells cs t fz)):AoI w m B Ds Y:=by
 have v:=h.size;have x:=h.bsize;refine⟨h.low.trans (g.below oq (by have:=h.low.size;omega)),v,Zm x g.size,(g.block _ oq oq).trans h.b0,⟨fun D hD=>⟨(h.marks.1 D hD).1,?_⟩,h.marks.2⟩,h.under⟩;have f:=(h.marks.1 D hD).2;refine(g.block D (Zb f) (fun e=>?_)).trans f;obtain⟨cs,t,fz,q⟩:=j;rw[e,q] at f
 cases f
end
structure AoR (w:World) (m B:Nat) (Ds:List Nat) (Bt Bf:Nat) (fo:Obj) (b:Bool) (X:World):Prop where
 base:AoI w m B Ds X
 lt:w.1.size<Bt/\Bt<Bf/\Bf<B
 tb:X.1[Bt]?=some fo
 fb:Boxed X Bf 4 (.bool b)
section
variable {w:World} {m B:Nat} {Ds:List Nat} {Bt Bf:Nat} {fo:Obj} {b:Bool} {X Y:World}
theorem AoR.keep(h:AoR w m B Ds Bt Bf fo b X)(hb:Below B X Y):AoR w m B Ds Bt Bf fo b Y:=by
 have f:=h.lt;exact⟨h.base.keep hb,f,(hb.block _ oq).trans h.tb,(hb.block _ oq).trans h.fb⟩
theorem AoR.own{row:Option Nat}(h:AoR w m B Ds Bt Bf fo b X)(hg:X.grownBy Y row)(hr:∀r,row=some r->B<=r/\∃o:Obj,X.1[r]?=some o/\o.isCells=false):AoR w m B Ds Bt Bf fo b Y :=
 h.keep (JJ hg hr h.base.bsize)
theorem AoR.put(h:AoR w m B Ds Bt Bf fo b X)(f:Bool):AoR w m B Ds Bt Bf fo f (X.setCell ⟨Bf,0,none⟩ (.bool f)):=by
 have g:=h.lt;exact⟨h.base.upon ((Upon.refl Bf X).setCell (p:=⟨Bf,0,none⟩) (Or.inl rfl) _) oq ⟨_,_,_,h.fb⟩,g,(Zr _ _ _ _ (show Bt≠Bf by omega)).trans h.tb,h.fb.set _⟩
end
theorem vD{W0 w:World}(p:PG)(an ai af ao:OA)(cn ci cf co:Nat)(hp:AP W0 p an ai af ao cn ci cf co)(be:JW p)(mc mi mf mn mx m:Nat)(Lc Li Lf Ln Lx:List (ByteArray × Value))(hM:Mkr W0 p an ai af ao cn ci cf co mc mi mf mn mx m Lc Li Lf Ln Lx w)
  (xIx A iIx:IE)(hX:XF Lx xIx)(hF:XF Lf A)(hI:XF Li iIx)(aa:∀k j,xIx k=some j->j<=1000)(hE:∀e:PE,YF e=true->Xe p.flows p.ins.length xIx A iIx e) :
  Calls prog 83 #[.pointer (some ⟨m,0,none⟩)] w fun x w'=>((x=.returned (.tuple #[.int .i64 0,.int .i64 0])/\Qv p xIx A iIx p.flows 0=true)\/(∃a,x=.returned (.tuple #[.int .i64 a,.int .i64 8])/\Qv p xIx A iIx p.flows 0=false))/\Below w.1.size w w':=by
 have et:=hM.lt;have dc:=hM.low.size;have es:=be.lens;have HM:=hid hM;have HP:=hid hp;have bj:=hid be;have bx:=hid (fun(w':World) (hb:Below w.1.size w w') e way ad cap (hs:Qs W0 e ad cap way)=>Zg3 (W0:=W0) p an ai af ao cn ci cf co hp be mc mi mf mn mx m Lc Li Lf Ln Lx (hM.grow hb) xIx A iIx hX hF hI aa e way ad cap hs (hE e hs.good));have de:=hid (fun(w':World) (hb:Below W0.1.size W0 w') e c ad cap way i (hs:Qs W0 e ad cap way) (hc:e.args.at i=some c)=>JG hb e c ad cap way i hs hc);obtain⟨⟨x0,x1,x2,x3,x4,x5,x6,x7,x8⟩,xf⟩:=Y1 (show w.1[m]?=_ from hM.box);clear hM hp be hX hF hI aa hE;unfold spv at *;refine(Zu (n:=6)).1 ?_;refine callsIn_of_wp_marks func83 rfl trivial ?_ rfl;simp only[ntmps83,ZJ,Zp,Zx,Nat.reduceAdd,Nat.reduceSub,ZG,ZF,ZM,ZK,ZN,ZD];gi_wp2;obtain⟨W1,au⟩:=ez (w.alloc (.cells #[.pointer (some ⟨m,0,none⟩)] 167));rw[au];have cg:=hid (show AoI w m W1.1.size [] W1 from ⟨by rw[<-au];exact(Zg _ _).alloc (Zc _) _,by rw[<-au];simp,Zc _,by rw[<-au];exact Boxed.new _ _ _,⟨by simp,List.nodup_nil⟩,by simp⟩);clear au x0 x1 x2 x3 x4 x5 x6 x7 x8 xf;refine wpIn_loop (fun a' wr=>∃(i:Nat)(Ds:List Nat)(u4 u5 u6 u7 u8 u16 u17 u18 u19 u20 u21 u22 u23 u24 u25 u26 u27 u28 u29 u30 u31 u32 u33 u34 u35 u36 u37 u38 u39 u40 u41 u42 u43 u44 u45 u46 u47 u48 u49 u50 u51 u52:Value),(i<=p.flows.length/\Qv p xIx A iIx p.flows 0=Qv p xIx A iIx (p.flows.drop i) i/\AoI w m wr.1.size Ds wr) /\
  a'={ tmps:=#[.pointer (some ⟨m,0,none⟩),.pointer (some ⟨w.1.size,0,none⟩),.int .i64 0,.int .i64 0,u4,u5,u6,u7,u8,.pointer (some ⟨m,0,none⟩),.pointer (some ⟨m,0,none⟩),.pointer (some ⟨m,0,none⟩),.pointer (some ⟨m,2,none⟩),.slice af p.flows.length cf,.int .i64 (p.flows.length:Int),.int .i64 (i:Int),u16,u17,u18,u19,u20,u21,u22,u23,u24,u25,u26,u27,u28,u29,u30,u31,u32,u33,u34,u35,u36,u37,u38,u39,u40,u41,u42,u43,u44,u45,u46,u47,u48,u49,u50,u51,u52],defers:=Ds.map mk })
  (fun a' _=>p.flows.length-(intOf (a'.tmps.getD 15 undef)).toNat) ⟨0,[],_,_,_,_,_,_,_,_,_,_,_,_,_,_,_,_,_,_,_,_,_,_,_,_,_,_,_,_,_,_,_,_,_,_,_,_,_,_,_,_,_,_,⟨Zk _,rfl,cg.o⟩,rfl⟩ ?_
 rintro _ wo ⟨i,Ds,u4,u5,u6,u7,u8,u16,u17,u18,u19,u20,u21,u22,u23,u24,u25,u26,u27,u28,u29,u30,u31,u32,u33,u34,u35,u36,u37,u38,u39,u40,u41,u42,u43,u44,u45,u46,u47,u48,u49,u50,u51,u52,⟨hi,bd,hN⟩,rfl⟩;dsimp only;have HN:=hid hN;have c0:=hN.b0.cell;have ev:=Zm hN.size hN.bsize;have U:=hN.low;clear hN cg;by_cases al:i<p.flows.length
 .have eq:(i:Int)<(p.flows.length:Int):=oq;have eo:(0:Int)<=(i:Int):=oq;rw[qn al] at bd;have Z:=hid bd;clear bd;have HW:=hid (HM.o.low.trans (U.mono dc));have ce:=hid (HM.o.grow U);have ap:=hid (fun(w':World) (hb:Below W0.1.size W0 w')=>Qw hb p an ai af ao cn ci cf co HP.o i al oq);have aw:=(bj.o.flows _ (Zi al)).1;have ax:=(bj.o.flows _ (Zi al)).2;obtain⟨bb,oo,rfl,bg,bh⟩:=HP.o.flows.at al;have ef:bb<wo.1.size:=Zd bg HW.o.size;have L:=fun o=>HW.o.cell (p:=⟨bb,o,none⟩) bg
  obtain⟨⟨aj,⟨k1,nm1,n1,d1,q,a1⟩,R⟩,hf⟩:=ez (p.flows[i]);rw[hf] at bh ap aw ax;have HF:=hid hf;obtain⟨q0,⟨ag,H,q1,q2,q3,q4,q5,q6,_⟩,q7,_⟩:=bh;simp only at q0 q1 q2 q3 q4 q5 q6 q7 ap aw;unfold pv spv PE.sz at *;simp only at ap aw;have y0:=(L _).trans q0;have y1:=(L _).trans q1;have y2:=(L _).trans q2;have y3:=(L _).trans q3;have y4:=(L _).trans q4;have y5:=(L _).trans q5;have y6:=(L _).trans q6;have y7:=(L _).trans q7;have di:=hid ax;have en:=Vi (i:=i) oq;clear q0 q1 q2 q3 q4 q5 q6 q7 L hf ax;gi_wp2;obtain⟨G,av⟩:=ez (wo.alloc (.cells #[.string aj,.int .i64 k1,.string nm1,.int .i64 n1,.int .i64 d1,.slice ag q.len H,.int .i64 a1,.int .i64 R] 155));rw[av];have bm:Below wo.1.size wo G:=by rw[<-av];exact(Zg _ _).alloc (Zc _) _
  have dy:G.1.size=wo.1.size+1:=by rw[<-av];simp
  have db:G.1[wo.1.size]?=some (.cells #[.string aj,.int .i64 k1,.string nm1,.int .i64 n1,.int .i64 d1,.slice ag q.len H,.int .i64 a1,.int .i64 R] 155 (0,0)):=by rw[<-av];exact Yx wo _
  have cj:=hid db;have ba:=hid ((HN.o.keep bm).more (B':=G.1.size) oq (Zc _));have aq:=hid (ce.o.grow bm);have HW2:=hid aq.o.low;clear y0 y1 y2 y3 y4 y5 y6 y7 c0 av bm db U;have c0:=ba.o.b0.cell;obtain⟨⟨z0,z1,z2,z3,z4,z5,z6,z7,z8⟩,zf⟩:=Y1 (show G.1[m]?=_ from aq.o.box);have ab:=aq.o.lt;have eb:w.1.size<G.1.size:=oq;have ff:wo.1.size<G.1.size:=oq;clear dy;have KB:=hid (show ∀W:World,Below G.1.size G W->(fun w'=>w'.cell? ⟨w.1.size,0,none⟩=some (.pointer (some ⟨m,0,none⟩))/\w'.cell? ⟨m,0,none⟩=some (.slice an p.nodes.length cn)/\w'.cell? ⟨m,1,none⟩=some (.slice ai p.ins.length ci)/\w'.cell? ⟨m,2,none⟩=some (.slice (some ⟨bb,oo,none⟩) p.flows.length cf)/\w'.cell? ⟨m,3,none⟩=some (.slice ao p.outs.length co)) W from fun W hb=>⟨(hb.cell (p:=⟨w.1.size,0,none⟩) eb).trans c0,(hb.cell (p:=⟨m,0,none⟩) ab).trans z0,(hb.cell (p:=⟨m,1,none⟩) ab).trans z1,(hb.cell (p:=⟨m,2,none⟩) ab).trans z2,(hb.cell (p:=⟨m,3,none⟩) ab).trans z3⟩);clear z0 z1 z2 z3 z4 z5 z6 z7 z8 zf c0;gi_cut [6] from 20 (fun s6 W=>Hid (∃X,s6=.pointer (some ⟨X,0,none⟩)/\G.1.size<=X/\Boxed W X 4 (.bool (Kv p xIx A iIx ⟨k1,nm1,n1,d1,q,a1⟩ (dg i)))/\Below G.1.size G W))
  case first =>
   refine wpIn_wide.2 ?_;go_region_held3 (fun w'=>w'.cell? ⟨w.1.size,0,none⟩=some (.pointer (some ⟨m,0,none⟩))/\w'.cell? ⟨m,0,none⟩=some (.slice an p.nodes.length cn)/\w'.cell? ⟨m,1,none⟩=some (.slice ai p.ins.length ci)/\w'.cell? ⟨m,2,none⟩=some (.slice (some ⟨bb,oo,none⟩) p.flows.length cf)/\w'.cell? ⟨m,3,none⟩=some (.slice ao p.outs.length co)) (exact KB.o _ bq) (first|(go_at_call 139;refine(ap.o _ bq).mono ?_;rintro x w1 ⟨⟨dn,cl,rfl,cp⟩,hb1⟩;have hbA:Below G.1.size G w1:=bq;have ew:=hbA.size;have dm:=hid (show Qs W0 ⟨k1,nm1,n1,d1,q,a1⟩ dn cl (dg i) from ⟨cp,di.o,by show(dg i).size+3*q.sz<=500;omega,by show q.sz<100;omega⟩);clear cp;first|(have E:Boxed w1 G.1.size 4 (.bool false):=(hb1.block G.1.size (by simp)).trans (Yx G.drew _);have bv:=hid E;clear E)|skip)|(go_at_call 143;refine(bx.o _ (ba.o.low.trans ((show Below G.1.size G _ from bq).mono oq)) _ _ _ _ dm.o).mono ?_;rintro x w2 ⟨rfl,hb2⟩;(first|(have E:Boxed w2 G.1.size 4 (.bool false):=(hb2.block _ bv.o.lt).trans bv.o;have v0:=E.cell;have vf:=E.frozen;have bw:=hid E;clear E)|(have E:Boxed w2 w1.1.size 4 (.bool false):=(hb2.block w1.1.size (by simp)).trans (Yx w1 _);have v0:=E.cell;have vf:=E.frozen;have bw:=hid E;clear E)|skip);have cq:Below G.1.size G w2:=bq;clear hbA;have hbA:=cq;clear cq;have ex:=hbA.size))
   all_goals
    go_wp2_with fail;gi_meet;have fc:=hbA.size
    first|exact⟨_,rfl,(by first|exact Zc _|assumption|(simp;done)|omega),bw.o.set _,bq⟩|exact⟨_,rfl,(by first|exact Zc _|assumption|(simp;done)|omega),Yx _ _,bq⟩
  obtain⟨J,rfl,el,bc,ar⟩:=hcut.o;clear hcut ap;obtain⟨O,rfl⟩:=ey wc;have dv:=bc.lt;have eu:=ar.size;obtain⟨b0,bp⟩:=ez (Kv p xIx A iIx ⟨k1,nm1,n1,d1,q,a1⟩ (dg i));rw[bp] at bc;have df:=hid bp;have bl:=hid (show AoR w m O.1.size Ds wo.1.size J (.cells #[.string aj,.int .i64 k1,.string nm1,.int .i64 n1,.int .i64 d1,.slice ag q.len H,.int .i64 a1,.int .i64 R] 155 (0,0)) b0 O from ⟨(ba.o.keep ar).more oq (Zc _),⟨oq,oq,dv⟩,(ar.block _ oq).trans cj.o,bc⟩);have cc:=hid (aq.o.grow ar);have c0:=bl.o.base.b0.cell;clear bp bc ar ba aq HW2 KB cj ce HW;gi_wp2_with (refine⟨trivial,?_⟩;gi_at_call 142;refine(Zu.2 (Uq (w:=O) m i)).mono ?_;rintro x w5 ⟨rfl,rfl⟩);obtain⟨W5,ak⟩:=ez ((O.alloc (.cells #[.pointer (some ⟨m,0,none⟩)] 167)).alloc (.cells #[.int .i64 (i:Int)] 3));rw[ak];have bn:Below O.1.size O W5:=by rw[<-ak];exact bq
  have dz:W5.1.size=O.1.size+2:=by rw[<-ak];simp
  have dq:Boxed W5 O.1.size 167 (.pointer (some ⟨m,0,none⟩)):=by rw[<-ak];exact(Boxed.new _ _ _).alloc _
  have dr:Boxed W5 (O.1.size+1) 3 (.int .i64 (i:Int)):=by rw[<-ak];have:=Boxed.new (O.alloc (.cells #[.pointer (some ⟨m,0,none⟩)] 167)) 3 (.int .i64 (i:Int));simpa using this
  clear ak c0;have am:=bl.o.keep bn;have dl:=hid (show AoR w m W5.1.size Ds wo.1.size J (.cells #[.string aj,.int .i64 k1,.string nm1,.int .i64 n1,.int .i64 d1,.slice ag q.len H,.int .i64 a1,.int .i64 R] 155 (0,0)) b0 W5 from ⟨am.base.more oq (Zc _),⟨am.lt.1,am.lt.2.1,oq⟩,am.tb,am.fb⟩);have cd:=hid (cc.o.grow bn);have bf:=cd.o.low;have dh:=hid cd.o.box;have ea:=bf.size;have ej:O.1.size+1<W5.1.size:=oq;have ee:J<W5.1.size:=oq;clear am bl cc bn dz;refine uI (w:=W5) (encs:=fun x:VS W0=>#[.agg #[.int .i64 x.s.1.k,.string x.s.1.nm,.int .i64 x.s.1.n,.int .i64 x.s.1.d,.slice x.ad x.s.1.args.len x.cap,.int .i64 x.s.1.a,.string x.s.2]]) rfl oq (gf:=195) (lb:=#[.pointer (some ⟨O.1.size,0,none⟩),.pointer (some ⟨O.1.size+1,0,none⟩)]) rfl trivial (enters_of func195 kq rfl) (n₀:=W0.1.size) (Bk:=O.1.size) ea
   (VC p an ai _ ao cn ci cf co HP.o bj.o mc mi mf mn mx m O.1.size (O.1.size+1) i _ al W5 O.1.size oq bf dh.o dq dr) (fun _=>rfl)
   (fun pre X=>AoR w m W5.1.size Ds wo.1.size J (.cells #[.string aj,.int .i64 k1,.string nm1,.int .i64 n1,.int .i64 d1,.slice ag q.len H,.int .i64 a1,.int .i64 R] 155 (0,0)) (b0&&(pre.map (fun y:VS W0=>y.s)).all (qo p xIx A iIx)) X)
   (fun pre X=>False)
   (fun s X Y row hs hg hr=>hs.own hg hr) (fun s X Y row hs hg hr=>hs.elim) (by simpa using dl.o)
   (fun x a' X=>∃(Bx:Nat)(u0 u2 u3 u4 u5 u8 u9 u10 u11 u12 u13 u14 u15 u16 u17 u18 u19 u20 u21 u22 u23 u24 u25 u26 u27 u28 u29 u30 u31 u32 u33 u34 u35 u36 u37 u38 u39 u40 u41 u42 u43 u44 u45 u46 u47 u48 u49 u50 u51 u52:Value),(W5.1.size<=Bx/\X.1[Bx]?=some (.cells #[.int .i64 x.s.1.k,.string x.s.1.nm,.int .i64 x.s.1.n,.int .i64 x.s.1.d,.slice x.ad x.s.1.args.len x.cap,.int .i64 x.s.1.a,.string x.s.2] 250 (0,0)))/\a'={ tmps:=#[u0,.pointer (some ⟨w.1.size,0,none⟩),u2,u3,u4,u5,.pointer (some ⟨J,0,none⟩),.pointer (some ⟨Bx,0,none⟩),u8,u9,u10,u11,u12,u13,u14,u15,u16,u17,u18,u19,u20,u21,u22,u23,u24,u25,u26,u27,u28,u29,u30,u31,u32,u33,u34,u35,u36,u37,u38,u39,u40,u41,u42,u43,u44,u45,u46,u47,u48,u49,u50,u51,u52],defers:=[] })
   (fun x a' _ X Y row hs hg hrw=>by
    obtain⟨Bx,u0,u2,u3,u4,u5,u8,u9,u10,u11,u12,u13,u14,u15,u16,u17,u18,u19,u20,u21,u22,u23,u24,u25,u26,u27,u28,u29,u30,u31,u32,u33,u34,u35,u36,u37,u38,u39,u40,u41,u42,u43,u44,u45,u46,u47,u48,u49,u50,u51,u52,⟨h1,h2⟩,h3⟩:=hs;refine⟨Bx,u0,u2,u3,u4,u5,u8,u9,u10,u11,u12,u13,u14,u15,u16,u17,u18,u19,u20,u21,u22,u23,u24,u25,u26,u27,u28,u29,u30,u31,u32,u33,u34,u35,u36,u37,u38,u39,u40,u41,u42,u43,u44,u45,u46,u47,u48,u49,u50,u51,u52,⟨h1,(hg.block Bx (Zq.1 h2).1 (fun e=>?_)).trans h2⟩,h3⟩;obtain⟨_,o,ho,hc⟩:=hrw Bx e.symm;rw[h2] at ho;cases ho;cases hc)
   ?assign ?body ?done ?stop
  case assign =>
   rintro l2 pre x X K C hK;gi_wp2;exact hK _ _ ((Zg _ _).alloc (Zc _) _) (C.keep (((Zg _ _).alloc (Zc _) _).mono C.base.bsize)) ⟨X.1.size,_,_,_,_,_,_,_,_,_,_,_,_,_,_,_,_,_,_,_,_,_,_,_,_,_,_,_,_,_,_,_,_,_,_,_,_,_,_,_,_,_,_,_,_,_,_,_,_,_,_,⟨C.base.bsize,Yx X _⟩,rfl⟩
  case body =>
   rintro l2 pre ⟨⟨⟨k2,az,n2,d2,g,a2⟩,z⟩,ah,I,ae⟩ a' X eg ⟨r,hr⟩ C ⟨Bx,u0,u2,u3,u4,u5,u8,u9,u10,u11,u12,u13,u14,u15,u16,u17,u18,u19,u20,u21,u22,u23,u24,u25,u26,u27,u28,u29,u30,u31,u32,u33,u34,u35,u36,u37,u38,u39,u40,u41,u42,u43,u44,u45,u46,u47,u48,u49,u50,u51,u52,⟨em,aa⟩,rfl⟩ cy;simp only at aa;obtain⟨b1,hb1⟩:=ez ((b0&&(pre.map (fun y:VS W0=>y.s)).all (qo p xIx A iIx)));rw[hb1] at C;have HB1:=hid hb1;have dt:g.sz<100:=ae.few;have eh:=QO g;have V:=hid C;have ec:=hid ae;have ck:=hid aa;obtain⟨⟨x0,x1,x2,x3,x4,x5,x6⟩,xf⟩:=Y5 aa;have er:=C.base.bsize;clear hb1 C aa hr cy;gi_wp2;gi_loopw [36] (fun s36 M=>Hid (∃j:Nat,s36=.int .i64 (j:Int)/\j<=g.len/\AoR w m W5.1.size Ds wo.1.size J (.cells #[.string aj,.int .i64 k1,.string nm1,.int .i64 n1,.int .i64 d1,.slice ag q.len H,.int .i64 a1,.int .i64 R] 155 (0,0)) (b1&&((XC g z 0).take j).all (fun k=>Kv p xIx A iIx k.1 k.2)) M/\Upon J X M)) (fun s36 _=>g.len-(intOf s36).toNat)
   case atStart=>exact⟨0,rfl,Zk _,by simpa using V.o,Upon.refl _ _⟩
   obtain⟨M,rfl⟩:=ey wr;obtain⟨j,rfl,hj,hR,hU⟩:=hrel.o;clear hrel x0 x1 x2 x3 x4 x5 x6 xf;have cm:=hR.base.bsize;have cx:J<M.1.size:=hR.fb.lt;have ay:M.1[Bx]?=some _:=(hU.block Bx (Zb ck.o) oq).trans ck.o;obtain⟨⟨x0,x1,x2,x3,x4,x5,x6⟩,xf⟩:=Y5 ay;have F:=Zb ay;have HR:=hid hR;have HU:=hid hU;by_cases ac:j<g.len
   .have du:(j:Int)<(g.len:Int):=oq;obtain⟨c,hc,_⟩:=PL.at_some g j ac;have cw:j<(XC g z 0).length:=by rw[J6];exact ac
    have cv:(XC g z 0)[j]=(c,z++⟨#[47]⟩++dg j):=by
     have h:=EF g z 0 j c hc;rw[Ze cw,ZE] at h;exact Option.some.inj h
    have bo:=Zbx (f:=fun k:PE × ByteArray=>Kv p xIx A iIx k.1 k.2) cw;rw[cv] at bo;have bt:=hid bo;have dk:=hid ((HM.o.low.trans (hR.base.low.mono dc)).drew);have dj:=hid hR.base.low;have cz:=hR.base.low.size;have da:w.1.size<M.1.size:=hR.base.b0.lt;have cb:=hR.base.b0.cell;have KS:=hid (show ∀W:World,Below M.1.size M W->(fun w'=>w'.cell? ⟨w.1.size,0,none⟩=some (.pointer (some ⟨m,0,none⟩))/\w'.cell? ⟨Bx,0,none⟩=some (.int .i64 k2)/\w'.cell? ⟨Bx,1,none⟩=some (.string az)/\w'.cell? ⟨Bx,2,none⟩=some (.int .i64 n2)/\w'.cell? ⟨Bx,3,none⟩=some (.int .i64 d2)/\w'.cell? ⟨Bx,4,none⟩=some (.slice ah g.len I)/\w'.cell? ⟨Bx,5,none⟩=some (.int .i64 a2)/\w'.cell? ⟨Bx,6,none⟩=some (.string z)) W from fun W hb=>⟨(hb.cell (p:=⟨w.1.size,0,none⟩) da).trans cb,(hb.cell (p:=⟨Bx,0,none⟩) F).trans x0,(hb.cell (p:=⟨Bx,1,none⟩) F).trans x1,(hb.cell (p:=⟨Bx,2,none⟩) F).trans x2,(hb.cell (p:=⟨Bx,3,none⟩) F).trans x3,(hb.cell (p:=⟨Bx,4,none⟩) F).trans x4,(hb.cell (p:=⟨Bx,5,none⟩) F).trans x5,(hb.cell (p:=⟨Bx,6,none⟩) F).trans x6⟩);have dx:J≠Bx:=oq;have dw:J≠w.1.size:=by have:=hR.lt;omega
    have KT:=hid (show ∀(W:World)(v:Value),Below M.1.size M W->(fun w'=>w'.cell? ⟨w.1.size,0,none⟩=some (.pointer (some ⟨m,0,none⟩))/\w'.cell? ⟨Bx,0,none⟩=some (.int .i64 k2)/\w'.cell? ⟨Bx,1,none⟩=some (.string az)/\w'.cell? ⟨Bx,2,none⟩=some (.int .i64 n2)/\w'.cell? ⟨Bx,3,none⟩=some (.int .i64 d2)/\w'.cell? ⟨Bx,4,none⟩=some (.slice ah g.len I)/\w'.cell? ⟨Bx,5,none⟩=some (.int .i64 a2)/\w'.cell? ⟨Bx,6,none⟩=some (.string z)) (W.setCell ⟨J,0,none⟩ v) from fun W v hb=>by
     obtain⟨h0,h1,h2,h3,h4,h5,h6,h7⟩:=KS.o W hb;have hf:=fun o=>ZH W ⟨J,0,none⟩ ⟨Bx,o,none⟩ v dx
     exact⟨(ZH W ⟨J,0,none⟩ ⟨w.1.size,0,none⟩ v dw).trans h0,(hf _).trans h1,(hf _).trans h2,(hf _).trans h3,(hf _).trans h4,(hf _).trans h5,(hf _).trans h6,(hf _).trans h7⟩)
    obtain⟨dp,br⟩:=ez ((b1&&((XC g z 0).take j).all (fun k=>Kv p xIx A iIx k.1 k.2)));rw[br] at hR;have T:=hR.fb;have bk:=hid hR;have bu:=hid br;clear hR hU HR bo cv br x0 x1 x2 x3 x4 x5 x6 xf cb ay;gi_wp2;have bs:Below M.1.size M M.drew:=(Zg _ _).drew
    cases dp with
    | true =>
     have cF:=T.cell;have fF:=T.frozen;refine Js (S:=fun w'=>w'.cell? ⟨w.1.size,0,none⟩=some (.pointer (some ⟨m,0,none⟩))/\w'.cell? ⟨Bx,0,none⟩=some (.int .i64 k2)/\w'.cell? ⟨Bx,1,none⟩=some (.string az)/\w'.cell? ⟨Bx,2,none⟩=some (.int .i64 n2)/\w'.cell? ⟨Bx,3,none⟩=some (.int .i64 d2)/\w'.cell? ⟨Bx,4,none⟩=some (.slice ah g.len I)/\w'.cell? ⟨Bx,5,none⟩=some (.int .i64 a2)/\w'.cell? ⟨Bx,6,none⟩=some (.string z)) kq kq (by rintro⟨_,_,h⟩;exact h) (KS.o _ (Zg _ _).drew) (fun hH=>?_);refine ZW (rs:=[0]) kq (by simp) ?_;refine ZI (o:=?o1) ?hi1 (fun K hK=>?_) AllReadyH.nil
     case hi1=>(simp only[List.getElem?_toArray,List.getElem?_cons_succ,List.getElem?_cons_zero];rfl)
     go_simp;refine hK.o _ _ (by exact KS.o _ (Zg _ _).drew) (fun hH=>?_);clear hK K
     try simp only[Act.put,sA,sB,sC]
     refine tk 1 hH ?_;refine tk 2 hH ?_;refine tk 3 hH ?_;refine tk 4 hH ?_;refine ZW (rs:=[5]) kq (by simp) ?_;refine ZI (o:=?o6) ?hi6 (fun K hK=>?_) AllReadyH.nil
     case hi6=>(simp only[List.getElem?_toArray,List.getElem?_cons_succ,List.getElem?_cons_zero];rfl)
     (go_simp;go_at_call 144;refine(de.o M.drew dk.o _ c ah I z j ae hc).mono ?_;rintro x w5 ⟨⟨ek,ed,rfl,bi⟩,hb5⟩;have ch:=hid bi;have hbx5:Below M.1.size M w5:=bq;have fa:=hbx5.size;clear bi;try go_simp)
     refine hK.o _ _ (by exact KS.o _ hbx5) (fun hH=>?_);clear hK K
     try simp only[Act.put,sA,sB,sC]
     refine ZW (rs:=[6]) kq (by simp) ?_;refine ZI (o:=?o7) ?hi7 (fun K hK=>?_) AllReadyH.nil
     case hi7=>(simp only[List.getElem?_toArray,List.getElem?_cons_succ,List.getElem?_cons_zero];rfl)
     (go_simp;go_at_call 143;refine(bx.o w5 (dj.o.trans (hbx5.mono cz)) _ _ _ _ ch.o).mono ?_;rintro x w6 ⟨rfl,hb56⟩;have hb6:Below M.1.size M w6:=bq;have cr:Boxed w6 J 4 (.bool true):=(hb6.block J cx).trans T;have fe:=cr.cell;have fd:=cr.frozen;try go_simp)
     refine hK.o _ _ (by exact KS.o _ hb6) (fun hH=>?_);clear hK K
     try simp only[Act.put,sA,sB,sC]
     refine tk 7 hH ?_;refine ZW (rs:=[8]) kq (by simp) ?_;refine ZI (o:=?o9) ?hi9 (fun K hK=>?_) AllReadyH.nil
     case hi9=>(simp only[List.getElem?_toArray,List.getElem?_cons_succ,List.getElem?_cons_zero];rfl)
     go_simp;refine hK.o _ _ (by exact KT.o _ _ hb6) (fun hH=>?_);clear hK K
     try simp only[Act.put,sA,sB,sC]
     refine Zz kq ?_ _;gi_wp2;refine⟨hid ⟨j+1,by go_num,ac,?_,?_⟩,by simp[intOf];omega⟩
     .rw[bt.o,<-Bool.and_assoc,bu.o,Bool.true_and];exact(bk.o.keep (hb6.mono cm)).put _
     exact(HU.o.then_below hb6 (HU.o.size)).setCell (p:=⟨J,0,none⟩) (Or.inl rfl) _
    | false =>
     have cF:=T.cell;have fF:=T.frozen;refine Js (S:=fun w'=>w'.cell? ⟨w.1.size,0,none⟩=some (.pointer (some ⟨m,0,none⟩))/\w'.cell? ⟨Bx,0,none⟩=some (.int .i64 k2)/\w'.cell? ⟨Bx,1,none⟩=some (.string az)/\w'.cell? ⟨Bx,2,none⟩=some (.int .i64 n2)/\w'.cell? ⟨Bx,3,none⟩=some (.int .i64 d2)/\w'.cell? ⟨Bx,4,none⟩=some (.slice ah g.len I)/\w'.cell? ⟨Bx,5,none⟩=some (.int .i64 a2)/\w'.cell? ⟨Bx,6,none⟩=some (.string z)) kq kq (by rintro⟨_,_,h⟩;exact h) (KS.o _ (Zg _ _).drew) (fun hH=>?_);refine ZW (rs:=[0]) kq (by simp) ?_;refine ZI (o:=?o10) ?hi10 (fun K hK=>?_) AllReadyH.nil
     case hi10=>(simp only[List.getElem?_toArray,List.getElem?_cons_succ,List.getElem?_cons_zero];rfl)
     go_simp;refine hK.o _ _ (by exact KS.o _ (Zg _ _).drew) (fun hH=>?_);clear hK K
     try simp only[Act.put,sA,sB,sC]
     refine tk 1 hH ?_;refine tu 2 hH ?_;refine tu 3 hH ?_;refine tu 4 hH ?_;refine tu 5 hH ?_;refine tu 6 hH ?_;refine tk 7 hH ?_;refine ZW (rs:=[8]) kq (by simp) ?_;refine ZI (o:=?o18) ?hi18 (fun K hK=>?_) AllReadyH.nil
     case hi18=>(simp only[List.getElem?_toArray,List.getElem?_cons_succ,List.getElem?_cons_zero];rfl)
     go_simp;refine hK.o _ _ (by first|exact KT.o _ _ bs|exact KT.o _ _ (Zg _ _)) (fun hH=>?_);clear hK K
     try simp only[Act.put,sA,sB,sC]
     refine Zz kq ?_ _;gi_wp2;refine⟨hid ⟨j+1,by go_num,ac,?_,?_⟩,by simp[intOf];omega⟩
     .rw[bt.o,<-Bool.and_assoc,bu.o,Bool.false_and]
      first|exact(bk.o.keep (bs.mono cm)).put _|exact bk.o.put _
     first|exact HU.o.setCell (p:=⟨J,0,none⟩) (Or.inl rfl) _|exact(HU.o.then_below bs (HU.o.size)).setCell (p:=⟨J,0,none⟩) (Or.inl rfl) _
   have du:¬(j:Int)<(g.len:Int):=oq;clear hR hU x0 x1 x2 x3 x4 x5 x6 xf;gi_wp2;have ds:(b0&&((pre++[(⟨(⟨k2,az,n2,d2,g,a2⟩,z),ah,I,ae⟩:VS W0)]).map (fun y:VS W0=>y.s)).all (qo p xIx A iIx))=(b1&&((XC g z 0).take j).all (fun k=>Kv p xIx A iIx k.1 k.2)):=by
    rw[List.take_of_length_le (by rw[J6];omega),<-HB1.o,ZV,List.all_append,<-Bool.and_assoc];simp only[List.map_cons,List.map_nil,List.all_cons,List.all_nil,Bool.and_true,qo]
   refine⟨⟨HU.o.size,fun k o hk ho hc=>(HU.o.block k (Zb ho) oq).trans ho⟩,⟨HU.o.below oq oq,fun k o hk ho hc=>(HU.o.block k (Zb ho) oq).trans ho⟩,?_⟩;show AoR w m W5.1.size Ds wo.1.size J _ _ _;have hh:=HR.o;rw[<-ds] at hh
   first|exact hh|(rw[List.all_map] at hh;exact hh)
  case done =>
   rintro D zs X hD dd C hK;obtain⟨bz,hbz⟩:=ez ((b0&&(zs.map (fun y:VS W0=>y.s)).all (qo p xIx A iIx)));rw[hbz] at C;have ct:Zan p xIx A iIx ⟨k1,nm1,n1,d1,q,a1⟩ i=bz:=by
    rw[<-hbz,dd,HF.o,Zan,df.o]
   have Z:=Z.o;rw[HF.o] at Z;simp only at Z;rw[ct] at Z;have ca:=hid Z;have V:=hid C;have hK:=hid hK;have cF:=C.fb.cell;obtain⟨⟨y0,y1,y2,y3,y4,y5,y6,y7⟩,yf⟩:=Zd7 C.tb;clear Z ct hbz C dd
   cases bz with
   | true =>
    gi_wp2;rw[show((i:Int)+1)=((i+1:Nat):Int) by omega];refine⟨⟨i+1,D::Ds,_,_,_,_,_,_,_,_,_,_,_,_,_,_,_,_,_,_,_,_,_,_,_,_,_,_,_,_,_,_,_,_,_,_,_,_,_,_,_,_,_,_,⟨oq,by rw[ca.o,Bool.true_and],V.o.base.mark hD hK.o⟩,rfl⟩,by simp[intOf];omega⟩
   | false =>
    have U:=V.o.base.low;gi_wp2;refine Ql (n₀:=w.1.size) (D::Ds) _ ⟨fun D' hD'=>?_,List.nodup_cons.2 ⟨fun hm=>?_,V.o.base.marks.2⟩⟩ (fun w' hk=>?_)
    .rcases ZS.1 hD' with rfl|hm
     .exact⟨oq,hK.o⟩
     exact V.o.base.marks.1 D' hm
    .have:=V.o.base.under D hm;omega
    refine⟨.tuple #[.int .i64 R,.int .i64 8],?_,.inr ⟨R,rfl,?_⟩,U.trans hk.below⟩
    .simp only[results,results83];go_simp
    rw[ca.o,Bool.false_and]
  rintro D pre X hD ei hX hK;exact hX.elim
 have cu:i=p.flows.length:=oq;have ep:¬(i:Int)<(p.flows.length:Int):=oq;gi_wp2;refine Ql Ds _ HN.o.marks (fun w' hk=>?_);refine⟨.tuple #[.int .i64 0,.int .i64 0],?_,.inl ⟨rfl,?_⟩,HN.o.low.trans hk.below⟩
 .simp only[results,results83];go_simp
 first|rfl|(rw[bd,cu,Yq];rfl)
