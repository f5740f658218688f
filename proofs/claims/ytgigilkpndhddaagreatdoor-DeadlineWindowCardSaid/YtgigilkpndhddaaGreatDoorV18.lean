/- Parts of the proof. -/
import Derived.Test.YtgigilkpndhddaaGreatDoorV16
set_option linter.all false
set_option maxRecDepth 100000
set_option maxHeartbeats 16000000
namespace Go.Proofs.YtgigilkpndhddaaGreatDoor.syn
open Tryz
open Go.RowKit Go.Shelf
attribute [local go_sem] ZT
theorem JB{ℓ n id:Nat}{P:Program}{ops:Array Oper}{Q:Exit→Act→World→Prop}{a:Act}{w:World}{S:World→Prop}(hm:P.follows .mixedOrders=true)(hd:ops.toList.all V7=true)(hlet:¬LetsOut Q)(hS:S w.drew)
  (h:S w.drew→wpAnyH P .any ops Q S ops.size (Array.replicate ops.size false) a w.drew):(Code.region id ops true).wpIn (Fence.wide.inRound ℓ) n P Q a w :=
 zx hm hd hlet (wpAny_of_held _ _ _ _ (h hS))
noncomputable def JQ(p:PG)(xIx fIx iIx:IE)(e:PE)(way:ByteArray):Nat×List Op3:=@Classical.epsilon (Nat×List Op3) ⟨(0,[])⟩ (fun r=>∃N,XL p.flows p.ins.length xIx fIx iIx N e way []=some r)
theorem JY{p:PG}{xIx f iIx:IE}{e:PE}(h:Xe p.flows p.ins.length xIx f iIx e)(g:ByteArray):∃N,XL p.flows p.ins.length xIx f iIx N e g []=some (JQ p xIx f iIx e g):=by
 refine Classical.epsilon_spec (p:=fun r=>∃N,XL p.flows p.ins.length xIx f iIx N e g []=some r) ?_;obtain⟨N,j⟩:=h
 cases hg:XL p.flows p.ins.length xIx f iIx N e g [] with
 | none=>exact absurd hg (j g [])
 | some r=>exact⟨r,N,hg⟩
noncomputable def Kz(p:PG)(xIx fIx iIx:IE)(e:PE)(way:ByteArray):Bool:=decide ((JQ p xIx fIx iIx e way).2.length≤20)
def XI:PL→ByteArray→Nat→List (PE×ByteArray)
 | .nil,_,_=>[]
 | .cons k nm n d args a tl,w,i=>(⟨k,nm,n,d,args,a⟩,w++⟨#[47]⟩++dg i)::XI tl w (i+1)
theorem J6:∀(l:PL)(w:ByteArray)(i:Nat),(XI l w i).length=l.len:=by
 intro l
 induction l with
 | nil=>intro w i;rfl
 | cons k nm n d args a tl ih1 ih2=>intro w i;simp only[XI,Zp,ih2,PL.len]<;>(try omega)
theorem Ew:∀(l:PL)(w:ByteArray)(i j:Nat)(c:PE),l.at j=some c→(XI l w i)[j]?=some (c,w++⟨#[47]⟩++dg (i+j)):=by
 intro l
 induction l with
 | nil=>intro w i j c h;cases h
 | cons k nm n d args a tl ih1 ih2 =>
  intro w i j c h
  cases j with
  | zero=>cases h;rfl
  | succ j =>
   have:=ih2 w (i+1) j c h;rw[show i+1+j=i+(j+1) by omega]at this;simp only[XI,List.getElem?_cons_succ];exact this
noncomputable def qd(p:PG)(xIx fIx iIx:IE)(s:PE×ByteArray):Bool:=(XI s.1.args s.2 0).all (fun k=>Kz p xIx fIx iIx k.1 k.2)
noncomputable def e7(p:PG)(xIx fIx iIx:IE)(e:PE)(i:Nat):Bool:=Kz p xIx fIx iIx e (dg i)&&((YX e (dg i)).filter isC).all (qd p xIx fIx iIx)
noncomputable def Qy(p:PG)(xIx fIx iIx:IE):List FL→Nat→Bool
 | [],_=>true
 | f::l,i=>e7 p xIx fIx iIx f.e i&&Qy p xIx fIx iIx l (i+1)
theorem qc{p:PG}{xIx f iIx:IE}{l:List FL}{i:Nat}(h:i<l.length)(j:Nat):Qy p xIx f iIx (l.drop i) j=(e7 p xIx f iIx l[i].e j&&Qy p xIx f iIx (l.drop (i+1)) (j+1)):=by
 rw[ZN h];rfl
theorem Za5{α:Type}{f:α→Bool}{l:List α}{j:Nat}(h:j<l.length):(l.take (j+1)).all f=((l.take j).all f&&f l[j]):=by
 rw[Zv h,List.all_append];simp only[List.all_cons,List.all_nil,Bool.and_true]
theorem Zds{w:World}{b:Nat}{f g j m q v x y:Value}{t:TypeId}(h:w.heap[b]?=some (.cells #[f,g,j,m,q,v,x,y] t (0,0))):
  (w.cell? ⟨b,0,none⟩=some f∧w.cell? ⟨b,1,none⟩=some g∧w.cell? ⟨b,2,none⟩=some j∧w.cell? ⟨b,3,none⟩=some m∧w.cell? ⟨b,4,none⟩=some q∧w.cell? ⟨b,5,none⟩=some v∧w.cell? ⟨b,6,none⟩=some x∧w.cell? ⟨b,7,none⟩=some y)∧∀o,w.frozen? ⟨b,o,none⟩=false:=by
 refine⟨⟨?_,?_,?_,?_,?_,?_,?_,?_⟩,?_⟩
 all_goals first|(intro o;simp[World.frozen?,h])|simp[World.cell?,h]
theorem Zgc{W0 w:World}(p:PG)(an C A D:Option Addr)(G F E H:Nat)(hp:AP W0 p an C A D G F E H)(I:JX p)(O T R U V m:Nat)(L v q M y:List (ByteArray×Value))(hM:Mkr W0 p an C A D G F E H O T R U V m L v q M y w)
  (xIx g iIx:IE)(hX:XK y xIx)(Y:XK q g)(Z:XK v iIx)(J:∀k j,xIx k=some j→j≤1000)(e:PE)(f:ByteArray)(z:Option Addr)(cap:Nat)(hs:Qv W0 e z cap f)(X:Xe p.flows p.ins.length xIx g iIx e):
  Calls prog 99 #[.pointer (some ⟨m,0,none⟩),spv e z cap f] w fun x w'=>x=.returned (.bool (Kz p xIx g iIx e f))∧Below w.heap.size w w':=by
 obtain⟨N,h⟩:=JY X f;exact Zdy p an C A D G F E H hp I O T R U V m L v q M y hM xIx g iIx hX Y Z J N e f z cap hs _ _ h
structure AoI (w:World) (m B:Nat) (Ds:List Nat) (X:World):Prop where
 low:Below w.heap.size w X
 size:w.heap.size+1≤B
 bsize:B≤X.heap.size
 b0:Boxed X w.heap.size 123 (.pointer (some ⟨m,0,none⟩))
 marks:Mks w.heap.size Ds X
 under:∀D∈Ds,D<B
section
variable {w:World} {m B:Nat} {Ds:List Nat} {X Y:World}
theorem AoI.keep(h:AoI w m B Ds X)(hb:Below B X Y):AoI w m B Ds Y:=by
 have f:=h.size;exact⟨h.low.trans (hb.mono oq),f,Zm h.bsize hb.size,(hb.block _ oq).trans h.b0,⟨fun D hD=>⟨(h.marks.1 D hD).1,(hb.block D (h.under D hD)).trans (h.marks.1 D hD).2⟩,h.marks.2⟩,h.under⟩
theorem AoI.more(h:AoI w m B Ds X){B':Nat}(h1:B≤B')(h2:B'≤X.heap.size):AoI w m B' Ds X :=
 ⟨h.low,Zm h.size h1,h2,h.b0,h.marks,fun D hD=>Zd (h.under D hD) h1⟩
theorem AoI.mark(h:AoI w m B Ds X){D:Nat}(g:B≤D)(f:X.heap[D]?=some (.deferred (some []))):AoI w m X.heap.size (D::Ds) X:=by
 have j:=h.size;refine⟨h.low,Zm h.size h.bsize,Zc _,h.b0,⟨fun D' hD'=>?_,List.nodup_cons.2 ⟨fun hm=>?_,h.marks.2⟩⟩,fun D' hD'=>?_⟩
 ·rcases ZR.1 hD' with rfl|hm
  ·exact⟨oq,f⟩
  exact h.marks.1 D' hm
 ·have:=h.under D hm;omega
 rcases ZR.1 hD' with rfl|hm
 ·exact Zb f
 have:=h.under D' hm;have:=h.bsize;omega
theorem AoI.upon(h:AoI w m B Ds X){r:Nat}(g:Upon r X Y)(y:w.heap.size<r)(j:∃cs t fz,X.heap[r]?=some (.cells cs t fz)):AoI w m B Ds Y:=by
 have v:=h.size;have x:=h.bsize;refine⟨h.low.trans (g.below oq (by have:=h.low.size;omega)),v,Zm x g.size,(g.block _ oq oq).trans h.b0,⟨fun D hD=>⟨(h.marks.1 D hD).1,?_⟩,h.marks.2⟩,h.under⟩;have f:=(h.marks.1 D hD).2;refine(g.block D (Zb f) (fun e=>?_)).trans f;obtain⟨cs,t,fz,q⟩:=j;rw[e,q]at f
 cases f
end
structure AoR (w:World) (m B:Nat) (Ds:List Nat) (Bt Bf:Nat) (fo:Obj) (b:Bool) (X:World):Prop where
 base:AoI w m B Ds X
 lt:w.heap.size<Bt∧Bt<Bf∧Bf<B
 tb:X.heap[Bt]?=some fo
 fb:Boxed X Bf 4 (.bool b)
section
variable {w:World} {m B:Nat} {Ds:List Nat} {Bt Bf:Nat} {fo:Obj} {b:Bool} {X Y:World}
theorem AoR.keep(h:AoR w m B Ds Bt Bf fo b X)(hb:Below B X Y):AoR w m B Ds Bt Bf fo b Y:=by
 have f:=h.lt;exact⟨h.base.keep hb,f,(hb.block _ oq).trans h.tb,(hb.block _ oq).trans h.fb⟩
theorem AoR.own{row:Option Nat}(h:AoR w m B Ds Bt Bf fo b X)(hg:X.grownBy Y row)(hr:∀r,row=some r→B≤r∧∃o:Obj,X.heap[r]?=some o∧o.isCells=false):AoR w m B Ds Bt Bf fo b Y :=
 h.keep (Q2 hg hr h.base.bsize)
theorem AoR.put(h:AoR w m B Ds Bt Bf fo b X)(f:Bool):AoR w m B Ds Bt Bf fo f (X.setCell ⟨Bf,0,none⟩ (.bool f)):=by
 have g:=h.lt;exact⟨h.base.upon ((Upon.refl Bf X).setCell (p:=⟨Bf,0,none⟩) (Or.inl rfl) _) oq ⟨_,_,_,h.fb⟩,g,(Zr _ _ _ _ (show Bt≠Bf by omega)).trans h.tb,h.fb.set _⟩
end
theorem vp{W0 w:World}(p:PG)(an ai af ao:Option Addr)(cn ci cf co:Nat)(hp:AP W0 p an ai af ao cn ci cf co)(be:JX p)(mc mi mf mn mx m:Nat)(Lc Li Lf Ln Lx:List (ByteArray×Value))(hM:Mkr W0 p an ai af ao cn ci cf co mc mi mf mn mx m Lc Li Lf Ln Lx w)
  (xIx A iIx:IE)(hX:XK Lx xIx)(hF:XK Lf A)(hI:XK Li iIx)(aa:∀k j,xIx k=some j→j≤1000)(hE:∀e:PE,YE e=true→Xe p.flows p.ins.length xIx A iIx e):
  Calls prog 56 #[.pointer (some ⟨m,0,none⟩)] w fun x w'=>((x=.returned (.tuple #[.int .i64 0,.int .i64 0])∧Qy p xIx A iIx p.flows 0=true)∨(∃a,x=.returned (.tuple #[.int .i64 a,.int .i64 8])∧Qy p xIx A iIx p.flows 0=false))∧Below w.heap.size w w':=by
 have et:=hM.lt;have dc:=hM.low.size;have es:=be.lens;have HM:=hid hM;have HP:=hid hp;have bj:=hid be;have bx:=hid (fun(w':World)(hb:Below w.heap.size w w') e way ad cap (hs:Qv W0 e ad cap way)=>Zgc (W0:=W0) p an ai af ao cn ci cf co hp be mc mi mf mn mx m Lc Li Lf Ln Lx (hM.grow hb) xIx A iIx hX hF hI aa e way ad cap hs (hE e hs.good));have de:=hid (fun(w':World)(hb:Below W0.heap.size W0 w') e c ad cap way i (hs:Qv W0 e ad cap way) (hc:e.args.at i=some c)=>JN hb e c ad cap way i hs hc);obtain⟨⟨x0,x1,x2,x3,x4,x5,x6,x7,x8⟩,xf⟩:=Y4 (show w.heap[m]?=_ from hM.box);clear hM hp be hX hF hI aa hE;unfold spv at *;refine(Zt (n:=6)).1 ?_;refine callsIn_of_wp_marks func56 rfl trivial ?_ rfl;simp only[ntmps56,ZI,Zp,Zw,Nat.reduceAdd,Nat.reduceSub,ZF,ZE,ZL,ZJ,ZM,ZC];gi_wp2;obtain⟨W1,au⟩:=ez (w.alloc (.cells #[.pointer (some ⟨m,0,none⟩)] 123));rw[au];have cg:=hid (show AoI w m W1.heap.size [] W1 from ⟨by rw[←au];exact(Zg _ _).alloc (Zc _) _,by rw[←au];simp,Zc _,by rw[←au];exact Boxed.new _ _ _,⟨by simp,List.nodup_nil⟩,by simp⟩);clear au x0 x1 x2 x3 x4 x5 x6 x7 x8 xf;refine wpIn_loop (fun a' wr=>∃(i:Nat)(Ds:List Nat)(u4 u5 u6 u7 u8 u16 u17 u18 u19 u20 u21 u22 u23 u24 u25 u26 u27 u28 u29 u30 u31 u32 u33 u34 u35 u36 u37 u38 u39 u40 u41 u42 u43 u44 u45 u46 u47 u48 u49 u50 u51 u52:Value),(i≤p.flows.length∧Qy p xIx A iIx p.flows 0=Qy p xIx A iIx (p.flows.drop i) i∧AoI w m wr.heap.size Ds wr) ∧
  a'={ tmps:=#[.pointer (some ⟨m,0,none⟩),.pointer (some ⟨w.heap.size,0,none⟩),.int .i64 0,.int .i64 0,u4,u5,u6,u7,u8,.pointer (some ⟨m,0,none⟩),.pointer (some ⟨m,0,none⟩),.pointer (some ⟨m,0,none⟩),.pointer (some ⟨m,2,none⟩),.slice af p.flows.length cf,.int .i64 (p.flows.length:Int),.int .i64 (i:Int),u16,u17,u18,u19,u20,u21,u22,u23,u24,u25,u26,u27,u28,u29,u30,u31,u32,u33,u34,u35,u36,u37,u38,u39,u40,u41,u42,u43,u44,u45,u46,u47,u48,u49,u50,u51,u52],defers:=Ds.map mk })
  (fun a' _=>p.flows.length-(intOf (a'.tmps.getD 15 undef)).toNat) ⟨0,[],_,_,_,_,_,_,_,_,_,_,_,_,_,_,_,_,_,_,_,_,_,_,_,_,_,_,_,_,_,_,_,_,_,_,_,_,_,_,_,_,_,_,⟨Zk _,rfl,cg.out⟩,rfl⟩ ?_
 rintro _ wo ⟨i,Ds,u4,u5,u6,u7,u8,u16,u17,u18,u19,u20,u21,u22,u23,u24,u25,u26,u27,u28,u29,u30,u31,u32,u33,u34,u35,u36,u37,u38,u39,u40,u41,u42,u43,u44,u45,u46,u47,u48,u49,u50,u51,u52,⟨hi,bd,hN⟩,rfl⟩;dsimp only;have HN:=hid hN;have c0:=hN.b0.cell;have ev:=Zm hN.size hN.bsize;have U:=hN.low;clear hN cg;by_cases al:i<p.flows.length
 ·have eq:(i:Int)<(p.flows.length:Int):=oq;have eo:(0:Int)≤(i:Int):=oq;rw[qc al]at bd;have Z:=hid bd;clear bd;have HW:=hid (HM.out.low.trans (U.mono dc));have ce:=hid (HM.out.grow U);have ap:=hid (fun(w':World)(hb:Below W0.heap.size W0 w')=>Qz hb p an ai af ao cn ci cf co HP.out i al oq);have aw:=(bj.out.flows _ (Zi al)).1;have ax:=(bj.out.flows _ (Zi al)).2;obtain⟨bb,oo,rfl,bg,bh⟩:=HP.out.flows.at al;have ef:bb<wo.heap.size:=Zd bg HW.out.size;have L:=fun o=>HW.out.cell (p:=⟨bb,o,none⟩) bg
  obtain⟨⟨aj,⟨k1,nm1,n1,d1,q,a1⟩,R⟩,hf⟩:=ez (p.flows[i]);rw[hf]at bh ap aw ax;have HF:=hid hf;obtain⟨q0,⟨ag,H,q1,q2,q3,q4,q5,q6,_⟩,q7,_⟩:=bh;simp only at q0 q1 q2 q3 q4 q5 q6 q7 ap aw;unfold pv spv PE.sz at *;simp only at ap aw;have y0:=(L _).trans q0;have y1:=(L _).trans q1;have y2:=(L _).trans q2;have y3:=(L _).trans q3;have y4:=(L _).trans q4;have y5:=(L _).trans q5;have y6:=(L _).trans q6;have y7:=(L _).trans q7;have di:=hid ax;have en:=Vi (i:=i) oq;clear q0 q1 q2 q3 q4 q5 q6 q7 L hf ax;gi_wp2;obtain⟨G,av⟩:=ez (wo.alloc (.cells #[.string aj,.int .i64 k1,.string nm1,.int .i64 n1,.int .i64 d1,.slice ag q.len H,.int .i64 a1,.int .i64 R] 111));rw[av];have bm:Below wo.heap.size wo G:=by rw[←av];exact(Zg _ _).alloc (Zc _) _
  have dy:G.heap.size=wo.heap.size+1:=by rw[←av];simp
  have db:G.heap[wo.heap.size]?=some (.cells #[.string aj,.int .i64 k1,.string nm1,.int .i64 n1,.int .i64 d1,.slice ag q.len H,.int .i64 a1,.int .i64 R] 111 (0,0)):=by rw[←av];exact Yw wo _
  have cj:=hid db;have ba:=hid ((HN.out.keep bm).more (B':=G.heap.size) oq (Zc _));have aq:=hid (ce.out.grow bm);have HW2:=hid aq.out.low;clear y0 y1 y2 y3 y4 y5 y6 y7 c0 av bm db U;have c0:=ba.out.b0.cell;obtain⟨⟨z0,z1,z2,z3,z4,z5,z6,z7,z8⟩,zf⟩:=Y4 (show G.heap[m]?=_ from aq.out.box);have ab:=aq.out.lt;have eb:w.heap.size<G.heap.size:=oq;have ff:wo.heap.size<G.heap.size:=oq;clear dy;have KB:=hid (show ∀W:World,Below G.heap.size G W→(fun w'=>w'.cell? ⟨w.heap.size,0,none⟩=some (.pointer (some ⟨m,0,none⟩))∧w'.cell? ⟨m,0,none⟩=some (.slice an p.nodes.length cn)∧w'.cell? ⟨m,1,none⟩=some (.slice ai p.ins.length ci)∧w'.cell? ⟨m,2,none⟩=some (.slice (some ⟨bb,oo,none⟩) p.flows.length cf)∧w'.cell? ⟨m,3,none⟩=some (.slice ao p.outs.length co)) W from fun W hb=>⟨(hb.cell (p:=⟨w.heap.size,0,none⟩) eb).trans c0,(hb.cell (p:=⟨m,0,none⟩) ab).trans z0,(hb.cell (p:=⟨m,1,none⟩) ab).trans z1,(hb.cell (p:=⟨m,2,none⟩) ab).trans z2,(hb.cell (p:=⟨m,3,none⟩) ab).trans z3⟩);clear z0 z1 z2 z3 z4 z5 z6 z7 z8 zf c0;gi_cut [6] from 20 (fun s6 W=>Hid (∃X,s6=.pointer (some ⟨X,0,none⟩)∧G.heap.size≤X∧Boxed W X 4 (.bool (Kz p xIx A iIx ⟨k1,nm1,n1,d1,q,a1⟩ (dg i)))∧Below G.heap.size G W))
  case first =>
   refine wpIn_wide.2 ?_;go_region_held3 (fun w'=>w'.cell? ⟨w.heap.size,0,none⟩=some (.pointer (some ⟨m,0,none⟩))∧w'.cell? ⟨m,0,none⟩=some (.slice an p.nodes.length cn)∧w'.cell? ⟨m,1,none⟩=some (.slice ai p.ins.length ci)∧w'.cell? ⟨m,2,none⟩=some (.slice (some ⟨bb,oo,none⟩) p.flows.length cf)∧w'.cell? ⟨m,3,none⟩=some (.slice ao p.outs.length co)) (exact KB.out _ bq) (first|(go_at_call 95;refine(ap.out _ bq).mono ?_;rintro x w1 ⟨⟨dn,cl,rfl,cp⟩,hb1⟩;have hbA:Below G.heap.size G w1:=bq;have ew:=hbA.size;have dm:=hid (show Qv W0 ⟨k1,nm1,n1,d1,q,a1⟩ dn cl (dg i) from ⟨cp,di.out,by show(dg i).size+3*q.sz≤500;omega,by show q.sz<100;omega⟩);clear cp;first|(have E:Boxed w1 G.heap.size 4 (.bool false):=(hb1.block G.heap.size (by simp)).trans (Yw G.drew _);have bv:=hid E;clear E)|skip)|(go_at_call 99;refine(bx.out _ (ba.out.low.trans ((show Below G.heap.size G _ from bq).mono oq)) _ _ _ _ dm.out).mono ?_;rintro x w2 ⟨rfl,hb2⟩;(first|(have E:Boxed w2 G.heap.size 4 (.bool false):=(hb2.block _ bv.out.lt).trans bv.out;have v0:=E.cell;have vf:=E.frozen;have bw:=hid E;clear E)|(have E:Boxed w2 w1.heap.size 4 (.bool false):=(hb2.block w1.heap.size (by simp)).trans (Yw w1 _);have v0:=E.cell;have vf:=E.frozen;have bw:=hid E;clear E)|skip);have cq:Below G.heap.size G w2:=bq;clear hbA;have hbA:=cq;clear cq;have ex:=hbA.size))
   all_goals
    go_wp2_with fail;gi_meet;have fc:=hbA.size
    first|exact⟨_,rfl,(by first|exact Zc _|assumption|(simp;done)|omega),bw.out.set _,bq⟩|exact⟨_,rfl,(by first|exact Zc _|assumption|(simp;done)|omega),Yw _ _,bq⟩
  obtain⟨J,rfl,el,bc,ar⟩:=hcut.out;clear hcut ap;obtain⟨O,rfl⟩:=ey wc;have dv:=bc.lt;have eu:=ar.size;obtain⟨b0,bp⟩:=ez (Kz p xIx A iIx ⟨k1,nm1,n1,d1,q,a1⟩ (dg i));rw[bp]at bc;have df:=hid bp;have bl:=hid (show AoR w m O.heap.size Ds wo.heap.size J (.cells #[.string aj,.int .i64 k1,.string nm1,.int .i64 n1,.int .i64 d1,.slice ag q.len H,.int .i64 a1,.int .i64 R] 111 (0,0)) b0 O from ⟨(ba.out.keep ar).more oq (Zc _),⟨oq,oq,dv⟩,(ar.block _ oq).trans cj.out,bc⟩);have cc:=hid (aq.out.grow ar);have c0:=bl.out.base.b0.cell;clear bp bc ar ba aq HW2 KB cj ce HW;gi_wp2_with (refine⟨trivial,?_⟩;gi_at_call 98;refine(Zt.2 (Uu (w:=O) m i)).mono ?_;rintro x w5 ⟨rfl,rfl⟩);obtain⟨W5,ak⟩:=ez ((O.alloc (.cells #[.pointer (some ⟨m,0,none⟩)] 123)).alloc (.cells #[.int .i64 (i:Int)] 3));rw[ak];have bn:Below O.heap.size O W5:=by rw[←ak];exact bq
  have dz:W5.heap.size=O.heap.size+2:=by rw[←ak];simp
  have dq:Boxed W5 O.heap.size 123 (.pointer (some ⟨m,0,none⟩)):=by rw[←ak];exact(Boxed.new _ _ _).alloc _
  have dr:Boxed W5 (O.heap.size+1) 3 (.int .i64 (i:Int)):=by rw[←ak];have:=Boxed.new (O.alloc (.cells #[.pointer (some ⟨m,0,none⟩)] 123)) 3 (.int .i64 (i:Int));simpa using this
  clear ak c0;have am:=bl.out.keep bn;have dl:=hid (show AoR w m W5.heap.size Ds wo.heap.size J (.cells #[.string aj,.int .i64 k1,.string nm1,.int .i64 n1,.int .i64 d1,.slice ag q.len H,.int .i64 a1,.int .i64 R] 111 (0,0)) b0 W5 from ⟨am.base.more oq (Zc _),⟨am.lt.1,am.lt.2.1,oq⟩,am.tb,am.fb⟩);have cd:=hid (cc.out.grow bn);have bf:=cd.out.low;have dh:=hid cd.out.box;have ea:=bf.size;have ej:O.heap.size+1<W5.heap.size:=oq;have ee:J<W5.heap.size:=oq;clear am bl cc bn dz;refine uz (w:=W5) (encs:=fun x:VS W0=>#[.agg #[.int .i64 x.s.1.k,.string x.s.1.nm,.int .i64 x.s.1.n,.int .i64 x.s.1.d,.slice x.ad x.s.1.args.len x.cap,.int .i64 x.s.1.a,.string x.s.2]]) rfl oq (gf:=130) (lb:=#[.pointer (some ⟨O.heap.size,0,none⟩),.pointer (some ⟨O.heap.size+1,0,none⟩)]) rfl trivial (enters_of func130 kq rfl) (n₀:=W0.heap.size) (Bk:=O.heap.size) ea
   (VD p an ai _ ao cn ci cf co HP.out bj.out mc mi mf mn mx m O.heap.size (O.heap.size+1) i _ al W5 O.heap.size oq bf dh.out dq dr) (fun _=>rfl)
   (fun pre X=>AoR w m W5.heap.size Ds wo.heap.size J (.cells #[.string aj,.int .i64 k1,.string nm1,.int .i64 n1,.int .i64 d1,.slice ag q.len H,.int .i64 a1,.int .i64 R] 111 (0,0)) (b0&&(pre.map (fun y:VS W0=>y.s)).all (qd p xIx A iIx)) X)
   (fun pre X=>False)
   (fun s X Y row hs hg hr=>hs.own hg hr) (fun s X Y row hs hg hr=>hs.elim) (by simpa using dl.out)
   (fun x a' X=>∃(Bx:Nat)(u0 u2 u3 u4 u5 u8 u9 u10 u11 u12 u13 u14 u15 u16 u17 u18 u19 u20 u21 u22 u23 u24 u25 u26 u27 u28 u29 u30 u31 u32 u33 u34 u35 u36 u37 u38 u39 u40 u41 u42 u43 u44 u45 u46 u47 u48 u49 u50 u51 u52:Value),(W5.heap.size≤Bx∧X.heap[Bx]?=some (.cells #[.int .i64 x.s.1.k,.string x.s.1.nm,.int .i64 x.s.1.n,.int .i64 x.s.1.d,.slice x.ad x.s.1.args.len x.cap,.int .i64 x.s.1.a,.string x.s.2] 184 (0,0)))∧a'={ tmps:=#[u0,.pointer (some ⟨w.heap.size,0,none⟩),u2,u3,u4,u5,.pointer (some ⟨J,0,none⟩),.pointer (some ⟨Bx,0,none⟩),u8,u9,u10,u11,u12,u13,u14,u15,u16,u17,u18,u19,u20,u21,u22,u23,u24,u25,u26,u27,u28,u29,u30,u31,u32,u33,u34,u35,u36,u37,u38,u39,u40,u41,u42,u43,u44,u45,u46,u47,u48,u49,u50,u51,u52],defers:=[] })
   (fun x a' _ X Y row hs hg hrw=>by
    obtain⟨Bx,u0,u2,u3,u4,u5,u8,u9,u10,u11,u12,u13,u14,u15,u16,u17,u18,u19,u20,u21,u22,u23,u24,u25,u26,u27,u28,u29,u30,u31,u32,u33,u34,u35,u36,u37,u38,u39,u40,u41,u42,u43,u44,u45,u46,u47,u48,u49,u50,u51,u52,⟨h1,h2⟩,h3⟩:=hs;refine⟨Bx,u0,u2,u3,u4,u5,u8,u9,u10,u11,u12,u13,u14,u15,u16,u17,u18,u19,u20,u21,u22,u23,u24,u25,u26,u27,u28,u29,u30,u31,u32,u33,u34,u35,u36,u37,u38,u39,u40,u41,u42,u43,u44,u45,u46,u47,u48,u49,u50,u51,u52,⟨h1,(hg.block Bx (Zq.1 h2).1 (fun e=>?_)).trans h2⟩,h3⟩;obtain⟨_,o,ho,hc⟩:=hrw Bx e.symm;rw[h2]at ho;cases ho;cases hc)
   ?assign ?body ?done ?stop
  case assign =>
   rintro l2 pre x X K C hK;gi_wp2;exact hK _ _ ((Zg _ _).alloc (Zc _) _) (C.keep (((Zg _ _).alloc (Zc _) _).mono C.base.bsize)) ⟨X.heap.size,_,_,_,_,_,_,_,_,_,_,_,_,_,_,_,_,_,_,_,_,_,_,_,_,_,_,_,_,_,_,_,_,_,_,_,_,_,_,_,_,_,_,_,_,_,_,_,_,_,_,⟨C.base.bsize,Yw X _⟩,rfl⟩
  case body =>
   rintro l2 pre ⟨⟨⟨k2,az,n2,d2,g,a2⟩,z⟩,ah,I,ae⟩ a' X eg ⟨r,hr⟩ C ⟨Bx,u0,u2,u3,u4,u5,u8,u9,u10,u11,u12,u13,u14,u15,u16,u17,u18,u19,u20,u21,u22,u23,u24,u25,u26,u27,u28,u29,u30,u31,u32,u33,u34,u35,u36,u37,u38,u39,u40,u41,u42,u43,u44,u45,u46,u47,u48,u49,u50,u51,u52,⟨em,aa⟩,rfl⟩ cy;simp only at aa;obtain⟨b1,hb1⟩:=ez ((b0&&(pre.map (fun y:VS W0=>y.s)).all (qd p xIx A iIx)));rw[hb1]at C;have HB1:=hid hb1;have dt:g.sz<100:=ae.few;have eh:=QR g;have V:=hid C;have ec:=hid ae;have ck:=hid aa;obtain⟨⟨x0,x1,x2,x3,x4,x5,x6⟩,xf⟩:=Y7 aa;have er:=C.base.bsize;clear hb1 C aa hr cy;gi_wp2;gi_loopw [36] (fun s36 M=>Hid (∃j:Nat,s36=.int .i64 (j:Int)∧j≤g.len∧AoR w m W5.heap.size Ds wo.heap.size J (.cells #[.string aj,.int .i64 k1,.string nm1,.int .i64 n1,.int .i64 d1,.slice ag q.len H,.int .i64 a1,.int .i64 R] 111 (0,0)) (b1&&((XI g z 0).take j).all (fun k=>Kz p xIx A iIx k.1 k.2)) M∧Upon J X M)) (fun s36 _=>g.len-(intOf s36).toNat)
   case atStart=>exact⟨0,rfl,Zk _,by simpa using V.out,Upon.refl _ _⟩
   obtain⟨M,rfl⟩:=ey wr;obtain⟨j,rfl,hj,hR,hU⟩:=hrel.out;clear hrel x0 x1 x2 x3 x4 x5 x6 xf;have cm:=hR.base.bsize;have cx:J<M.heap.size:=hR.fb.lt;have ay:M.heap[Bx]?=some _:=(hU.block Bx (Zb ck.out) oq).trans ck.out;obtain⟨⟨x0,x1,x2,x3,x4,x5,x6⟩,xf⟩:=Y7 ay;have F:=Zb ay;have HR:=hid hR;have HU:=hid hU;by_cases ac:j<g.len
   ·have du:(j:Int)<(g.len:Int):=oq;obtain⟨c,hc,_⟩:=PL.at_some g j ac;have cw:j<(XI g z 0).length:=by rw[J6];exact ac
    have cv:(XI g z 0)[j]=(c,z++⟨#[47]⟩++dg j):=by
     have h:=Ew g z 0 j c hc;rw[Ze cw,ZD]at h;exact Option.some.inj h
    have bo:=Za5 (f:=fun k:PE×ByteArray=>Kz p xIx A iIx k.1 k.2) cw;rw[cv]at bo;have bt:=hid bo;have dk:=hid ((HM.out.low.trans (hR.base.low.mono dc)).drew);have dj:=hid hR.base.low;have cz:=hR.base.low.size;have da:w.heap.size<M.heap.size:=hR.base.b0.lt;have cb:=hR.base.b0.cell;have KS:=hid (show ∀W:World,Below M.heap.size M W→(fun w'=>w'.cell? ⟨w.heap.size,0,none⟩=some (.pointer (some ⟨m,0,none⟩))∧w'.cell? ⟨Bx,0,none⟩=some (.int .i64 k2)∧w'.cell? ⟨Bx,1,none⟩=some (.string az)∧w'.cell? ⟨Bx,2,none⟩=some (.int .i64 n2)∧w'.cell? ⟨Bx,3,none⟩=some (.int .i64 d2)∧w'.cell? ⟨Bx,4,none⟩=some (.slice ah g.len I)∧w'.cell? ⟨Bx,5,none⟩=some (.int .i64 a2)∧w'.cell? ⟨Bx,6,none⟩=some (.string z)) W from fun W hb=>⟨(hb.cell (p:=⟨w.heap.size,0,none⟩) da).trans cb,(hb.cell (p:=⟨Bx,0,none⟩) F).trans x0,(hb.cell (p:=⟨Bx,1,none⟩) F).trans x1,(hb.cell (p:=⟨Bx,2,none⟩) F).trans x2,(hb.cell (p:=⟨Bx,3,none⟩) F).trans x3,(hb.cell (p:=⟨Bx,4,none⟩) F).trans x4,(hb.cell (p:=⟨Bx,5,none⟩) F).trans x5,(hb.cell (p:=⟨Bx,6,none⟩) F).trans x6⟩);have dx:J≠Bx:=oq;have dw:J≠w.heap.size:=by have:=hR.lt;omega
    have KT:=hid (show ∀(W:World)(v:Value),Below M.heap.size M W→(fun w'=>w'.cell? ⟨w.heap.size,0,none⟩=some (.pointer (some ⟨m,0,none⟩))∧w'.cell? ⟨Bx,0,none⟩=some (.int .i64 k2)∧w'.cell? ⟨Bx,1,none⟩=some (.string az)∧w'.cell? ⟨Bx,2,none⟩=some (.int .i64 n2)∧w'.cell? ⟨Bx,3,none⟩=some (.int .i64 d2)∧w'.cell? ⟨Bx,4,none⟩=some (.slice ah g.len I)∧w'.cell? ⟨Bx,5,none⟩=some (.int .i64 a2)∧w'.cell? ⟨Bx,6,none⟩=some (.string z)) (W.setCell ⟨J,0,none⟩ v) from fun W v hb=>by
     obtain⟨h0,h1,h2,h3,h4,h5,h6,h7⟩:=KS.out W hb;have hf:=fun o=>ZG W ⟨J,0,none⟩ ⟨Bx,o,none⟩ v dx
     exact⟨(ZG W ⟨J,0,none⟩ ⟨w.heap.size,0,none⟩ v dw).trans h0,(hf _).trans h1,(hf _).trans h2,(hf _).trans h3,(hf _).trans h4,(hf _).trans h5,(hf _).trans h6,(hf _).trans h7⟩)
    obtain⟨dp,br⟩:=ez ((b1&&((XI g z 0).take j).all (fun k=>Kz p xIx A iIx k.1 k.2)));rw[br]at hR;have T:=hR.fb;have bk:=hid hR;have bu:=hid br;clear hR hU HR bo cv br x0 x1 x2 x3 x4 x5 x6 xf cb ay;gi_wp2;have bs:Below M.heap.size M M.drew:=(Zg _ _).drew
    cases dp with
    | true =>
     have cF:=T.cell;have fF:=T.frozen;refine JB (S:=fun w'=>w'.cell? ⟨w.heap.size,0,none⟩=some (.pointer (some ⟨m,0,none⟩))∧w'.cell? ⟨Bx,0,none⟩=some (.int .i64 k2)∧w'.cell? ⟨Bx,1,none⟩=some (.string az)∧w'.cell? ⟨Bx,2,none⟩=some (.int .i64 n2)∧w'.cell? ⟨Bx,3,none⟩=some (.int .i64 d2)∧w'.cell? ⟨Bx,4,none⟩=some (.slice ah g.len I)∧w'.cell? ⟨Bx,5,none⟩=some (.int .i64 a2)∧w'.cell? ⟨Bx,6,none⟩=some (.string z)) kq kq (by rintro⟨_,_,h⟩;exact h) (KS.out _ (Zg _ _).drew) (fun hHeld=>?_);refine ZV (rs:=[0]) kq (by simp) ?_;refine ZH (o:=?o1) ?hi1 (fun K hK=>?_) AllReadyH.nil
     case hi1=>(simp only[List.getElem?_toArray,List.getElem?_cons_succ,List.getElem?_cons_zero];rfl)
     go_simp;refine hK.out _ _ (by exact KS.out _ (Zg _ _).drew) (fun hHeld=>?_);clear hK K
     try simp only[Act.put,sA,sB,sC]
     refine tk 1 hHeld ?_;refine tk 2 hHeld ?_;refine tk 3 hHeld ?_;refine tk 4 hHeld ?_;refine ZV (rs:=[5]) kq (by simp) ?_;refine ZH (o:=?o6) ?hi6 (fun K hK=>?_) AllReadyH.nil
     case hi6=>(simp only[List.getElem?_toArray,List.getElem?_cons_succ,List.getElem?_cons_zero];rfl)
     (go_simp;go_at_call 100;refine(de.out M.drew dk.out _ c ah I z j ae hc).mono ?_;rintro x w5 ⟨⟨ek,ed,rfl,bi⟩,hb5⟩;have ch:=hid bi;have hbx5:Below M.heap.size M w5:=bq;have fa:=hbx5.size;clear bi;try go_simp)
     refine hK.out _ _ (by exact KS.out _ hbx5) (fun hHeld=>?_);clear hK K
     try simp only[Act.put,sA,sB,sC]
     refine ZV (rs:=[6]) kq (by simp) ?_;refine ZH (o:=?o7) ?hi7 (fun K hK=>?_) AllReadyH.nil
     case hi7=>(simp only[List.getElem?_toArray,List.getElem?_cons_succ,List.getElem?_cons_zero];rfl)
     (go_simp;go_at_call 99;refine(bx.out w5 (dj.out.trans (hbx5.mono cz)) _ _ _ _ ch.out).mono ?_;rintro x w6 ⟨rfl,hb56⟩;have hb6:Below M.heap.size M w6:=bq;have cr:Boxed w6 J 4 (.bool true):=(hb6.block J cx).trans T;have fe:=cr.cell;have fd:=cr.frozen;try go_simp)
     refine hK.out _ _ (by exact KS.out _ hb6) (fun hHeld=>?_);clear hK K
     try simp only[Act.put,sA,sB,sC]
     refine tk 7 hHeld ?_;refine ZV (rs:=[8]) kq (by simp) ?_;refine ZH (o:=?o9) ?hi9 (fun K hK=>?_) AllReadyH.nil
     case hi9=>(simp only[List.getElem?_toArray,List.getElem?_cons_succ,List.getElem?_cons_zero];rfl)
     go_simp;refine hK.out _ _ (by exact KT.out _ _ hb6) (fun hHeld=>?_);clear hK K
     try simp only[Act.put,sA,sB,sC]
     refine Zy kq ?_ _;gi_wp2;refine⟨hid ⟨j+1,by go_num,ac,?_,?_⟩,by simp[intOf];omega⟩
     ·rw[bt.out,←Bool.and_assoc,bu.out,Bool.true_and];exact(bk.out.keep (hb6.mono cm)).put _
     exact(HU.out.then_below hb6 (HU.out.size)).setCell (p:=⟨J,0,none⟩) (Or.inl rfl) _
    | false =>
     have cF:=T.cell;have fF:=T.frozen;refine JB (S:=fun w'=>w'.cell? ⟨w.heap.size,0,none⟩=some (.pointer (some ⟨m,0,none⟩))∧w'.cell? ⟨Bx,0,none⟩=some (.int .i64 k2)∧w'.cell? ⟨Bx,1,none⟩=some (.string az)∧w'.cell? ⟨Bx,2,none⟩=some (.int .i64 n2)∧w'.cell? ⟨Bx,3,none⟩=some (.int .i64 d2)∧w'.cell? ⟨Bx,4,none⟩=some (.slice ah g.len I)∧w'.cell? ⟨Bx,5,none⟩=some (.int .i64 a2)∧w'.cell? ⟨Bx,6,none⟩=some (.string z)) kq kq (by rintro⟨_,_,h⟩;exact h) (KS.out _ (Zg _ _).drew) (fun hHeld=>?_);refine ZV (rs:=[0]) kq (by simp) ?_;refine ZH (o:=?o10) ?hi10 (fun K hK=>?_) AllReadyH.nil
     case hi10=>(simp only[List.getElem?_toArray,List.getElem?_cons_succ,List.getElem?_cons_zero];rfl)
     go_simp;refine hK.out _ _ (by exact KS.out _ (Zg _ _).drew) (fun hHeld=>?_);clear hK K
     try simp only[Act.put,sA,sB,sC]
     refine tk 1 hHeld ?_;refine tu 2 hHeld ?_;refine tu 3 hHeld ?_;refine tu 4 hHeld ?_;refine tu 5 hHeld ?_;refine tu 6 hHeld ?_;refine tk 7 hHeld ?_;refine ZV (rs:=[8]) kq (by simp) ?_;refine ZH (o:=?o18) ?hi18 (fun K hK=>?_) AllReadyH.nil
     case hi18=>(simp only[List.getElem?_toArray,List.getElem?_cons_succ,List.getElem?_cons_zero];rfl)
     go_simp;refine hK.out _ _ (by first|exact KT.out _ _ bs|exact KT.out _ _ (Zg _ _)) (fun hHeld=>?_);clear hK K
     try simp only[Act.put,sA,sB,sC]
     refine Zy kq ?_ _;gi_wp2;refine⟨hid ⟨j+1,by go_num,ac,?_,?_⟩,by simp[intOf];omega⟩
     ·rw[bt.out,←Bool.and_assoc,bu.out,Bool.false_and]
      first|exact(bk.out.keep (bs.mono cm)).put _|exact bk.out.put _
     first|exact HU.out.setCell (p:=⟨J,0,none⟩) (Or.inl rfl) _|exact(HU.out.then_below bs (HU.out.size)).setCell (p:=⟨J,0,none⟩) (Or.inl rfl) _
   have du:¬(j:Int)<(g.len:Int):=oq;clear hR hU x0 x1 x2 x3 x4 x5 x6 xf;gi_wp2;have ds:(b0&&((pre++[(⟨(⟨k2,az,n2,d2,g,a2⟩,z),ah,I,ae⟩:VS W0)]).map (fun y:VS W0=>y.s)).all (qd p xIx A iIx))=(b1&&((XI g z 0).take j).all (fun k=>Kz p xIx A iIx k.1 k.2)):=by
    rw[List.take_of_length_le (by rw[J6];omega),←HB1.out,ZU,List.all_append,←Bool.and_assoc];simp only[List.map_cons,List.map_nil,List.all_cons,List.all_nil,Bool.and_true,qd]
   refine⟨⟨HU.out.size,fun k o hk ho hc=>(HU.out.block k (Zb ho) oq).trans ho⟩,⟨HU.out.below oq oq,fun k o hk ho hc=>(HU.out.block k (Zb ho) oq).trans ho⟩,?_⟩;show AoR w m W5.heap.size Ds wo.heap.size J _ _ _;have hh:=HR.out;rw[←ds]at hh
   first|exact hh|(rw[List.all_map]at hh;exact hh)
  case done =>
   rintro D zs X hD dd C hK;obtain⟨bz,hbz⟩:=ez ((b0&&(zs.map (fun y:VS W0=>y.s)).all (qd p xIx A iIx)));rw[hbz]at C;have ct:e7 p xIx A iIx ⟨k1,nm1,n1,d1,q,a1⟩ i=bz:=by
    rw[←hbz,dd,HF.out,e7,df.out]
   have Z:=Z.out;rw[HF.out]at Z;simp only at Z;rw[ct]at Z;have ca:=hid Z;have V:=hid C;have hK:=hid hK;have cF:=C.fb.cell;obtain⟨⟨y0,y1,y2,y3,y4,y5,y6,y7⟩,yf⟩:=Zds C.tb;clear Z ct hbz C dd
   cases bz with
   | true =>
    gi_wp2;rw[show((i:Int)+1)=((i+1:Nat):Int) by omega];refine⟨⟨i+1,D::Ds,_,_,_,_,_,_,_,_,_,_,_,_,_,_,_,_,_,_,_,_,_,_,_,_,_,_,_,_,_,_,_,_,_,_,_,_,_,_,_,_,_,_,⟨oq,by rw[ca.out,Bool.true_and],V.out.base.mark hD hK.out⟩,rfl⟩,by simp[intOf];omega⟩
   | false =>
    have U:=V.out.base.low;gi_wp2;refine Qp (n₀:=w.heap.size) (D::Ds) _ ⟨fun D' hD'=>?_,List.nodup_cons.2 ⟨fun hm=>?_,V.out.base.marks.2⟩⟩ (fun w' hk=>?_)
    ·rcases ZR.1 hD' with rfl|hm
     ·exact⟨oq,hK.out⟩
     exact V.out.base.marks.1 D' hm
    ·have:=V.out.base.under D hm;omega
    refine⟨.tuple #[.int .i64 R,.int .i64 8],?_,.inr ⟨R,rfl,?_⟩,U.trans hk.below⟩
    ·simp only[results,results56];go_simp
    rw[ca.out,Bool.false_and]
  rintro D pre X hD ei hX hK;exact hX.elim
 have cu:i=p.flows.length:=oq;have ep:¬(i:Int)<(p.flows.length:Int):=oq;gi_wp2;refine Qp Ds _ HN.out.marks (fun w' hk=>?_);refine⟨.tuple #[.int .i64 0,.int .i64 0],?_,.inl ⟨rfl,?_⟩,HN.out.low.trans hk.below⟩
 ·simp only[results,results56];go_simp
 first|rfl|(rw[bd,cu,Yp];rfl)
def Y6(e:TypeId)(w w':World):Prop:=∀(k:Nat)(cur:Array Value)(t:TypeId)(fz:Nat×Nat),w.heap[k]?=some (Obj.cells cur t fz)→t≠e→w'.heap[k]?=some (Obj.cells cur t fz)
theorem Y6.trans{e:TypeId}{a b c:World}(h:Y6 e a b)(k:Y6 e b c):Y6 e a c:=fun i cur t fz hi ht=>k i cur t fz (h i cur t fz hi ht) ht
theorem Y6.of_below{e:TypeId}{a b:World}(h:Below a.heap.size a b):Y6 e a b:=fun i cur t fz hi _=>(h.block i (Zb hi)).trans hi
theorem Y6.of_grown{e:TypeId}{a b:World}{base size n:Nat}{v:Value}{xs:List Value}(m:a.ownsRow base e size v n xs)(j:a.grownBy b v.ownBlock):Y6 e a b:=by
 intro i f t q hi ht;refine(j.block i (Zb hi) (fun he=>?_)).trans hi;rcases m.2 with ⟨rfl,_⟩|⟨g,cap,cur',rfl,hb,hgg,_⟩
 ·cases he
 simp[Value.ownBlock]at he;subst he;rw[hi]at hgg;injection hgg with hgg
 injection hgg with h1 h2 h3
 exact ht h2
theorem Y6.set{e:TypeId}(w:World)(b o:Nat){cur:Array Value}{j:Nat×Nat}(h:w.heap[b]?=some (.cells cur e j))(u:Value):Y6 e w (w.setCell ⟨b,o,none⟩ u):=by
 intro i g t m hi ht;refine(Zr _ _ _ _ (fun f=>?_)).trans hi;have f:i=b:=f;subst f;rw[h]at hi;injection hi with hi
 injection hi with h1 h2 h3
 exact ht h2.symm
theorem J9{w w':World}{base:Nat}{e j:TypeId}{size n:Nat}{v:Value}{xs:List Value}(h:w.ownsRow base e size v n xs)(m:Y6 j w w')(f:e≠j):w'.ownsRow base e size v n xs:=by
 refine⟨h.1,?_⟩;rcases h.2 with h0|⟨g,cap,cur,hv,hb,hg,rest⟩
 ·exact .inl h0
 exact .inr ⟨g,cap,cur,hv,hb,m g cur e _ hg f,rest⟩
theorem ZdX(w:World)(base:Nat)(e:TypeId)(size:Nat):w.ownsRow base e size (.slice none 0 0) 0 []:=Yf _ _ _ _
def Xt{α:Type}(Pe:World→List Value→α→Prop)(e:TypeId)(size:Nat)(w:World)(base:Nat)(v:Value)(l:List α):Prop :=
 ∃cs:List (List Value),cs.length=l.length∧w.ownsRow base e size v l.length cs.flatten∧(∀c∈cs,c.length=size)∧∀i (h:i<l.length) (h':i<cs.length),Pe w cs[i] l[i]
section
variable {α:Type} {Pe:World→List Value→α→Prop} {e:TypeId} {size:Nat} {w w':World} {base:Nat} {v:Value} {l:List α}
theorem Xt.nil:Xt Pe e size w base (.slice none 0 0) ([]:List α):=⟨[],rfl,ZdX _ _ _ _,by simp,fun i h=>by simp at h⟩
theorem Xt.own(h:Xt Pe e size w base v l):∃xs,w.ownsRow base e size v l.length xs:=by
 obtain⟨g,_,f,_⟩:=h;exact⟨_,f⟩
theorem Xt.form(h:Xt Pe e size w base v l):∃ad cap,v=.slice ad l.length cap:=by
 obtain⟨g,f⟩:=h.own;exact YI f
theorem Xt.stays(h:Xt Pe e size w base v l){g:TypeId}(C:Y6 g w w')(f:e≠g)(A:∀c x,Pe w c x→Pe w' c x):Xt Pe e size w' base v l:=by
 obtain⟨j,m,q,y,z⟩:=h;exact⟨j,m,J9 q C f,y,fun i hi hi'=>A _ _ (z i hi hi')⟩
theorem yV(f:List (List Value))(c:List Value):(f++[c]).flatten=f.flatten++c:=by simp
theorem Xt.snoc{f:List (List Value)}(m:f.length=l.length)(v:∀c∈f,c.length=size)(y:∀i (h:i<l.length) (C:i<f.length),Pe w' f[i] l[i]){c:List Value}(z:c.length=size){x:α}(A:Pe w' c x){v':Value}
  (g:w'.ownsRow base e size v' (l.length+1) (f.flatten++c)):Xt Pe e size w' base v' (l++[x]):=by
 refine⟨f++[c],by simp[m],by rw[yV,Zx];exact g,fun d hd=>?_,fun i hi hi'=>?_⟩
 ·rcases List.mem_append.1 hd with h|h
  ·exact v d h
  rw[List.mem_singleton.1 h];exact z
 by_cases q:i<l.length
 ·rw[List.getElem_append_left q,List.getElem_append_left oq];exact y i q oq
 have j:i=l.length:=by simp at hi;omega
 subst j;rw[List.getElem_append_right (Zc _),List.getElem_append_right oq];simp only[m,Nat.sub_self,List.getElem_cons_zero];exact A
theorem UQ{wr w3 w4:World}{n:Nat}{xs:List Value}{ob:Obj}(f:wr.ownsRow base e size v n xs)(hb:Below wr.heap.size wr w3)(j:(w3.alloc ob).grownBy w4 v.ownBlock):Y6 e wr w4∧(∀B,B≤base→B≤wr.heap.size→Below B wr w4)∧wr.heap.size≤w4.heap.size:=by
 have g:Below wr.heap.size wr (w3.alloc ob):=hb.alloc hb.size _;refine⟨(Y6.of_below g).trans (Y6.of_grown (own_below f g) j),fun B hB hB2=>?_,Zm g.size j.size⟩;exact(g.mono hB2).grown j (Zm hB2 g.size) (fun k ek=>Zm hB (X3 f k ek))
theorem Ju{wr w4:World}{cs:List (List Value)}(h1:cs.length=l.length)(h2:wr.ownsRow base e size v l.length cs.flatten)(h3:∀c∈cs,c.length=size)(h4:∀i (h:i<l.length) (h':i<cs.length),Pe wr cs[i] l[i])(hP:∀c x,Pe wr c x→Pe w4 c x)
  {c:List Value}(hc:c.length=size){x:α}(hx:Pe w4 c x){v':Value}(hown4:w4.ownsRow base e size v' (l.length+1) (cs.flatten++c)):Xt Pe e size w4 base v' (l++[x]) :=
 Xt.snoc h1 h3 (fun i hi hi'=>hP _ _ (h4 i hi hi')) hc hx hown4
end
def Um(base:Nat)(w:World)(c:List Value)(x:Nat×List Op3):Prop:=∃v,c=[.int .i64 (x.1:Int),v]∧w.ownsRow base 156 3 v x.2.length (QB x.2)
def xH(w:World)(c:List Value)(x:Int×Int):Prop:=c=[.int .i64 x.1,.int .i64 x.2]
structure TK where
 node:Int
 per:Int
 ph:Int
 args:List (Nat×List Op3)
def QX(base:Nat)(w:World)(c:List Value)(x:TK):Prop:=∃v,c=[.int .i64 x.node,.int .i64 x.per,.int .i64 x.ph,v]∧Xt (Um base) 69 2 w base v x.args
structure TL where
 per:Int
 ph:Int
 src:Nat
 ops:List Op3
 dl:Int
def Je(base:Nat)(w:World)(c:List Value)(x:TL):Prop:=∃v,c=[.int .i64 x.per,.int .i64 x.ph,.int .i64 (x.src:Int),v,.int .i64 x.dl]∧w.ownsRow base 156 3 v x.ops.length (QB x.ops)
theorem JV.stays{P:Nat→Prop}{w w':World}{y:TypeId}(A:Y6 y w w')(v:88≠y):∀(l:PL)(b o:Nat),OkB w P b→JV w P b l o→JV w' P b l o:=by
 intro l
 induction l with
 | nil=>intro b o _ _;trivial
 | cons k nm n d args a tl ih1 ih2 =>
  intro b o hb h;have x:=hb;obtain⟨_,D,q⟩:=hb;have j:∀o,w'.cell? ⟨b,o,none⟩=w.cell? ⟨b,o,none⟩:=fun o=>Zn (w:=w) (a:=⟨b,o,none⟩) ((A b D _ _ q v).trans q.symm)
  obtain⟨E,F,G,H,J,⟨C,cap,I,m,hd⟩,ht⟩:=h;refine⟨(j _).trans E,(j _).trans F,(j _).trans G,(j _).trans H,(j _).trans J,⟨C,cap,(j _).trans I,m,?_⟩,ih2 b _ x ht⟩;rcases hd with hd|⟨b',o',e,hb',hd⟩
  ·exact .inl hd
  obtain⟨z,g,f⟩:=hb';exact .inr ⟨b',o',e,⟨z,g,A b' g _ _ f v⟩,ih1 b' o' ⟨z,g,f⟩ hd⟩
theorem SlA.stays{P:Nat→Prop}{w w':World}{j:TypeId}{args:PL}{g:Option Addr}(h:SlA w P args g)(m:Y6 j w w')(f:88≠j):SlA w' P args g:=by
 rcases h with h|⟨b,o,e,⟨hp,cs,hcs⟩,h⟩
 ·exact .inl h
 exact .inr ⟨b,o,e,⟨hp,cs,m b cs _ _ hcs f⟩,h.stays m f _ _ _ ⟨hp,cs,hcs⟩⟩
def UK(w:World)(c:List Value)(x:ND):Prop:=∃pa pc ad cap,c=[.string x.nm,.slice pa x.ps.length pc,.int .i64 x.bud,.int .i64 x.body.k,.string x.body.nm,.int .i64 x.body.n,.int .i64 x.body.d,.slice ad x.body.args.len cap,.int .i64 x.body.a,.int .i64 x.a] ∧
 w.ownsRow 0 9 1 (.slice pa x.ps.length pc) x.ps.length (x.ps.map Value.string)∧x.body.args.len≤cap∧SlA w (fun _=>True) x.body.args ad
theorem UK.stays{w w':World}{f:TypeId}{c:List Value}{x:ND}(h:UK w c x)(g:Y6 f w w')(m:9≠f)(q:88≠f):UK w' c x:=by
 obtain⟨C,D,j,cap,y,A,z,v⟩:=h;exact⟨C,D,j,cap,y,J9 A g m,z,v.stays g q⟩
section
variable {base:Nat} {w w':World} {e':TypeId}
theorem Um.stays{c:List Value}{x:Nat×List Op3}(h:Um base w c x)(m:Y6 e' w w')(f:156≠e'):Um base w' c x:=by
 obtain⟨v,g,j⟩:=h;exact⟨v,g,J9 j m f⟩
theorem QX.stays{c:List Value}{x:TK}(h:QX base w c x)(j:Y6 e' w w')(g:156≠e')(f:69≠e'):QX base w' c x:=by
 obtain⟨v,m,q⟩:=h;exact⟨v,m,q.stays j f (fun c x h=>h.stays j g)⟩
theorem Je.stays{c:List Value}{x:TL}(h:Je base w c x)(m:Y6 e' w w')(f:156≠e'):Je base w' c x:=by
 obtain⟨v,g,j⟩:=h;exact⟨v,g,J9 j m f⟩
theorem Xt.mono{α:Type}{Pe f:World→List Value→α→Prop}{e:TypeId}{size:Nat}{base base':Nat}{v:Value}{l:List α}(h:Xt Pe e size w base v l)(hb:base'≤base)(z:∀c x,Pe w c x→f w c x):Xt f e size w base' v l:=by
 obtain⟨g,j,m,q,y⟩:=h;exact⟨g,j,Xd m hb,q,fun i hi hi'=>z _ _ (y i hi hi')⟩
theorem Um.mono{base':Nat}{c:List Value}{x:Nat×List Op3}(h:Um base w c x)(hb:base'≤base):Um base' w c x:=by
 obtain⟨v,f,g⟩:=h;exact⟨v,f,Xd g hb⟩
theorem QX.mono{base':Nat}{c:List Value}{x:TK}(h:QX base w c x)(hb:base'≤base):QX base' w c x:=by
 obtain⟨v,f,g⟩:=h;exact⟨v,f,g.mono hb (fun c x h=>h.mono hb)⟩
end
theorem uc:(prog.info? 69).map (fun i=>(i.zero,i.size,i.bytes))=some (some (.agg #[.int .i64 0,.slice none 0 0]),2,32):=by kernel_rfl
theorem qv:(prog.info? 65).map (fun i=>(i.zero,i.size,i.bytes))=some (some (.agg #[.int .i64 0,.int .i64 0,.int .i64 0,.slice none 0 0]),4,48):=by kernel_rfl
theorem qw:(prog.info? 71).map (fun i=>(i.zero,i.size,i.bytes))=some (some (.agg #[.int .i64 0,.int .i64 0,.int .i64 0,.slice none 0 0,.int .i64 0]),5,56):=by kernel_rfl
theorem ud:(prog.info? 62).map (fun i=>(i.zero,i.size,i.bytes))=some (some (.agg #[.int .i64 0,.int .i64 0]),2,16):=by kernel_rfl
theorem qu:(prog.info? 90).map (fun i=>(i.zero,i.size,i.bytes))=some (some (.agg #[.string ⟨#[]⟩,.slice none 0 0,.int .i64 0,.int .i64 0,.string ⟨#[]⟩,.int .i64 0,.int .i64 0,.slice none 0 0,.int .i64 0,.int .i64 0]),10,128):=by kernel_rfl
theorem ZeC{w:World}{b:Nat}{q v x y:Value}{t:TypeId}(h:w.heap[b]?=some (.cells #[q,v,x,y] t (0,0)))(u0 u1 u2 u3:Value):((((w.setCell ⟨b,0,none⟩ u0).setCell ⟨b,1,none⟩ u1).setCell ⟨b,2,none⟩ u2).setCell ⟨b,3,none⟩ u3).heap[b]?=some (.cells #[u0,u1,u2,u3] t (0,0)):=by
 have f:=Zj _ b 0 _ t u0 h;have g:=Zj _ b 1 _ t u1 f;have j:=Zj _ b 2 _ t u2 g;have m:=Zj _ b 3 _ t u3 j;simpa only [sA,sB,sC] using m
theorem j4(w:World)(b:Nat)(u0 u1 u2 u3:Value):Upon b w ((((w.setCell ⟨b,0,none⟩ u0).setCell ⟨b,1,none⟩ u1).setCell ⟨b,2,none⟩ u2).setCell ⟨b,3,none⟩ u3) :=
 ((((Upon.refl b w).setAt (Or.inl rfl) _).setAt (Or.inl rfl) _).setAt (Or.inl rfl) _).setAt (Or.inl rfl) _
theorem Y6.of_upon{e:TypeId}{w w':World}{b:Nat}{cur:Array Value}{g:Nat×Nat}(h:w.heap[b]?=some (.cells cur e g))(m:Upon b w w'):Y6 e w w':=by
 intro i f t j hi ht;refine(m.block i (Zb hi) (fun he=>?_)).trans hi;subst he;rw[h]at hi;injection hi with hi
 injection hi with h1 h2 h3
 exact ht h2.symm
structure Za2 (w:World) (e:PE) (way:ByteArray) (ad:Option Addr) (cap X:Nat) (nd pp ff:Int) (al:List (Nat×List Op3)) (i:Nat) (v:Value) (wr:World):Prop where
 le:i≤al.length
 hX:w.heap.size+2≤X
 b0:wr.heap[w.heap.size]?=some (Kd e ad cap way)
 b1:wr.heap[w.heap.size+1]?=some (.cells #[.int .i64 0,.int .i64 0,.int .i64 0,.slice none 0 0] 65 (0,0))
 bx:wr.heap[X]?=some (.cells #[.int .i64 nd,.int .i64 pp,.int .i64 ff,v] 65 (0,0))
 row:Xt (Um w.heap.size) 69 2 wr w.heap.size v (al.take i)
 low:Below w.heap.size w wr
section
variable {w:World} {e:PE} {way:ByteArray} {ad:Option Addr} {cap X:Nat} {nd pp ff:Int} {al:List (Nat×List Op3)} {i:Nat} {v:Value} {wr:World}
theorem yo{α:Type}{l:List α}{i:Nat}(h:i<l.length):l.take (i+1)=l.take i++[l[i]]:=by
 rw[Zv h]
theorem Za2.app(h:Za2 w e way ad cap X nd pp ff al i v wr)(E:i<al.length){C w4:World}(hb6:Below wr.heap.size wr C){J:Value}{I:Nat}{H:List Op3}(hx:al[i]=(I,H))(z:C.ownsRow w.heap.size 156 3 J H.length (QB H)){A:List (List Value)}(T:A.length=(al.take i).length)
  (L:wr.ownsRow w.heap.size 69 2 v i A.flatten)(U:∀c∈A,c.length=2)(V:∀j (hj:j<(al.take i).length) (Y:j<A.length),Um w.heap.size wr A[j] (al.take i)[j]){ob:Obj}{v':Value}
  (y:w4.ownsRow w.heap.size 69 2 v' (i+1) (A.flatten++[.int .i64 (I:Int),J]))(D:(C.alloc ob).grownBy w4 v.ownBlock):
  (w4.cell? ⟨X,3,none⟩=some v∧w4.frozen? ⟨X,3,none⟩=false)∧Za2 w e way ad cap X nd pp ff al (i+1) v' (w4.setCell ⟨X,3,none⟩ v'):=by
 obtain⟨g,O,aa⟩:=UQ L hb6 D;have G:(al.take i).length=i:=by rw[Yb];omega
 have F:Y6 69 C w4:=(Y6.of_below ((Zg C.heap.size C).alloc (Zc _) ob)).trans (Y6.of_grown (own_below (own_below L hb6) ((Zg _ _).alloc (Zc _) ob)) D);have m:=g X _ _ _ h.bx (by decide);have M:=h.hX;have R:=h.low.size;have q:Y6 65 w4 (w4.setCell ⟨X,3,none⟩ v'):=Y6.set w4 X 3 m v';have f:∀k,k≠X→(w4.setCell ⟨X,3,none⟩ v').heap[k]?=w4.heap[k]?:=fun k hk=>Zr _ _ _ _ hk
 refine⟨⟨by simp[World.cell?,m],by simp[World.frozen?,m]⟩,E,M,(f _ oq).trans (g _ _ _ _ h.b0 (by decide)),(f _ oq).trans (g _ _ _ _ h.b1 (by decide)),?_,?_,?_⟩
 ·have:=Zj _ X 3 _ _ v' m;simpa only [sA,sB,sC] using this
 ·rw[yo E,hx];have Z:=Ju (Pe:=Um w.heap.size) T (by rw[G];exact L) U V (fun c x hc=>hc.stays g (by decide)) (c:=[.int .i64 (I:Int),J]) rfl (x:=(I,H)) ⟨J,rfl,J9 z F (by decide)⟩ (by rw[G];exact y);exact Z.stays q (by decide) (fun c x hc=>hc.stays q (by decide))
 exact(h.low.trans (O _ (Zc _) R)).setCell (p:=⟨X,3,none⟩) (by show w.heap.size≤X;omega) _
end
def uT(p:PG)(xIx fIx iIx:IE)(e:PE)(way:ByteArray)(r:Nat×List Op3):Prop:=∃N ops,XL p.flows p.ins.length xIx fIx iIx N e way []=some (r.1,ops)∧r.2=ops.reverse
theorem zy{W0 w:World}(p:PG)(an D C E:Option Addr)(H G F I:Nat)(hp:AP W0 p an D C E H G F I)(J:JX p)(T V U X Y m:Nat)(O y q R z:List (ByteArray×Value))(hM:Mkr W0 p an D C E H G F I T V U X Y m O y q R z w)
  (xIx g iIx:IE)(hX:XK z xIx)(hF:XK q g)(hI:XK y iIx)(L:∀k j,xIx k=some j→j≤1000)(e:PE)(f:ByteArray)(A:Option Addr)(cap:Nat)(hs:Qv W0 e A cap f)(r:Nat×List Op3)(hr:uT p xIx g iIx e f r):
  Calls prog 104 #[.pointer (some ⟨m,0,none⟩),spv e A cap f] w fun x w'=>(∃v,x=.returned (.agg #[.int .i64 (r.1:Int),v])∧w'.ownsRow w.heap.size 156 3 v r.2.length (QB r.2))∧Below w.heap.size w w':=by
 obtain⟨N,M,Z,h2⟩:=hr;refine(zz p an D C E H G F I hp J T V U X Y m O y q R z hM xIx g iIx hX hF hI L N e f A cap hs r.1 M Z).mono ?_;rintro x w' ⟨⟨v,h3,h4⟩,h5⟩;exact⟨⟨v,h3,by rw[h2,List.length_reverse];exact h4⟩,h5⟩
theorem ZcW{W0 w:World}(p:PG)(an ai af ao:Option Addr)(cn ci cf co:Nat)(hp:AP W0 p an ai af ao cn ci cf co)(bi:JX p)(mc mi mf mn mx m:Nat)(Lc Li Lf Ln Lx:List (ByteArray×Value))(V:Mkr W0 p an ai af ao cn ci cf co mc mi mf mn mx m Lc Li Lf Ln Lx w)
  (xIx ac iIx T:IE)(hX:XK Lx xIx)(hF:XK Lf ac)(hI:XK Li iIx)(hN:XK Ln T)(bn:∀k j,xIx k=some j→j≤1000)(env:Env)(hC:XY Lc env)(e:PE)(f:ByteArray)(D:Option Addr)(cap:Nat)(hs:Qv W0 e D cap f)
  (pp ff:Int)(ht:UY (XB env) e=(pp,ff))(E:List (Nat×List Op3))(cy:E.length=e.args.len)(az:∀i c,e.args.at i=some c→∀h:i<E.length,uT p xIx ac iIx c (f++⟨#[47]⟩++dg i) E[i]):
  Calls prog 103 #[.pointer (some ⟨m,0,none⟩),spv e D cap f] w fun x w'=>(∃v,x=.returned (.agg #[.int .i64 (((T e.nm).getD 0:Nat):Int),.int .i64 pp,.int .i64 ff,v])∧Xt (Um w.heap.size) 69 2 w' w.heap.size v E)∧Below w.heap.size w w':=by
 have df:=V.lt;have cm:=V.low.size;have L:=hid (fun(w':World)(hb:Below w.heap.size w w')=>xX p an ai af ao cn ci cf co mc mi mf mn mx m Lc Li Lf Ln Lx env hC _ e (ZW _) hs.good w' D cap hs.mem (V.grow hb));rw[ht]at L;dsimp only at L;have br:=hid (fun(w':World)(hb:Below w.heap.size w w') i c (hc:e.args.at i=some c)=>JN (V.low.trans (hb.mono cm)) e c D cap f i hs hc);have bp:=hid (fun(w':World)(hb:Below w.heap.size w w') e5 way5 ab F (hs5:Qv W0 e5 ab F way5) r hr=>zy p an ai af ao cn ci cf co hp bi mc mi mf mn mx m Lc Li Lf Ln Lx (V.grow hb) xIx ac iIx hX hF hI bn e5 way5 ab F hs5 r hr);have HM:=hid V;have HN:=hid hN;have bo:=hid az;have cx:=hs.few;have cz:=QR e.args;obtain⟨⟨z0,z1,z2,z3,z4,z5,z6,z7,z8⟩,zf⟩:=Y4 (show w.heap[m]?=_ from V.box);clear V hp bi hX hF hI hN bn hC hs ht az;unfold spv ev at *;obtain⟨Z,ah⟩:=ez ((((T e.nm).getD 0:Nat):Int));have bf:(if false then Value.tuple #[(Xn e.nm Ln).getD (.int .i64 0),.bool (Xn e.nm Ln).isSome] else (Xn e.nm Ln).getD (.int .i64 0))=.int .i64 Z:=by rw[←ah,HN.out e.nm];cases T e.nm<;>rfl
 have aq:=hid bf;rw[ah];clear ah bf;go_enter func103,ntmps103;go_upto_region 1 with fail
 obtain⟨g,C⟩:=ez ((w.alloc (Kd e D cap f)).alloc (.cells #[.int .i64 0,.int .i64 0,.int .i64 0,.slice none 0 0] 65))
 change Code.wp _ _ _ _ ((w.alloc (Kd e D cap f)).alloc (.cells #[.int .i64 0,.int .i64 0,.int .i64 0,.slice none 0 0] 65))
 rw[C];have hB:Below w.heap.size w g:=by rw[←C];exact bq
 have cl:g.heap.size=w.heap.size+2:=by rw[←C];simp
 have ak:g.heap[w.heap.size]?=some (Kd e D cap f):=by rw[←C];exact(Za _ _ _ (by simp)).trans (Yw w _)
 have bj:g.heap[w.heap.size+1]?=some (.cells #[.int .i64 0,.int .i64 0,.int .i64 0,.slice none 0 0] 65 (0,0)):=by rw[←C];simpa using Yw (w.alloc (Kd e D cap f)) (.cells #[.int .i64 0,.int .i64 0,.int .i64 0,.slice none 0 0] 65)
 have ae:=HM.out.grow hB;have bt:=hid ae;clear z0 z1 z2 z3 z4 z5 z6 z7 z8 zf C;obtain⟨⟨z0,z1,z2,z3,z4,z5,z6,z7,z8⟩,zf⟩:=Y4 (show g.heap[m]?=_ from ae.box);obtain⟨⟨x0,x1,x2,x3,x4,x5,x6⟩,xf⟩:=Y7 ak;have HB:=hid hB;have aa:=hid ak;have ar:=hid bj;have cr:m<g.heap.size:=oq;have q:w.heap.size<g.heap.size:=oq;have ct:w.heap.size+1<g.heap.size:=oq;have dl:w.heap.size+2≤g.heap.size:=oq;clear hB ak bj ae cl;go_cut [5] (fun s5 W=>Hid (∃X,s5=.pointer (some ⟨X,0,none⟩)∧g.heap.size≤X∧W.heap[X]?=some (.cells #[.int .i64 Z,.int .i64 pp,.int .i64 ff,.slice none 0 0] 65 (0,0))∧Below g.heap.size g W))
 case first =>
  have KB:=hid (show ∀W:World,Below g.heap.size g W→(fun w'=>w'.cell? ⟨m,7,none⟩=some (.map (some mn))∧w'.cell? ⟨w.heap.size,0,none⟩=some (.int .i64 e.k)∧w'.cell? ⟨w.heap.size,1,none⟩=some (.string e.nm)∧w'.cell? ⟨w.heap.size,2,none⟩=some (.int .i64 e.n)∧w'.cell? ⟨w.heap.size,3,none⟩=some (.int .i64 e.d)∧w'.cell? ⟨w.heap.size,4,none⟩=some (.slice D e.args.len cap)∧w'.cell? ⟨w.heap.size,5,none⟩=some (.int .i64 e.a)∧(Instr.lookup 186 (.map (some mn)) (.string e.nm) false).run prog w'=.ok (.int .i64 Z) w') W from fun W hb=>by
   have h:=Qf Q1 (bt.out.nd.below hb) e.nm false;rw[aq.out]at h;exact⟨(hb.cell (p:=⟨m,7,none⟩) cr).trans z7,(hb.cell (p:=⟨w.heap.size,0,none⟩) q).trans x0,(hb.cell (p:=⟨w.heap.size,1,none⟩) q).trans x1,(hb.cell (p:=⟨w.heap.size,2,none⟩) q).trans x2,(hb.cell (p:=⟨w.heap.size,3,none⟩) q).trans x3,(hb.cell (p:=⟨w.heap.size,4,none⟩) q).trans x4,(hb.cell (p:=⟨w.heap.size,5,none⟩) q).trans x5,h⟩)
  clear z0 z1 z2 z3 z4 z5 z6 z7 z8 zf x0 x1 x2 x3 x4 x5 x6 xf;go_region_held3 (fun w'=>w'.cell? ⟨m,7,none⟩=some (.map (some mn))∧w'.cell? ⟨w.heap.size,0,none⟩=some (.int .i64 e.k)∧w'.cell? ⟨w.heap.size,1,none⟩=some (.string e.nm)∧w'.cell? ⟨w.heap.size,2,none⟩=some (.int .i64 e.n)∧w'.cell? ⟨w.heap.size,3,none⟩=some (.int .i64 e.d)∧w'.cell? ⟨w.heap.size,4,none⟩=some (.slice D e.args.len cap)∧w'.cell? ⟨w.heap.size,5,none⟩=some (.int .i64 e.a)∧(Instr.lookup 186 (.map (some mn)) (.string e.nm) false).run prog w'=.ok (.int .i64 Z) w') ((exact KB.out _ bq)) (first|(go_at_call 132;refine(L.out _ bq).mono ?_;rintro x w1 ⟨rfl,hb1⟩;have di:g.heap.size≤w1.heap.size:=(by have h:=hb1.size;first|exact h|(simp at h;omega));first|(have ag:w1.heap[g.heap.size]?=some (.cells #[.int .i64 0,.int .i64 0,.int .i64 0,.slice none 0 0] 65 (0,0)):=(hb1.block g.heap.size (by simp)).trans (Yw g.drew _);have ch:=Yx ag;obtain⟨⟨v0,v1,v2,v3⟩,vf⟩:=ch;have bs:=hid ag;clear ag)|skip))
  all_goals
   go_wp2_with fail;go_meet
   first|exact⟨_,rfl,(by first|exact Zc _|assumption|(simp;done)|omega),ZeC bs.out _ _ _ _,bq⟩|exact⟨_,rfl,(by first|exact Zc _|assumption|(simp;done)|omega),Yw _ _,bq⟩
 obtain⟨X,rfl,hX,ay,G⟩:=hcut.out;clear hcut z0 z1 z2 z3 z4 z5 z6 z7 z8 zf x0 x1 x2 x3 x4 x5 x6 xf;obtain⟨W3,rfl⟩:=ey wc;have ax:=hid (show Za2 w e f D cap X Z pp ff E 0 (.slice none 0 0) W3 from ⟨Zk _,oq,(G.block _ q).trans aa.out,(G.block _ ct).trans ar.out,ay,by rw[List.take_zero];exact Xt.nil,HB.out.trans (G.mono oq)⟩);have bm:=(G.block _ q).trans aa.out;obtain⟨⟨x0,x1,x2,x3,x4,x5,x6⟩,xf⟩:=Y7 bm;clear ay G hX bm aa ar aq L;go_wp2;go_loopw [24] (fun s24 wr=>Hid (∃(i:Nat)(v:Value),s24=.int .i64 (i:Int)∧Za2 w e f D cap X Z pp ff E i v wr)) (fun s24 _=>E.length-(intOf s24).toNat)
 case atStart=>exact⟨0,_,rfl,ax.out⟩
 obtain⟨i,v,rfl,H⟩:=hrel.out;clear hrel ax x0 x1 x2 x3 x4 x5 x6 xf;have J:=hid H;obtain⟨⟨y0,y1,y2,y3⟩,yf⟩:=Yx H.bx;have de:=H.le;have dd:=H.hX;have ck:=Zb H.bx;have R:=H.low.size;by_cases bg:i<E.length
 ·have cj:(i:Int)<(e.args.len:Int):=oq;obtain⟨⟨x0,x1,x2,x3,x4,x5,x6⟩,xf⟩:=Y7 H.b0;obtain⟨c,hc,_⟩:=PL.at_some e.args i oq;have ap:=hid (bo.out i c hc bg);obtain⟨⟨sx,ox⟩,am⟩:=ez (E[i]);rw[am]at ap;have cb:=hid am;have U:=hid (fun(w':World)(hb:Below wr.heap.size wr w')=>br.out w' (J.out.low.trans (hb.mono R)) i c hc);obtain⟨cs,r1,r2,r3,r4⟩:=H.row;have bl:(E.take i).length=i:=by rw[Yb];omega
  rw[bl]at r2;obtain⟨av,cv,rfl⟩:=YI r2;have bw:=hid r1;have au:=hid r2;have bz:=hid r3;have ca:=hid r4;obtain⟨i0,bb,bc,bd,be⟩:=info_parts uc;have M:=hid (Zh bb (Zh bc (Zh bd be)));obtain⟨k5,dm,n5,d5,cc,a5⟩:=c;simp only at U;clear H r1 r2 r3 r4 am hc bb bc bd be bl;go_upto_region 5 with fail
  have O:X<wr.heap.size:=ck;go_region_law (first|(refine step_append_lies _ (by rfl) _ _ _ (by rfl) w.heap.size 69 i0 _ 2 32 underlying63 M.out.1 M.out.2.1 M.out.2.2.1 M.out.2.2.2 rfl oq (.slice av i cv) i cs.flatten (by rfl) ((own_below au.out HB6.out).alloc _) ⟨w6.heap.size,0,none⟩ 1 1 [.int .i64 (sx:Int),.slice cd ox.length ce] (by rfl) (by rfl) (World.news_of_block (Zz _ _)) (by simp[Value.oneCell']) oq (by unfold maxLen;omega) oq (by simp;have:=HB6.out.size;omega) (w6.heap.size+1) (by simp) ?_;intro gg cu w4 I A cw da;have cg:=J.out.app bg HB6.out cb.out bv.out bw.out au.out bz.out ca.out I A;obtain⟨⟨dk,dj⟩,bh⟩:=cg;have bu:=hid bh;clear bh I A)|(go_simp;first|(go_at_call 100;refine(U.out _ bq).mono ?_;rintro x w5 ⟨⟨ab,F,rfl,Y⟩,hb5⟩;have y:Below wr.heap.size wr w5:=bq;obtain⟨⟨t0,t1,t2,t3⟩,tf⟩:=Yx ((y.block X O).trans J.out.bx);have aw:=hid Y;have HB5:=hid y;have cp:X<w5.heap.size:=Zd O y.size;have db:¬X=w5.heap.size:=Nat.ne_of_lt cp;clear hb5 y Y)|(go_at_call 104;refine(bp.out w5 (J.out.low.trans (HB5.out.mono R)) _ _ _ _ aw.out _ ap.out).mono ?_;rintro x w6 ⟨⟨v6,rfl,aj⟩,hb6⟩;obtain⟨cd,ce,rfl⟩:=YI aj;have z:Below wr.heap.size wr w6:=HB5.out.trans (hb6.mono HB5.out.size);obtain⟨⟨t0,t1,t2,t3⟩,tf⟩:=Yx ((z.block X O).trans J.out.bx);have bv:=hid (Xd aj (Zm R HB5.out.size));have HB6:=hid z;have cq:X<w6.heap.size:=Zd O z.size;have dc:¬X=w6.heap.size:=Nat.ne_of_lt cq;clear hb6 z aj)))
  all_goals
   go_wp2;exact⟨hid ⟨i+1,_,by go_num,bu.out⟩,by simp[intOf];omega⟩
 obtain⟨⟨q0,q1,q2,q3⟩,qf⟩:=Yx H.b1;have dh:¬X=w.heap.size+1:=oq;have cj:¬(i:Int)<(e.args.len:Int):=oq;clear H;obtain⟨⟨x0,x1,x2,x3,x4,x5,x6⟩,xf⟩:=Y7 J.out.b0;obtain⟨av,cv,ba⟩:=J.out.row.form;rw[show(E.take i).length=i by rw[Yb];omega]at ba;subst ba;go_wp2;have hu:=j4 wr (w.heap.size+1) (.int .i64 Z) (.int .i64 pp) (.int .i64 ff) (.slice av i cv);refine Zl (v:=.agg #[.int .i64 Z,.int .i64 pp,.int .i64 ff,.slice av i cv]) ?_ rfl ⟨⟨_,rfl,?_⟩,?_⟩
 ·simp only[results,results103];go_simp
 ·have hr:=J.out.row;rw[List.take_of_length_le oq]at hr;have bk:=Y6.of_upon J.out.b1 hu;exact hr.stays bk (by decide) (fun c x h=>h.stays bk (by decide))
 exact J.out.low.trans (hu.below R (ZX _ 1))
theorem kD{W:World}:∀(l:PL)(b o:Nat),AC W l b o→∃news:List Value,news.length=l.len*6∧(∀j,j<l.len*6→news[j]?=W.cell? ⟨b,o+j,none⟩∧(W.cell? ⟨b,o+j,none⟩).isSome)∧∀u∈news,u.oneCell'=true
 | .nil,b,o,_=>⟨[],by simp[PL.len],fun j h=>by simp[PL.len]at h,by simp⟩
 | .cons k nm n d args a tl,b,o,h=>by
  obtain⟨h0,h1,h2,h3,h5,hn,⟨ad,cap,h4,_⟩,ht⟩:=h;obtain⟨news,hl,hj,h1c⟩:=kD tl b (o+6) ht;refine⟨.int .i64 k::.string nm::.int .i64 n::.int .i64 d::.slice ad args.len cap::.int .i64 a::news,by simp only[Zp,hl,PL.len];omega,?_,?_⟩
  ·intro j hlt
   match j,hlt with
   | 0,_=>exact⟨h0.symm,by rw[Nat.add_zero,h0];rfl⟩
   | 1,_=>exact⟨h1.symm,by rw[h1];rfl⟩
   | 2,_=>exact⟨h2.symm,by rw[h2];rfl⟩
   | 3,_=>exact⟨h3.symm,by rw[h3];rfl⟩
   | 4,_=>exact⟨h4.symm,by rw[h4];rfl⟩
   | 5,_=>exact⟨h5.symm,by rw[h5];rfl⟩
   | j+6,hlt =>
    have:=hj j (by simp only[PL.len]at hlt;omega);rw[show o+6+j=o+(j+6) by omega]at this;exact this
  intro u hu;simp only[ZR]at hu;rcases hu with rfl|rfl|rfl|rfl|rfl|rfl|hu
  ·rfl
  ·rfl
  ·rfl
  ·rfl
  ·rfl
  ·rfl
  exact h1c u hu
theorem qt:(prog.info? 88).map (fun i=>(i.zero,i.size,i.bytes))=some (some (.agg #[.int .i64 0,.string ⟨#[]⟩,.int .i64 0,.int .i64 0,.slice none 0 0,.int .i64 0]),6,72):=by kernel_rfl
theorem Zgi(w w3:World)(e:TypeId)(size:Nat)(h:w.heap.size≤w3.heap.size):(w3.alloc (.cells #[] e)).ownsRow w.heap.size e size (.slice (some ⟨w3.heap.size,0,none⟩) 0 0) 0 [] :=
 ⟨by simp,.inr ⟨w3.heap.size,0,#[],rfl,h,Yw w3 _,Zc _,by unfold maxLen;omega,by simp,by simp⟩⟩
theorem Zew(f:Option Addr)(n cap:Nat)(w:World):(binOp BinOp.eql 86 (.slice f n cap) (.slice none 0 0)).run prog w=.ok (.bool f.isNone) w:=by cases f<;>kernel_rfl
def ClE(W0:World)(b o n base:Nat)(v:Value)(w':World):Prop:=∃ad' cap',v=.slice ad' n cap'∧n≤cap'∧(0<n→∃g cur,ad'=some ⟨g,0,none⟩∧base≤g∧w'.heap[g]?=some (.cells cur 88 (0,0))∧∀j,j<n*6→cur[j]?=W0.cell? ⟨b,o+j,none⟩)
theorem vC{W0 w:World}(l:PL)(D:Option Addr)(cap:Nat)(h:AS W0 l D)(hl:l.len≤1000)(R:Below W0.heap.size W0 w):
  Calls prog 131 #[.slice D l.len cap] w fun x w'=>(∃b o v,x=.returned v∧(0<l.len→D=some ⟨b,o,none⟩)∧ClE W0 b o l.len w.heap.size v w')∧Below w.heap.size w w':=by
 obtain⟨Y,G,H,I,J⟩:=info_parts qt
 cases D with
 | none =>
  have L:l.len=0:=by
   rcases h with rfl|⟨b,o,h,_⟩
   ·rfl
   cases h
  rw[L];have f:=fun w=>Zew none 0 cap w
  simp only[Option.isNone]at f;go_enter func131,ntmps131;go_wp2;go_ret;exact⟨⟨0,0,_,rfl,fun h=>absurd h oq,none,0,rfl,Zc _,fun h=>absurd h oq⟩,bq⟩
 | some adr =>
  obtain⟨b,o,news,q,C,A,M⟩:∃b o,∃news:List Value,(0<l.len→adr=⟨b,o,none⟩∧b<W0.heap.size)∧news.length=l.len*6∧(∀j,j<l.len*6→news[j]?=W0.cell? ⟨b,o+j,none⟩∧(W0.cell? ⟨b,o+j,none⟩).isSome)∧∀u∈news,u.oneCell'=true:=by
   rcases h with rfl|⟨b,o,h,hb,hac⟩
   ·exact⟨0,0,[],fun h=>absurd h (by simp[PL.len]),by simp[PL.len],fun j h=>by simp[PL.len]at h,by simp⟩
   obtain⟨news,T,U,V⟩:=kD l b o hac;exact⟨b,o,news,fun _=>⟨Option.some.inj h,hb⟩,T,U,V⟩
  have z:∀(w':World),Below W0.heap.size W0 w'→∀j u,news[j]?=some u→∃x:Addr,some adr=some x∧w'.cell? (x.add j)=some u:=by
   intro w' O j u y;have E:j<l.len*6:=by rw[←C];exact(ZA.1 y).1
   obtain⟨rfl,hb⟩:=q oq;refine⟨_,rfl,?_⟩;rw[show(⟨b,o,none⟩:Addr).add j=⟨b,o+j,none⟩ from by unfold Addr.add;split<;>simp_all];rw[O.cell (p:=⟨b,o+j,none⟩) hb,←(A j E).1,y]
  have f:=fun w=>Zew (some adr) l.len cap w
  simp only[Option.isNone]at f;go_enter func131,ntmps131;go_wp2_with (refine lite.X4 _ (by rfl) _ _ _ (by rfl) w.heap.size 88 Y _ 6 72 underlying86 G H I J rfl oq (.slice (some ⟨w.heap.size,0,none⟩) 0 0) 0 [] (by rfl) (Zgi w w _ _ (Zc _)) (some adr) l.len cap news (by rfl) C (z _ ((R.alloc (by have:=R.size;omega) _))) M (by unfold maxLen;omega) oq (by simp) ?_;intro Z w4 m F X);go_ret;have hb4:Below w.heap.size w w4:=Below.grown ((Zg w.heap.size w).alloc (Zc _) (.cells #[] 88)) F (by simp) (fun k e=>by simp[Value.ownBlock]at e;omega);refine⟨⟨b,o,Z,rfl,fun h=>by rw[(q h).1],?_⟩,hb4⟩;rw[ZD,ZM]at m;rcases m.2 with ⟨rfl,h0⟩|⟨g,cap1,cur,rfl,hbg,hg,hnc,hcm,hcs,htk⟩
  ·exact⟨none,0,by rw[h0],oq,fun h=>oq⟩
  refine⟨_,cap1,rfl,hnc,fun h=>⟨g,cur,rfl,hbg,hg,fun j E=>?_⟩⟩;rw[←(A j E).1,←htk,Yo E,Array.getElem?_toList]
theorem Zgp{cur:Array Value}{p:Nat}(z:p+6≤cur.size)(f g m q x y:Value):
  ∃c':Array Value,c'=(((((cur.setIfInBounds p f).setIfInBounds (p+1) g).setIfInBounds (p+2) m).setIfInBounds (p+3) q).setIfInBounds (p+4) x).setIfInBounds (p+5) y ∧
   (c'[p]?=some f∧c'[p+1]?=some g∧c'[p+2]?=some m∧c'[p+3]?=some q∧c'[p+4]?=some x∧c'[p+5]?=some y)∧∀j,j<p∨p+6≤j→c'[j]?=cur[j]?:=by
 have self:∀(c:Array Value)(i:Nat)(v:Value),i<c.size→(c.setIfInBounds i v)[i]?=some v:=fun c i v h=>by simp[Array.getElem?_setIfInBounds,h]
 have ne:∀(c:Array Value)(i j:Nat)(v:Value),i≠j→(c.setIfInBounds i v)[j]?=c[j]?:=fun c i j v h=>Array.getElem?_setIfInBounds_ne h
 refine⟨_,rfl,⟨?_,?_,?_,?_,?_,?_⟩,fun j hj=>?_⟩
 ·rw[ne _ _ _ _ oq,ne _ _ _ _ oq,ne _ _ _ _ oq,ne _ _ _ _ oq,ne _ _ _ _ oq];exact self _ _ _ oq
 ·rw[ne _ _ _ _ oq,ne _ _ _ _ oq,ne _ _ _ _ oq,ne _ _ _ _ oq];exact self _ _ _ (by simp only[Array.size_setIfInBounds];omega)
 ·rw[ne _ _ _ _ oq,ne _ _ _ _ oq,ne _ _ _ _ oq];exact self _ _ _ (by simp only[Array.size_setIfInBounds];omega)
 ·rw[ne _ _ _ _ oq,ne _ _ _ _ oq];exact self _ _ _ (by simp only[Array.size_setIfInBounds];omega)
 ·rw[ne _ _ _ _ oq];exact self _ _ _ (by simp only[Array.size_setIfInBounds];omega)
 ·exact self _ _ _ (by simp only[Array.size_setIfInBounds];omega)
 rw[ne _ _ _ _ oq,ne _ _ _ _ oq,ne _ _ _ _ oq,ne _ _ _ _ oq,ne _ _ _ _ oq,ne _ _ _ _ oq]
theorem Zgq{w:World}{g p:Nat}{cur:Array Value}{t:TypeId}(h:w.heap[g]?=some (.cells cur t (0,0)))(I:p+6≤cur.size)(f m q v x y:Value):
  (∃cur':Array Value,((((((w.setCell ⟨g,p,none⟩ f).setCell ⟨g,p+1,none⟩ m).setCell ⟨g,p+2,none⟩ q).setCell ⟨g,p+3,none⟩ v).setCell ⟨g,p+4,none⟩ x).setCell ⟨g,p+5,none⟩ y).heap[g]?=some (.cells cur' t (0,0))∧(cur'[p]?=some f∧cur'[p+1]?=some m∧cur'[p+2]?=some q∧cur'[p+3]?=some v∧cur'[p+4]?=some x∧cur'[p+5]?=some y)∧∀j,j<p∨p+6≤j→cur'[j]?=cur[j]?) ∧
   Upon g w ((((((w.setCell ⟨g,p,none⟩ f).setCell ⟨g,p+1,none⟩ m).setCell ⟨g,p+2,none⟩ q).setCell ⟨g,p+3,none⟩ v).setCell ⟨g,p+4,none⟩ x).setCell ⟨g,p+5,none⟩ y):=by
 have z:=Zj _ g p _ t f h;have A:=Zj _ g (p+1) _ t m z;have C:=Zj _ g (p+2) _ t q A;have D:=Zj _ g (p+3) _ t v C;have E:=Zj _ g (p+4) _ t x D;have F:=Zj _ g (p+5) _ t y E;obtain⟨J,rfl,G,H⟩:=Zgp I f m q v x y;exact⟨⟨_,F,G,H⟩,((((((Upon.refl g w).setAt (Or.inl rfl) _).setAt (Or.inl rfl) _).setAt (Or.inl rfl) _).setAt (Or.inl rfl) _).setAt (Or.inl rfl) _).setAt (Or.inl rfl) _⟩
def ElC(w:World)(P:Nat→Prop)(b p:Nat)(c:PE):Prop:=w.cell? ⟨b,p,none⟩=some (.int .i64 c.k)∧w.cell? ⟨b,p+1,none⟩=some (.string c.nm)∧w.cell? ⟨b,p+2,none⟩=some (.int .i64 c.n)∧w.cell? ⟨b,p+3,none⟩=some (.int .i64 c.d)∧w.cell? ⟨b,p+5,none⟩=some (.int .i64 c.a) ∧
 ∃ad cap,w.cell? ⟨b,p+4,none⟩=some (.slice ad c.args.len cap)∧c.args.len≤cap∧SlA w P c.args ad
theorem xV{w:World}{P:Nat→Prop}{b:Nat}:∀(l:PL)(o:Nat),(∀j c,l.at j=some c→ElC w P b (o+j*6) c)→JV w P b l o
 | .nil,o,_=>trivial
 | .cons k nm n d args a tl,o,h=>by
  obtain⟨h0,h1,h2,h3,h5,ad,cap,h4,hc,hs⟩:=h 0 ⟨k,nm,n,d,args,a⟩ rfl;rw[Nat.zero_mul,Nat.add_zero]at h0 h1 h2 h3 h4 h5;refine⟨h0,h1,h2,h3,h5,⟨ad,cap,h4,hc,hs⟩,xV tl (o+6) (fun j c hj=>?_)⟩;have:=h (j+1) c hj
  rwa [show o+(j+1)*6=o+6+j*6 by omega]at this
def zK(e:PE)(ad:Option Addr)(cap:Nat):Obj:=.cells #[.int .i64 e.k,.string e.nm,.int .i64 e.n,.int .i64 e.d,.slice ad e.args.len cap,.int .i64 e.a] 88 (0,0)
theorem V1{w:World}{b:Nat}{f g j m q v:Value}{t:TypeId}(h:w.heap[b]?=some (.cells #[f,g,j,m,q,v] t (0,0))):
  (w.cell? ⟨b,0,none⟩=some f∧w.cell? ⟨b,1,none⟩=some g∧w.cell? ⟨b,2,none⟩=some j∧w.cell? ⟨b,3,none⟩=some m∧w.cell? ⟨b,4,none⟩=some q∧w.cell? ⟨b,5,none⟩=some v)∧∀o,w.frozen? ⟨b,o,none⟩=false:=by
 refine⟨⟨?_,?_,?_,?_,?_,?_⟩,?_⟩
 all_goals first|(intro o;simp[World.frozen?,h])|simp[World.cell?,h]
theorem UT{w:World}{g:Nat}{cur:Array Value}{t:TypeId}(h:w.heap[g]?=some (.cells cur t (0,0)))(j:Nat):w.cell? ⟨g,j,none⟩=cur[j]?:=Z7 w g j cur t (0,0) h
structure vd (W0 w:World) (e:PE) (b o:Nat) (ad':Option Addr) (cap' i:Nat) (wr:World):Prop where
 le:i≤e.args.len
 b0:wr.heap[w.heap.size]?=some (zK e ad' cap')
 b1:wr.heap[w.heap.size+1]?=some (.cells #[.int .i64 0,.string ⟨#[]⟩,.int .i64 0,.int .i64 0,.slice none 0 0,.int .i64 0] 88 (0,0))
 row:0<e.args.len→∃g cur,ad'=some ⟨g,0,none⟩∧w.heap.size+2≤g∧wr.heap[g]?=some (.cells cur 88 (0,0))∧(∀j,i*6≤j→j<e.args.len*6→cur[j]?=W0.cell? ⟨b,o+j,none⟩)∧∀j c,j<i→e.args.at j=some c→ElC wr (fun k=>w.heap.size+2≤k∧k≠g) g (j*6) c
 low:Below w.heap.size w wr
theorem vd.next{W0 w:World}{e:PE}{b o g y i:Nat}{wr J:World}(h:vd W0 w e b o (some ⟨g,0,none⟩) y i wr)(hb:Below wr.heap.size wr J)(aa:i<e.args.len){c:PE}(hc:e.args.at i=some c)(I:(W0.cell? ⟨b,o+(i*6+5),none⟩).isSome){q:Option Addr}{f:Nat}(H:c.args.len≤f)(T:SlA J (fun k=>wr.heap.size≤k) c.args q):
  vd W0 w e b o (some ⟨g,0,none⟩) y (i+1) ((((((J.setCell ⟨g,i*6,none⟩ (.int .i64 c.k)).setCell ⟨g,i*6+1,none⟩ (.string c.nm)).setCell ⟨g,i*6+2,none⟩ (.int .i64 c.n)).setCell ⟨g,i*6+3,none⟩ (.int .i64 c.d)).setCell ⟨g,i*6+4,none⟩ (.slice q c.args.len f)).setCell ⟨g,i*6+5,none⟩ (.int .i64 c.a)):=by
 obtain⟨g',L,v,M,C,z,A⟩:=h.row oq;injection v with v
 injection v with v
 subst v;have R:=Zb C;have U:i*6+6≤L.size:=by
  have G:=z (i*6+5) oq oq;rw[←G]at I;obtain⟨x,hx⟩:=Option.isSome_iff_exists.1 I;have:=(Zq.1 hx).1;omega
 obtain⟨⟨F,G,⟨k0,k1,k2,k3,k4,k5⟩,V⟩,E⟩:=Zgq (p:=i*6) ((hb.block g R).trans C) U (.int .i64 c.k) (.string c.nm) (.int .i64 c.n) (.int .i64 c.d) (.slice q c.args.len f) (.int .i64 c.a);have hs:=hb.size;obtain⟨W,hW⟩:∃W,((((((J.setCell ⟨g,i*6,none⟩ (.int .i64 c.k)).setCell ⟨g,i*6+1,none⟩ (.string c.nm)).setCell ⟨g,i*6+2,none⟩ (.int .i64 c.n)).setCell ⟨g,i*6+3,none⟩ (.int .i64 c.d)).setCell ⟨g,i*6+4,none⟩ (.slice q c.args.len f)).setCell ⟨g,i*6+5,none⟩ (.int .i64 c.a))=W:=⟨_,rfl⟩;rw[hW]at G E ⊢;have D:Same (fun k=>w.heap.size+2≤k∧k≠g) wr W:=Same.upon (fun h=>h.2 rfl) E (Same.of_below hb (Same.refl _ _));refine⟨oq,(E.block _ oq oq).trans ((hb.block _ oq).trans h.b0),(E.block _ oq oq).trans ((hb.block _ oq).trans h.b1),fun _=>⟨g,F,rfl,M,G,fun j hj hj2=>?_,fun j c' hj hc'=>?_⟩,(h.low.trans (hb.mono h.low.size)).trans (E.below (by have:=h.low.size;omega) oq)⟩
 ·rw[V j oq];exact z j oq hj2
 have m:=fun r=>UT G r
 by_cases O:j=i
 ·subst O;rw[hc]at hc';injection hc' with hc'
  subst hc';refine⟨(m _).trans k0,(m _).trans k1,(m _).trans k2,(m _).trans k3,(m _).trans k5,q,f,(m _).trans k4,H,?_⟩;exact(T.mono (Q:=fun k=>w.heap.size+2≤k∧k≠g) (fun k hk _=>oq)).keep (Same.upon (fun h=>h.2 rfl) E (Same.refl _ _))
 obtain⟨Y,Z,d2,d3,d5,X,cap,d4,dc,ds⟩:=A j c' oq hc';have hold:∀r,r<6→W.cell? ⟨g,j*6+r,none⟩=wr.cell? ⟨g,j*6+r,none⟩:=fun r hr=>by
  rw[m,V _ oq,UT C]
 exact⟨(hold 0 oq).trans Y,(hold 1 oq).trans Z,(hold 2 oq).trans d2,(hold 3 oq).trans d3,(hold 5 oq).trans d5,X,cap,(hold 4 oq).trans d4,dc,ds.keep D⟩
theorem vd.all{W0 w:World}{e:PE}{b o q:Nat}{m:Option Addr}{wr:World}(h:vd W0 w e b o m q e.args.len wr):SlA wr (fun k=>w.heap.size+2≤k) e.args m:=by
 by_cases A:e.args.len=0
 ·refine .inl ?_
  cases hl:e.args with
  | nil=>rfl
  | cons=>rw[hl]at A;simp[PL.len]at A
 obtain⟨g,v,x,y,z,_,f⟩:=h.row oq;refine .inr ⟨g,0,x,⟨y,v,z⟩,xV _ _ (fun j c hj=>?_)⟩;rw[ZD];obtain⟨D,E,F,G,I,C,cap,H,J,L⟩:=f j c (K8 _ _ _ hj).1 hj;exact⟨D,E,F,G,I,C,cap,H,J,L.mono (fun k hk _=>hk.1)⟩
theorem vE{W0:World}:∀(M:Nat)(e:PE),e.args.sz<M→e.args.sz≤900→∀(w:World)(ad:Option Addr)(cap:Nat),AE W0 e ad cap→Below W0.heap.size W0 w →
  Calls prog 102 #[ev e ad cap] w fun x w'=>(∃ad' cap',x=.returned (ev e ad' cap')∧e.args.len≤cap'∧SlA w' (fun k=>w.heap.size≤k) e.args ad')∧Below w.heap.size w w':=by
 intro M
 induction M with
 | zero=>intro e h;omega
 | succ M ih =>
  intro e hM bz w ad cap H hB;have bk:=QR e.args;have ar:=hid (fun(w':World)(hb:Below W0.heap.size W0 w')=>vC (w:=w') e.args ad cap H.args oq hb);have bc:=hid ih;have ap:=hid H;have HB:=hid hB;have am:=hB.size;have bv:=H.len;clear ih H hB;unfold ev;go_enter func102,ntmps102;go_wp2_with (go_at_call 131;refine(ar.out _ (HB.out.trans ((bq:Below w.heap.size w _).mono am))).mono ?_;rintro x w1 ⟨⟨b,o,v,rfl,G,ad',cap',rfl,ak,V⟩,hb1⟩;have ab:w1.heap[w.heap.size]?=some (zK e ad cap):=(hb1.block _ (by simp;omega)).trans ((Za _ _ _ (by simp)).trans (Yw w _));have an:w1.heap[w.heap.size+1]?=some (.cells #[.int .i64 0,.string ⟨#[]⟩,.int .i64 0,.int .i64 0,.slice none 0 0,.int .i64 0] 88 (0,0)):=(hb1.block _ (by simp)).trans (by simpa using Yw (w.alloc _) _);obtain⟨⟨x0,x1,x2,x3,x4,x5⟩,xf⟩:=V1 ab);have bg:w.heap.size+2≤w1.heap.size:=by have:=hb1.size;simpa using this
  have T:Below w.heap.size w w1:=bq;obtain⟨W1,Y⟩:=ez (w1.setCell ⟨w.heap.size,4,none⟩ (.slice ad' e.args.len cap'));have ac:=hid (show vd W0 w e b o ad' cap' 0 W1 from by
   rw[←Y];have U:∀k,k≠w.heap.size→(w1.setCell ⟨w.heap.size,4,none⟩ (.slice ad' e.args.len cap')).heap[k]?=w1.heap[k]?:=fun k U=>Zr _ _ _ _ U
   refine⟨Zk _,?_,(U _ oq).trans an,fun h=>?_,T.setCell (p:=⟨w.heap.size,4,none⟩) (Zc _) _⟩
   ·unfold zK;have:=Zj _ w.heap.size 4 _ _ (.slice ad' e.args.len cap') ab;simpa only [sA,sB,sC] using this
   obtain⟨g,ag,h1,h2,h3,h4⟩:=V h;have hg:w.heap.size+2≤g:=by simpa using h2
   exact⟨g,ag,h1,hg,(U g oq).trans h3,fun j _ hj=>h4 j hj,fun j c hj=>absurd hj (Yl _)⟩)
  have ao:=hid G;have ae:=hid ak;rw[Y];clear Y ab an x0 x1 x2 x3 x4 x5 xf bg T hb1 V G;go_loopw [12] (fun v wr=>Hid (∃i:Nat,v=.int .i64 (i:Int)∧vd W0 w e b o ad' cap' i wr)) (fun i _=>e.args.len-(intOf i).toNat)
  case atStart=>exact⟨0,rfl,ac.out⟩
  obtain⟨i,rfl,hC⟩:=hrel.out;clear hrel ac;have C:=hid hC;obtain⟨⟨x0,x1,x2,x3,x4,x5⟩,xf⟩:=V1 hC.b0;have bf:=hC.low.size;clear hC;by_cases J:i<e.args.len
  ·have bs:(i:Int)<(e.args.len:Int):=oq;obtain⟨g,ag,rfl,hg,I,A,_⟩:=C.out.row oq;have G:=ao.out oq;subst G;obtain⟨c,hc,_⟩:=PL.at_some _ _ J;obtain⟨b',o',Z,bo,aj⟩:∃b' o',some (⟨b,o,none⟩:Addr)=some ⟨b',o',none⟩∧b'<W0.heap.size∧AC W0 e.args b' o':=by
    rcases ap.out.args with h0|h0
    ·rw[h0]at J;simp[PL.len]at J
    exact h0
   injection Z with Z
   injection Z with hbo1 hbo2
   subst hbo1;subst hbo2;obtain⟨D,y,y0,y1,y2,y3,y4,y5,R⟩:=kC _ aj i c hc;have m:∀r,r<6→wr.cell? ⟨g,i*6+r,none⟩=W0.cell? ⟨b,o+i*6+r,none⟩:=fun r hr=>by
    rw[UT I,A _ oq oq,Nat.add_assoc]
   have e0:=(m 0 oq).trans y0;have e1:=(m 1 oq).trans y1;have e2:=(m 2 oq).trans y2;have e3:=(m 3 oq).trans y3;have e4:=(m 4 oq).trans y4;have e5:=(m 5 oq).trans y5;rw[Nat.add_zero]at e0;have bl:=(K8 _ _ _ hc).2;have af:=hid (fun(w':World)(hb:Below W0.heap.size W0 w')=>bc.out c oq oq w' D y R hb);unfold ev at af;have br:¬g=w.heap.size:=oq;have bi:¬g=w.heap.size+1:=oq;have q:=Zb I;have aq:=hid hc;have au:=hid (show(W0.cell? ⟨b,o+(i*6+5),none⟩).isSome from by rw[←Nat.add_assoc,y5];rfl);have bb:=hid I;have bm:=hid A;clear I A aj hc m y0 y1 y2 y3 y4 y5 R;go_wp2;obtain⟨O,F⟩:=ez (wr.alloc (zK c D y));have E:Below wr.heap.size wr O:=by rw[←F];exact bq
   have aa:O.heap[wr.heap.size]?=some (zK c D y):=by rw[←F];exact Yw wr _
   have bx:wr.heap.size<O.heap.size:=Zb aa
   change Code.wp _ _ _ _ (wr.alloc (zK c D y))
   rw[F];have ah:=(E.block _ oq).trans C.out.b0;have av:=hid e0;have aw:=hid e1;have ax:=hid e2;have ay:=hid e3;have az:=hid e4;have ba:=hid e5;clear x0 x1 x2 x3 x4 x5 xf e0 e1 e2 e3 e4 e5 F;obtain⟨⟨x0,x1,x2,x3,x4,x5⟩,xf⟩:=V1 ah;obtain⟨⟨z0,z1,z2,z3,z4,z5⟩,zf⟩:=V1 aa;have HB5:=hid E;have bd:=hid (show Below W0.heap.size W0 O from HB.out.trans ((C.out.low.trans (E.mono bf)).mono am));clear E aa ah;have bt:w.heap.size<O.heap.size:=oq;have bu:g<O.heap.size:=oq;have bj:(0:Int)≤(i:Int):=oq;go_region_law (go_simp;first|(go_at_call 102;refine(af.out _ bd.out.drew).mono ?_;rintro x w6 ⟨⟨bn,bh,rfl,z,X⟩,hb6⟩;have L:=hid (Zh z (X.mono (Q:=fun k=>wr.heap.size≤k) (fun k U _=>Zm (show wr.heap.size≤O.heap.size by omega) U)));clear z X;have f:Below wr.heap.size wr w6:=HB5.out.drew.trans (hb6.mono (by show wr.heap.size≤O.heap.size;omega));have ai:=(f.block _ oq).trans C.out.b0;obtain⟨⟨r0,r1,r2,r3,r4,r5⟩,rf⟩:=V1 ai;have al:=(f.block g q).trans bb.out;have s0:=(f.cell (p:=⟨g,i*6,none⟩) q).trans av.out;have s1:=(f.cell (p:=⟨g,i*6+1,none⟩) q).trans aw.out;have s2:=(f.cell (p:=⟨g,i*6+2,none⟩) q).trans ax.out;have s3:=(f.cell (p:=⟨g,i*6+3,none⟩) q).trans ay.out;have s4:=(f.cell (p:=⟨g,i*6+4,none⟩) q).trans az.out;have s5:=(f.cell (p:=⟨g,i*6+5,none⟩) q).trans ba.out;have bp:∀r,w6.frozen? ⟨g,r,none⟩=false:=(fun r=>by simp[World.frozen?,al]);have HB6:=hid f;clear hb6 f ai al))
   all_goals
    go_wp2;have hX:=C.out.next HB6.out J aq.out au.out L.out.1 L.out.2;exact⟨hid ⟨i+1,by go_num,hX⟩,by simp[intOf];omega⟩
  have bw:=C.out.le;obtain⟨⟨q0,q1,q2,q3,q4,q5⟩,qf⟩:=V1 C.out.b1;go_wp2;have be:i=e.args.len:=oq;subst be;refine Zl (v:=ev e ad' cap') ?_ rfl ⟨⟨ad',cap',rfl,ae.out,?_⟩,?_⟩
  ·simp only[results,results102,ev];go_simp
  ·refine SlA.mono (SlA.keep C.out.all ?_) (fun k U _=>Zm (ZX _ 2) U);exact(((((Same.refl _ _).setCell (by show ¬_≤_;omega) _).setCell (by show ¬_≤_;omega) _).setCell (by show ¬_≤_;omega) _).setCell (by show ¬_≤_;omega) _).setCell (by show ¬_≤_;omega) _ |>.setCell (by show ¬_≤_;omega) _
  exact(((((C.out.low.setCell (p:=⟨w.heap.size+1,0,none⟩) (ZX _ 1) _).setCell (p:=⟨w.heap.size+1,1,none⟩) (ZX _ 1) _).setCell (p:=⟨w.heap.size+1,2,none⟩) (ZX _ 1) _).setCell (p:=⟨w.heap.size+1,3,none⟩) (ZX _ 1) _).setCell (p:=⟨w.heap.size+1,4,none⟩) (ZX _ 1) _).setCell (p:=⟨w.heap.size+1,5,none⟩) (ZX _ 1) _
def Sty(e:TypeId)(X Y:World):Prop:=∀(k:Nat)(o:Obj),X.heap[k]?=some o→(∀cur fz,o≠.cells cur e fz)→Y.heap[k]?=some o
theorem Sty.stays{e:TypeId}{X Y:World}(h:Sty e X Y):Y6 e X Y:=fun k cur t fz hk ht=>h k _ hk (fun cur' fz' he=>by injection he with h1 h2 h3;exact ht h2)
theorem Sty.of_below{e:TypeId}{X Y:World}(hb:Below X.heap.size X Y):Sty e X Y:=fun k o hk _=>(hb.block k (Zb hk)).trans hk
theorem Sty.trans{e:TypeId}{X Y Z:World}(h:Sty e X Y)(g:Sty e Y Z):Sty e X Z:=fun k o hk ho=>g k o (h k o hk ho) ho
theorem Vf{wr j w4:World}{base:Nat}{e:TypeId}{size n:Nat}{v:Value}{xs:List Value}{ob:Obj}(f:wr.ownsRow base e size v n xs)(hb:Below wr.heap.size wr j)(x:(j.alloc ob).grownBy w4 v.ownBlock):
  Sty e wr w4∧Sty e j w4∧(∀B,B≤base→B≤wr.heap.size→Below B wr w4)∧wr.heap.size≤w4.heap.size:=by
 obtain⟨_,y,z⟩:=UQ f hb x;have key:Sty e j w4:=fun k o hk ho=>by
  have q:(j.alloc ob).heap[k]?=some o:=(Za _ _ _ (Zb hk)).trans hk;refine(x.block k (Zb q) (fun he=>?_)).trans q;have m:=own_below f hb;rcases m.2 with ⟨rfl,_⟩|⟨g,cap,cur',rfl,hbg,hgg,_⟩
  ·cases he
  simp[Value.ownBlock]at he;subst he;rw[hk]at hgg;injection hgg with hgg
  exact ho _ _ hgg
 exact⟨(Sty.of_below hb).trans key,key,y,z⟩
structure FtI (w:World) (m bs B:Nat) (Ds:List Nat) (vI vN vT vL:Value) (I:List (Int×Int)) (Nn:List ND) (T:List TK) (L:List TL) (X:World):Prop where
 low:Below w.heap.size w X
 hbs:w.heap.size+3≤bs
 size:bs≤B
 bsize:B≤X.heap.size
 b0:Boxed X w.heap.size 123 (.pointer (some ⟨m,0,none⟩))
 b1:X.heap[w.heap.size+1]?=some (.cells #[.slice none 0 0,.slice none 0 0,.slice none 0 0,.slice none 0 0] 34 (0,0))
 b2:X.heap[w.heap.size+1+1]?=some (.cells #[vI,vN,vT,vL] 34 (0,0))
 rI:Xt xH 62 2 X bs vI I
 rN:Xt UK 90 10 X bs vN Nn
 rT:Xt (QX bs) 65 4 X bs vT T
 rL:Xt (Je bs) 71 5 X bs vL L
 marks:Mks w.heap.size Ds X
 under:∀D∈Ds,D<B
section
variable {w:World} {m bs B:Nat} {Ds:List Nat} {vI vN vT vL:Value} {I:List (Int×Int)} {Nn:List ND} {T:List TK} {L:List TL} {X Y:World}
theorem Mks.sty{n₀:Nat}{e:TypeId}(h:Mks n₀ Ds X)(hs:Sty e X Y):Mks n₀ Ds Y :=
 ⟨fun D hD=>⟨(h.1 D hD).1,hs D _ (h.1 D hD).2 (fun _ _ he=>by cases he)⟩,h.2⟩
theorem Sty.cells{e t:TypeId}(hs:Sty e X Y){k:Nat}{cs:Array Value}{fz:Nat×Nat}(h:X.heap[k]?=some (.cells cs t fz))(hne:t≠e):Y.heap[k]?=some (.cells cs t fz):=hs.stays k cs t fz h hne
theorem FtI.over(h:FtI w m bs B Ds vI vN vT vL I Nn T L X)(hs:Sty 4 X Y)(hlow:Below w.heap.size w Y)(hsz:X.heap.size≤Y.heap.size):FtI w m bs B Ds vI vN vT vL I Nn T L Y :=
 ⟨hlow,h.hbs,h.size,Zm h.bsize hsz,hs.cells h.b0 (by decide),hs.cells h.b1 (by decide),hs.cells h.b2 (by decide),h.rI.stays hs.stays (by decide) (fun c x hc=>hc),h.rN.stays hs.stays (by decide) (fun c x hc=>hc.stays hs.stays (by decide) (by decide)),
  h.rT.stays hs.stays (by decide) (fun c x hc=>hc.stays hs.stays (by decide) (by decide)),h.rL.stays hs.stays (by decide) (fun c x hc=>hc.stays hs.stays (by decide)),h.marks.sty hs,h.under⟩
theorem FtI.keep(h:FtI w m bs B Ds vI vN vT vL I Nn T L X)(hb:Below X.heap.size X Y):FtI w m bs B Ds vI vN vT vL I Nn T L Y :=
 h.over (Sty.of_below hb) (h.low.trans (hb.mono h.low.size)) hb.size
theorem FtI.more(h:FtI w m bs B Ds vI vN vT vL I Nn T L X){B':Nat}(h1:B≤B')(h2:B'≤X.heap.size):FtI w m bs B' Ds vI vN vT vL I Nn T L X :=
 ⟨h.low,h.hbs,Zm h.size h1,h2,h.b0,h.b1,h.b2,h.rI,h.rN,h.rT,h.rL,h.marks,fun D hD=>Zd (h.under D hD) h1⟩
theorem FtI.own{row:Option Nat}(h:FtI w m bs B Ds vI vN vT vL I Nn T L X)(j:X.grownBy Y row)(v:∀r,row=some r→B≤r∧∃o:Obj,X.heap[r]?=some o∧o.isCells=false):FtI w m bs B Ds vI vN vT vL I Nn T L Y:=by
 have hb:=Q2 j v h.bsize;have y:=h.hbs;have z:=h.size;have key:∀(k:Nat)(cur:Array Value)(t:TypeId)(fz:Nat×Nat),X.heap[k]?=some (.cells cur t fz)→Y.heap[k]?=some (.cells cur t fz):=fun k cur t fz hk=>by
  refine(j.block k (Zb hk) (fun e=>?_)).trans hk;obtain⟨_,o,q,f⟩:=v k e.symm;rw[hk]at q;cases q;cases f
 have g:Y6 4 X Y:=fun k cur t fz hk _=>key k cur t fz hk
 exact⟨h.low.trans (hb.mono oq),y,z,Zm h.bsize hb.size,key _ _ _ _ h.b0,key _ _ _ _ h.b1,key _ _ _ _ h.b2,h.rI.stays g (by decide) (fun c x f=>f),h.rN.stays g (by decide) (fun c x f=>f.stays g (by decide) (by decide)),
  h.rT.stays g (by decide) (fun c x f=>f.stays g (by decide) (by decide)),h.rL.stays g (by decide) (fun c x f=>f.stays g (by decide)),
  ⟨fun D hD=>⟨(h.marks.1 D hD).1,(hb.block D (h.under D hD)).trans (h.marks.1 D hD).2⟩,h.marks.2⟩,h.under⟩
theorem FtI.mark(h:FtI w m bs B Ds vI vN vT vL I Nn T L X){D:Nat}(j:B≤D)(f:X.heap[D]?=some (.deferred (some []))):FtI w m bs X.heap.size (D::Ds) vI vN vT vL I Nn T L X:=by
 have q:=h.size;have g:=h.hbs;refine⟨h.low,g,Zm h.size h.bsize,Zc _,h.b0,h.b1,h.b2,h.rI,h.rN,h.rT,h.rL,⟨fun D' hD'=>?_,List.nodup_cons.2 ⟨fun hm=>?_,h.marks.2⟩⟩,fun D' hD'=>?_⟩
 ·rcases ZR.1 hD' with rfl|hm
  ·exact⟨oq,f⟩
  exact h.marks.1 D' hm
 ·have:=h.under D hm;omega
 rcases ZR.1 hD' with rfl|hm
 ·exact Zb f
 have:=h.under D' hm;have:=h.bsize;omega
theorem gF{w:World}{b:Nat}{f g j m:Value}{t:TypeId}(h:w.heap[b]?=some (.cells #[f,g,j,m] t (0,0)))(u:Value):
  (w.setCell ⟨b,0,none⟩ u).heap[b]?=some (.cells #[u,g,j,m] t (0,0))∧(w.setCell ⟨b,1,none⟩ u).heap[b]?=some (.cells #[f,u,j,m] t (0,0))∧(w.setCell ⟨b,2,none⟩ u).heap[b]?=some (.cells #[f,g,u,m] t (0,0))∧(w.setCell ⟨b,3,none⟩ u).heap[b]?=some (.cells #[f,g,j,u] t (0,0)):=by
 have q:=Zj _ b 0 _ t u h;have v:=Zj _ b 1 _ t u h;have x:=Zj _ b 2 _ t u h;have y:=Zj _ b 3 _ t u h;refine⟨?_,?_,?_,?_⟩
 ·simpa only [sA,sB,sC] using q
 ·simpa only [sA,sB,sC] using v
 ·simpa only [sA,sB,sC] using x
 simpa only [sA,sB,sC] using y
theorem GJ{e:TypeId}{w:World}{b o:Nat}{cur:Array Value}{fz:Nat×Nat}(h:w.heap[b]?=some (.cells cur e fz))(u:Value):Sty e w (w.setCell ⟨b,o,none⟩ u):=fun k ob hk ho=>by
 refine(Zr _ _ _ _ (fun he=>?_)).trans hk;have he:k=b:=he;subst he;rw[h]at hk;injection hk with hk
 exact ho _ _ hk.symm
theorem FtI.appI(h:FtI w m bs B Ds vI vN vT vL I Nn T L X){F w4:World}(hb6:Below X.heap.size X F){y:List (List Value)}{n:Nat}(O:I.length=n)(Y:y.length=I.length)(G:X.ownsRow bs 62 2 vI n y.flatten)(Z:∀c∈y,c.length=2)
  (r4:∀j (hj:j<I.length) (M:j<y.length),xH X y[j] I[j]){c:List Value}(A:c.length=2){x:Int×Int}(V:xH F c x){ob:Obj}{v':Value}(v:w4.ownsRow bs 62 2 v' (n+1) (y.flatten++c))(C:(F.alloc ob).grownBy w4 vI.ownBlock):
  (w4.cell? ⟨w.heap.size+1+1,0,none⟩=some vI∧w4.frozen? ⟨w.heap.size+1+1,0,none⟩=false)∧FtI w m bs B Ds v' vN vT vL (I++[x]) Nn T L (w4.setCell ⟨w.heap.size+1+1,0,none⟩ v')∧Sty 62 X w4∧Below w.heap.size X w4:=by
 subst O;obtain⟨g,R,z,U⟩:=Vf G hb6 C;have H:=h.hbs;have J:=h.size;have h3:=h.bsize;have D:=h.low.size;have E:xH w4 c x:=V;have hb2:=g.cells h.b2 (by decide);have f:Sty 34 w4 (w4.setCell ⟨w.heap.size+1+1,0,none⟩ v'):=GJ hb2 v';have q:∀k,k≠w.heap.size+1+1→(w4.setCell ⟨w.heap.size+1+1,0,none⟩ v').heap[k]?=w4.heap[k]?:=fun k hk=>Zr _ _ _ _ (fun e=>hk e)
 have hb4:Below w.heap.size X w4:=z _ oq D;refine⟨⟨by simp[World.cell?,hb2],by simp[World.frozen?,hb2]⟩,⟨(h.low.trans hb4).setCell (p:=⟨w.heap.size+1+1,0,none⟩) (by show w.heap.size≤w.heap.size+1+1;omega) _,H,J,?_,?_,?_,(gF hb2 v').1,?_,?_,?_,?_,?_,h.under⟩,g,hb4⟩
 ·have:=((Zg 0 w4).setCell (p:=⟨w.heap.size+1+1,0,none⟩) (Zk _) v').size;omega
 ·exact(q _ oq).trans (g.cells h.b0 (by decide))
 ·exact(q _ oq).trans (g.cells h.b1 (by decide))
 ·exact(Ju (w4:=w4) (Pe:=xH) Y G Z r4 (fun c x hc=>hc) A E v).stays f.stays (by decide) (fun c x hc=>hc)
 ·exact(h.rN.stays g.stays (by decide) (fun c x hc=>hc.stays g.stays (by decide) (by decide))).stays f.stays (by decide) (fun c x hc=>hc.stays f.stays (by decide) (by decide))
 ·exact(h.rT.stays g.stays (by decide) (fun c x hc=>hc.stays g.stays (by decide) (by decide))).stays f.stays (by decide) (fun c x hc=>hc.stays f.stays (by decide) (by decide))
 ·exact(h.rL.stays g.stays (by decide) (fun c x hc=>hc.stays g.stays (by decide))).stays f.stays (by decide) (fun c x hc=>hc.stays f.stays (by decide))
 exact(h.marks.sty g).sty f
theorem FtI.appN(h:FtI w m bs B Ds vI vN vT vL I Nn T L X){G w4:World}(hb6:Below X.heap.size X G){y:List (List Value)}{n:Nat}(R:Nn.length=n)(Y:y.length=Nn.length)(H:X.ownsRow bs 90 10 vN n y.flatten)(Z:∀c∈y,c.length=10)
  (r4:∀j (hj:j<Nn.length) (O:j<y.length),UK X y[j] Nn[j]){c:List Value}(A:c.length=10){x:ND}(V:UK G c x){ob:Obj}{v':Value}(v:w4.ownsRow bs 90 10 v' (n+1) (y.flatten++c))(C:(G.alloc ob).grownBy w4 vN.ownBlock):
  (w4.cell? ⟨w.heap.size+1+1,1,none⟩=some vN∧w4.frozen? ⟨w.heap.size+1+1,1,none⟩=false)∧FtI w m bs B Ds vI v' vT vL I (Nn++[x]) T L (w4.setCell ⟨w.heap.size+1+1,1,none⟩ v')∧Sty 90 X w4∧Below w.heap.size X w4:=by
 subst R;obtain⟨g,E,z,U⟩:=Vf H hb6 C;have J:=h.hbs;have M:=h.size;have h3:=h.bsize;have D:=h.low.size;have F:UK w4 c x:=V.stays E.stays (by decide) (by decide);have hb2:=g.cells h.b2 (by decide);have f:Sty 34 w4 (w4.setCell ⟨w.heap.size+1+1,1,none⟩ v'):=GJ hb2 v';have q:∀k,k≠w.heap.size+1+1→(w4.setCell ⟨w.heap.size+1+1,1,none⟩ v').heap[k]?=w4.heap[k]?:=fun k hk=>Zr _ _ _ _ (fun e=>hk e)
 have hb4:Below w.heap.size X w4:=z _ oq D;refine⟨⟨by simp[World.cell?,hb2],by simp[World.frozen?,hb2]⟩,⟨(h.low.trans hb4).setCell (p:=⟨w.heap.size+1+1,1,none⟩) (by show w.heap.size≤w.heap.size+1+1;omega) _,J,M,?_,?_,?_,(gF hb2 v').2.1,?_,?_,?_,?_,?_,h.under⟩,g,hb4⟩
 ·have:=((Zg 0 w4).setCell (p:=⟨w.heap.size+1+1,1,none⟩) (Zk _) v').size;omega
 ·exact(q _ oq).trans (g.cells h.b0 (by decide))
 ·exact(q _ oq).trans (g.cells h.b1 (by decide))
 ·exact(h.rI.stays g.stays (by decide) (fun c x hc=>hc)).stays f.stays (by decide) (fun c x hc=>hc)
 ·exact(Ju (w4:=w4) (Pe:=UK) Y H Z r4 (fun c x hc=>hc.stays g.stays (by decide) (by decide)) A F v).stays f.stays (by decide) (fun c x hc=>hc.stays f.stays (by decide) (by decide))
 ·exact(h.rT.stays g.stays (by decide) (fun c x hc=>hc.stays g.stays (by decide) (by decide))).stays f.stays (by decide) (fun c x hc=>hc.stays f.stays (by decide) (by decide))
 ·exact(h.rL.stays g.stays (by decide) (fun c x hc=>hc.stays g.stays (by decide))).stays f.stays (by decide) (fun c x hc=>hc.stays f.stays (by decide))
 exact(h.marks.sty g).sty f
theorem FtI.appT(h:FtI w m bs B Ds vI vN vT vL I Nn T L X){G w4:World}(hb6:Below X.heap.size X G){y:List (List Value)}{n:Nat}(R:T.length=n)(Y:y.length=T.length)(H:X.ownsRow bs 65 4 vT n y.flatten)(Z:∀c∈y,c.length=4)
  (r4:∀j (hj:j<T.length) (O:j<y.length),(QX bs) X y[j] T[j]){c:List Value}(A:c.length=4){x:TK}(V:QX bs G c x){ob:Obj}{v':Value}(v:w4.ownsRow bs 65 4 v' (n+1) (y.flatten++c))(C:(G.alloc ob).grownBy w4 vT.ownBlock):
  (w4.cell? ⟨w.heap.size+1+1,2,none⟩=some vT∧w4.frozen? ⟨w.heap.size+1+1,2,none⟩=false)∧FtI w m bs B Ds vI vN v' vL I Nn (T++[x]) L (w4.setCell ⟨w.heap.size+1+1,2,none⟩ v')∧Sty 65 X w4∧Below w.heap.size X w4:=by
 subst R;obtain⟨g,E,z,U⟩:=Vf H hb6 C;have J:=h.hbs;have M:=h.size;have h3:=h.bsize;have D:=h.low.size;have F:(QX bs) w4 c x:=V.stays E.stays (by decide) (by decide);have hb2:=g.cells h.b2 (by decide);have f:Sty 34 w4 (w4.setCell ⟨w.heap.size+1+1,2,none⟩ v'):=GJ hb2 v';have q:∀k,k≠w.heap.size+1+1→(w4.setCell ⟨w.heap.size+1+1,2,none⟩ v').heap[k]?=w4.heap[k]?:=fun k hk=>Zr _ _ _ _ (fun e=>hk e)
 have hb4:Below w.heap.size X w4:=z _ oq D;refine⟨⟨by simp[World.cell?,hb2],by simp[World.frozen?,hb2]⟩,⟨(h.low.trans hb4).setCell (p:=⟨w.heap.size+1+1,2,none⟩) (by show w.heap.size≤w.heap.size+1+1;omega) _,J,M,?_,?_,?_,(gF hb2 v').2.2.1,?_,?_,?_,?_,?_,h.under⟩,g,hb4⟩
 ·have:=((Zg 0 w4).setCell (p:=⟨w.heap.size+1+1,2,none⟩) (Zk _) v').size;omega
 ·exact(q _ oq).trans (g.cells h.b0 (by decide))
 ·exact(q _ oq).trans (g.cells h.b1 (by decide))
 ·exact(h.rI.stays g.stays (by decide) (fun c x hc=>hc)).stays f.stays (by decide) (fun c x hc=>hc)
 ·exact(h.rN.stays g.stays (by decide) (fun c x hc=>hc.stays g.stays (by decide) (by decide))).stays f.stays (by decide) (fun c x hc=>hc.stays f.stays (by decide) (by decide))
 ·exact(Ju (w4:=w4) (Pe:=(QX bs)) Y H Z r4 (fun c x hc=>hc.stays g.stays (by decide) (by decide)) A F v).stays f.stays (by decide) (fun c x hc=>hc.stays f.stays (by decide) (by decide))
 ·exact(h.rL.stays g.stays (by decide) (fun c x hc=>hc.stays g.stays (by decide))).stays f.stays (by decide) (fun c x hc=>hc.stays f.stays (by decide))
 exact(h.marks.sty g).sty f
theorem FtI.appL(h:FtI w m bs B Ds vI vN vT vL I Nn T L X){G w4:World}(hb6:Below X.heap.size X G){y:List (List Value)}{n:Nat}(R:L.length=n)(Y:y.length=L.length)(H:X.ownsRow bs 71 5 vL n y.flatten)(Z:∀c∈y,c.length=5)
  (r4:∀j (hj:j<L.length) (O:j<y.length),(Je bs) X y[j] L[j]){c:List Value}(A:c.length=5){x:TL}(V:Je bs G c x){ob:Obj}{v':Value}(v:w4.ownsRow bs 71 5 v' (n+1) (y.flatten++c))(C:(G.alloc ob).grownBy w4 vL.ownBlock):
  (w4.cell? ⟨w.heap.size+1+1,3,none⟩=some vL∧w4.frozen? ⟨w.heap.size+1+1,3,none⟩=false)∧FtI w m bs B Ds vI vN vT v' I Nn T (L++[x]) (w4.setCell ⟨w.heap.size+1+1,3,none⟩ v')∧Sty 71 X w4∧Below w.heap.size X w4:=by
 subst R;obtain⟨g,E,z,U⟩:=Vf H hb6 C;have J:=h.hbs;have M:=h.size;have h3:=h.bsize;have D:=h.low.size;have F:(Je bs) w4 c x:=V.stays E.stays (by decide);have hb2:=g.cells h.b2 (by decide);have f:Sty 34 w4 (w4.setCell ⟨w.heap.size+1+1,3,none⟩ v'):=GJ hb2 v';have q:∀k,k≠w.heap.size+1+1→(w4.setCell ⟨w.heap.size+1+1,3,none⟩ v').heap[k]?=w4.heap[k]?:=fun k hk=>Zr _ _ _ _ (fun e=>hk e)
 have hb4:Below w.heap.size X w4:=z _ oq D;refine⟨⟨by simp[World.cell?,hb2],by simp[World.frozen?,hb2]⟩,⟨(h.low.trans hb4).setCell (p:=⟨w.heap.size+1+1,3,none⟩) (by show w.heap.size≤w.heap.size+1+1;omega) _,J,M,?_,?_,?_,(gF hb2 v').2.2.2,?_,?_,?_,?_,?_,h.under⟩,g,hb4⟩
 ·have:=((Zg 0 w4).setCell (p:=⟨w.heap.size+1+1,3,none⟩) (Zk _) v').size;omega
 ·exact(q _ oq).trans (g.cells h.b0 (by decide))
 ·exact(q _ oq).trans (g.cells h.b1 (by decide))
 ·exact(h.rI.stays g.stays (by decide) (fun c x hc=>hc)).stays f.stays (by decide) (fun c x hc=>hc)
 ·exact(h.rN.stays g.stays (by decide) (fun c x hc=>hc.stays g.stays (by decide) (by decide))).stays f.stays (by decide) (fun c x hc=>hc.stays f.stays (by decide) (by decide))
 ·exact(h.rT.stays g.stays (by decide) (fun c x hc=>hc.stays g.stays (by decide) (by decide))).stays f.stays (by decide) (fun c x hc=>hc.stays f.stays (by decide) (by decide))
 ·exact(Ju (w4:=w4) (Pe:=(Je bs)) Y H Z r4 (fun c x hc=>hc.stays g.stays (by decide)) A F v).stays f.stays (by decide) (fun c x hc=>hc.stays f.stays (by decide))
 exact(h.marks.sty g).sty f
end
def flE(p:PG)(j:Nat):PE:=match p.flows[j]? with
 | some f=>f.e
 | none=>⟨0,ByteArray.empty,0,0,.nil,0⟩
noncomputable def tkR(p:PG)(xIx fIx iIx nIx:IE)(env:Env)(s:PE×ByteArray):TK :=
 ⟨(((nIx s.1.nm).getD 0:Nat):Int),(UY (XB env) s.1).1,(UY (XB env) s.1).2,(XI s.1.args s.2 0).map (fun k=>((JQ p xIx fIx iIx k.1 k.2).1,(JQ p xIx fIx iIx k.1 k.2).2.reverse))⟩
noncomputable def tlR(p:PG)(xIx fIx iIx:IE)(env:Env)(o:OU):TL :=
 ⟨(XB env o.fl).1,(XB env o.fl).2,(JQ p xIx fIx iIx (flE p ((fIx o.fl).getD 0)) (dg ((fIx o.fl).getD 0))).1,(JQ p xIx fIx iIx (flE p ((fIx o.fl).getD 0)) (dg ((fIx o.fl).getD 0))).2.reverse,o.dl⟩
end Go.Proofs.YtgigilkpndhddaaGreatDoor.syn
