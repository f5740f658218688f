/- Parts of the proof. -/
import Derived.Test.YtdgifkjaflfdeaaGreatDoorX10
import Derived.Test.YtdgifkjaflfdeaaGreatDoorX13
import Derived.Test.YtdgifkjaflfdeaaGreatDoorX16
set_option linter.all false
set_option maxRecDepth 100000
set_option maxHeartbeats 16000000
namespace Go.Proofs.YtdgifkjaflfdeaaGreatDoor.syn
open Tryz
open Go.RowKit
theorem Zhe:∀(l:List IN)(e:Env),RtE e->(∀x∈l,clock.YG x.per x.ph=true)->RtE (J5 l e):=by
 intro l
 induction l with
 | nil=>intro e h _;exact h
 | cons x l ih =>
  intro e h g;refine ih _ (fun nm c hc=>?_) (fun y hy=>g y (List.mem_cons_of_mem _ hy));unfold upd at hc;by_cases f:nm=x.nm
  .rw[Z3 f] at hc;injection hc with hc;rw[<-hc];exact g x List.mem_cons_self
  rw[Z2 f] at hc;exact h nm c hc
theorem ZeJ{ins:List IN}(h:∀x∈ins,clock.YG x.per x.ph=true):RtE (Xb ins):=Zhe ins _ (fun nm c hc=>by cases hc) h
theorem GrE.trans{a:Env}{f:List FL}{b c:Env}(h:GrE a f b)(k:GrE b f c):GrE a f c:=by
 induction k with
 | base=>exact h
 | step _ h1 h2 h3 ih=>exact .step ih h1 h2 h3
structure UE (p:PG) (env:Env):Prop where
 rt:RtE env
 ext:ZdM (Xb p.ins) env
 gr:GrE (Xb p.ins) p.flows env
 calls:XY env p.flows=true
 flows:∀f∈p.flows,FcS env f
def Zfr(w:World)(p:PG)(x:Ending)(w':World):Prop :=
 ((∃a e,e≠0/\x=.returned (.tuple #[.slice none 0 0,.int .i64 a,.int .i64 e]))\/∃v env,x=.returned (.tuple #[v,.int .i64 0,.int .i64 0])/\UE p env/\Zfs w' v (p.flows.map (fun f=>Jo env f.nm)))/\Below w.1.size w w'
def L2G(w W:World)(mb:Nat)(p:PG)(v:Value)(wr:World):Prop :=
 ∃(j:Nat)(env:Env)(L:List (ByteArray × Value)),v=.int .i64 (j:Int)/\j<=4/\CW w W wr mb/\YT wr mb L/\XW L env/\RtE env/\ZdM (Xb p.ins) env/\GrE (Xb p.ins) p.flows env/\(2<=j->∀f∈p.flows,∃c,env f.nm=some c)/\(3<=j->XY env p.flows=true)/\(4<=j->∀f∈p.flows,FcS env f)
theorem Kt{x:Ending}(h:yz x):∃a e,e≠0/\(e == 0)=false/\x=.returned (.tuple #[.int .i64 a,.int .i64 e]):=by
 obtain⟨a,e,f,g⟩:=h;exact⟨a,e,f,ZZ.2 f,g⟩
theorem Ep{w:World}(p:PG)(an ai af ao:OA)(cn ci cf co:Nat)(hp:AP w p an ai af ao cn ci cf co)(hs:zx p.nodes+zd p.flows<=8000)(hl:p.flows.length<=1000)(hI:∀x∈p.ins,clock.YG x.per x.ph=true) :
  Calls prog 30 #[pv p an ai af ao cn ci cf co] w (Zfr w p):=by
 obtain⟨nodes,ins,flows,I⟩:=p;have bk:=ZeJ hI;simp only at hs hl bk;have bg:=hid (fun(w':World) (hb:Below w.1.size w w')=>Jr ⟨nodes,ins,flows,I⟩ an ai af ao cn ci cf co (hp.below hb) hs);unfold pv at bg;simp only at bg;have HI:=hid hp.ins;have HF:=hid hp.flows;have y:=hp.caps;simp only at y;have dd:ins.length<=9223372036854775807:=oq;have dc:flows.length<=9223372036854775807:=oq;have ck:=hid bk;clear hp hI bk;unfold pv;simp only;have de:=fun w=>run_makeMap (P:=prog) 162 w
 go_enter func30,ntmps30;go_wp2_with (go_at_call 75;refine(bg.o _ bq).mono ?_;rintro x w1 ⟨rfl,hb1⟩;obtain⟨cr,cu⟩:=YE hb1;have b1:w.1.size<w1.1.size:=Yz hb1 oq);have HB1:=hid hb1;have be:(w1.alloc (.map #[] 0)).1[w.1.size]?=some (.cells #[.slice an nodes.length cn,.slice ai ins.length ci,.slice af flows.length cf,.slice ao I.length co] 27 (0,0)):=(Za _ _ _ b1).trans ((hb1.block _ oq).trans (Yx w _));have ah:=hid (show CW w (w1.alloc (.map #[] 0)) (w1.alloc (.map #[] 0)) w1.1.size from ⟨Upon.refl _ _,by simp;omega,bq,b1⟩);have bi:=hid (YT.new w1);have ak:=hid be;generalize w1.alloc (.map #[] 0)=W1 at *;obtain⟨V,bz⟩:=ez w1.1.size;rw[bz] at b1 ah bi ⊢;clear bz cr cu hb1 HB1 be;go_loopw [22] (fun v wr=>Hid (ZgI w W1 V ins v wr)) (fun i _=>ins.length-(intOf i).toNat)
 case atStart=>exact⟨0,fun _=>none,[],rfl,Zk _,ah.o,bi.o,ZbY,rfl⟩
 obtain⟨i,env,L,rfl,hi,z,J,hE,Z⟩:=hrel.o;clear hrel;have HM:=hid J;have m:=hid z;have HE:=hid hE;have g:=z.low;have ca:=J.lt;have q:=g.size;have A:=(z.upon.block _ (Zb ak.o) oq).trans ak.o;obtain⟨⟨p0,p1,p2,p3⟩,pf⟩:=Yy A;have ax:=hid A;have H:=Zb A;clear z J hE A;by_cases ar:i<ins.length
 .obtain⟨bb,oo,rfl,ac,bd⟩:=HI.o.at ar;have bw:=bd.later g ac;rw[gC ar] at Z;obtain⟨f,hf⟩:=ez (ins[i]);rw[hf] at bw Z;obtain⟨nm,per,ph,fa⟩:=f;obtain⟨y0,y1,y2,y3,_⟩:=bw;simp only at y0 y1 y2 y3;have cd:=hid (show J5 (ins.drop (i+1)) (upd env nm (per,ph))=Xb ins from Z);have ap:(i:Int)<(ins.length:Int):=oq;have cq:bb<wr.1.size:=oq;clear bd Z g;go_wp2_with (at_mapUpdate;refine XE Xy _ rfl _ _ _ rfl V L nm (cvv (per,ph)) rfl rfl rfl (HM.o.below bq) ?_;intro arr clock cy);refine⟨⟨i+1,upd env nm (per,ph),_,by go_num,oq,⟨m.o.upon.trans (YR ((Upon.refl _ _).alloc _) _),m.o.size,m.o.below,b1⟩,cy,HE.o.put nm (per,ph),cd.o⟩,by simp[intOf];omega⟩
 have ap:i=ins.length:=oq;subst ap;have ct:env=Xb ins:=by rw[Yq] at Z;exact Z
 subst ct;clear Z;obtain⟨W2,X⟩:∃W2,wr.alloc (Obj.cells #[.func (.func 76) #[.map (some V)] #[],.func (.func 77) #[.map (some V)] #[],.func (.func 78) #[.map (some V)] #[],.func (.func 79) #[.map (some V)] #[]] 163)=W2:=⟨_,rfl⟩;obtain⟨fb,ay⟩:=ez wr.1.size;go_wp2
 try rw[X]
 have bp:=hid (show W2.1[fb]?=some _ from by rw[<-X,<-ay];exact Yx wr _);have cz:W2.1.size=fb+1:=by rw[<-X,<-ay];simp
 have az:=hid (show W2.1[w.1.size]?=some (.cells #[.slice an nodes.length cn,.slice ai ins.length ci,.slice af flows.length cf,.slice ao I.length co] 27 (0,0)) from by rw[<-X];exact(Za _ _ _ H).trans ax.o);have bo:=hid (show CW w W2 W2 V from ⟨Upon.refl _ _,oq,by rw[<-X];exact g.alloc q _,b1⟩);have cg:=hid (show YT W2 V L from by rw[<-X];exact HM.o.below bq);rw[ay] at ca;clear X ay g q H p0 p1 p2 p3 pf ax HM m ak bi ah;go_loopw [45] (fun v wr=>Hid (L2G w W2 V ⟨nodes,ins,flows,I⟩ v wr)) (fun i _=>4-(intOf i).toNat)
 case atStart=>exact⟨0,Xb ins,L,rfl,oq,bo.o,cg.o,HE.o,ck.o,fun _ _ h=>h,.base,fun h=>absurd h oq,fun h=>absurd h oq,fun h=>absurd h oq⟩
 obtain⟨j,env,L2,rfl,hj,z,J,hE,R,hex,bl,E,F,aa⟩:=hrel.o;clear hrel;simp only at hex bl E F aa;have aw:=hid bl;have bj:=hid R;have av:=hid hex;have g:=z.low;have q:=g.size;have A:=(z.upon.block _ (Zb az.o) oq).trans az.o;have G:=(z.upon.block _ (Zb bp.o) oq).trans bp.o;obtain⟨⟨p0,p1,p2,p3⟩,pf⟩:=Yy A;obtain⟨⟨q0,q1,q2,q3⟩,qf⟩:=Yy G;have ax:=hid A;have D:=HF.o.below Vs g;have HM:=hid J;have au:=hid hE;have m:=hid z
 match j,hj with
 | 0,_ =>
  have HC:=hid (Zb4 (W0:=w) (w:=wr) flows af cf V L2 env g (Nat.le_of_lt b1) HF.o y.2.2.1.1 y.2.2.1.2 J hE R);have aj:=hid E;have bh:=hid F;clear z J hE D A G R hex E F aa g;go_wp2_with (go_at_call 76;refine HC.o.mono ?_;rintro x w3 ⟨C,cb⟩;unfold Ul at C;rcases C with C|⟨rfl,L3,env3,hM3,hE3,hR3,hX3,hG3⟩;obtain⟨ab,eb,U,al,rfl⟩:=Kt C)
  all_goals first|(go_ret3;exact⟨.inl ⟨ab,eb,U,rfl⟩,m.o.low.trans (cb.below q (Nat.le_of_lt b1))⟩)|exact⟨⟨1,env3,L3,by go_num,oq,⟨m.o.upon.trans cb,m.o.size,m.o.below,b1⟩,hM3,hE3,hR3,fun nm c h=>hX3 nm c (av.o nm c h),aw.o.trans hG3,fun h=>absurd h oq,fun h=>absurd h oq,fun h=>absurd h oq⟩,by simp[intOf]⟩
 | 1,_ =>
  have HC:=hid (yG (w:=wr) flows af cf V L2 env D y.2.2.1.1 y.2.2.1.2 J hE);have aj:=hid E;have bh:=hid F;clear z J hE D A G R hex E F aa g;go_wp2_with (go_at_call 77;refine HC.o.mono ?_;rintro x w3 ⟨C,hb3⟩;unfold Ul at C;rcases C with C|⟨rfl,hall⟩;obtain⟨ab,eb,U,al,rfl⟩:=Kt C)
  all_goals first|(go_ret3;exact⟨.inl ⟨ab,eb,U,rfl⟩,m.o.low.trans (hb3.mono q)⟩)|exact⟨⟨2,env,L2,by go_num,oq,⟨m.o.upon.trans (Upon.of_below hb3),m.o.size,m.o.below,b1⟩,HM.o.below hb3,au.o,bj.o,av.o,aw.o,fun _=>hall,fun h=>absurd h oq,fun h=>absurd h oq⟩,by simp[intOf]⟩
 | 2,_ =>
  have HC:=hid (yD (w:=wr) flows af cf V L2 env D y.2.2.1.1 y.2.2.1.2 J hE);have aj:=hid (E oq);clear z J hE D A G R hex E F aa g
  cases hck:XY env flows with
  | false =>
   rw[hck] at HC;go_wp2_with (go_at_call 78;go_loud (refine HC.o.mono ?_;rintro x w3 ⟨⟨ab,eb,U,rfl⟩,hb3⟩;have al:(eb == 0)=false:=ZZ.2 U));go_ret3;exact⟨.inl ⟨ab,eb,U,rfl⟩,m.o.low.trans (hb3.mono q)⟩
  | true =>
   rw[hck] at HC;go_wp2_with (go_at_call 78;go_loud (refine HC.o.mono ?_;rintro x w3 ⟨he,hb3⟩;obtain rfl:x=.returned (.tuple #[.int .i64 0,.int .i64 0]):=he));refine⟨⟨3,env,L2,by go_num,oq,⟨m.o.upon.trans (Upon.of_below hb3),m.o.size,m.o.below,b1⟩,HM.o.below hb3,au.o,bj.o,av.o,aw.o,fun _=>aj.o,fun _=>hck,fun h=>absurd h oq⟩,by simp[intOf]⟩
 | 3,_ =>
  have HC:=hid (yF (w:=wr) flows af cf V L2 env D y.2.2.1.1 y.2.2.1.2 J hE (E oq) R);have aj:=hid E;have bh:=hid F;clear z J hE D A G R hex E F aa g;go_wp2_with (go_at_call 79;refine HC.o.mono ?_;rintro x w3 ⟨C,hb3⟩;unfold Ul at C;rcases C with C|⟨rfl,hfc⟩;obtain⟨ab,eb,U,al,rfl⟩:=Kt C)
  all_goals first|(go_ret3;exact⟨.inl ⟨ab,eb,U,rfl⟩,m.o.low.trans (hb3.mono q)⟩)|exact⟨⟨4,env,L2,by go_num,oq,⟨m.o.upon.trans (Upon.of_below hb3),m.o.size,m.o.below,b1⟩,HM.o.below hb3,au.o,bj.o,av.o,aw.o,fun _=>aj.o oq,fun _=>bh.o oq,fun _=>hfc⟩,by simp[intOf]⟩
 | 4,_ =>
  have bc:=E oq;have br:=hid bc;have cc:=hid (show UE ⟨nodes,ins,flows,I⟩ env from ⟨R,hex,bl,F oq,aa oq⟩);obtain⟨W3,Y⟩:=ez (wr.alloc (.cells (madeCells #[.int .i64 0,.int .i64 0] (flows.length*2)) 50));obtain⟨b,hb⟩:=ez wr.1.size;have H:=Zb A;have bm:=J.lt;have bf:W3.1[w.1.size]?=some (.cells #[.slice an nodes.length cn,.slice ai ins.length ci,.slice af flows.length cf,.slice ao I.length co] 27 (0,0)):=by rw[<-Y];exact(Za _ _ _ H).trans A
  obtain⟨⟨r0,r1,r2,r3⟩,rf⟩:=Yy bf;clear z J hE D G R hex E F aa bc;go_wp2_with (at_make;refine Zbi _ rfl _ _ rfl flows.length rfl rfl hl ?_)
  try rw[Y]
  try rw[hb]
  have bt:W3.1[b]?=some (.cells (madeCells #[.int .i64 0,.int .i64 0] (flows.length*2)) 50 (0,0)):=by rw[<-Y,<-hb];exact Yx wr _
  have HB3:=hid bt;have da:W3.1.size=b+1:=by rw[<-Y,<-hb];simp
  have aq:Below w.1.size w W3:=by rw[<-Y];exact g.alloc q _
  have bs:=hid aq;have ch:=hid (show YT W3 V L2 from by rw[<-Y];exact HM.o.below bq);rw[hb] at bm H q;clear Y hb aq g bt A bf HM ax m p0 p1 p2 p3 pf q0 q1 q2 q3 qf r0 r1 r2 r3 rf;go_loopw [68] (fun v wr=>Hid (ZgJ w W3 V b env L2 flows v wr)) (fun i _=>flows.length-(intOf i).toNat)
  case atStart=>exact⟨0,_,rfl,Zk _,Upon.refl _ _,HB3.o,Zaw _,fun j h hj=>absurd hj oq⟩
  obtain⟨i,arr,rfl,hi,ae,T,bu,O⟩:=hrel.o;clear hrel;have g:=bs.o.trans (ae.below oq (Nat.le_of_lt H));have q:=g.size;have db:=ae.size;have cl:=hid ae;have ag:=hid T;have M:=zJ T;have J:=ch.o.upon ae oq;have bn:=hid O;by_cases ar:i<flows.length
  .obtain⟨bb,oo,rfl,ac,ba⟩:=HF.o.at ar;have am:=ba.later g ac;obtain⟨c,hc⟩:=br.o flows[i] (Zi ar);obtain⟨f,hf⟩:=ez (flows[i]);have ce:=hid hf;rw[hf] at am hc;obtain⟨nm,⟨k1,nm1,n1,d1,cm,a1⟩,fa⟩:=f;obtain⟨ad,cap,y0,y1,y2,y3,y4,y5,y6,y7,cp,cv⟩:=am.cells;obtain⟨c1,c2⟩:=c;have HG:=hid (show Xm nm L2=some (.agg #[.int .i64 c1,.int .i64 c2]) by rw[au.o nm,hc];rfl);have ap:(i:Int)<(flows.length:Int):=oq;have cq:bb<wr.1.size:=oq;have bv:b<wr.1.size:=Zb T;have z0:wr.cell? ⟨b,i*2,none⟩=some arr[i*2]:=by rw[(M _).1];exact Yo oq
   have z1:wr.cell? ⟨b,i*2+1,none⟩=some arr[i*2+1]:=by rw[(M _).1];exact Yo oq
   have df:=(M (i*2)).2;have dg:=(M (i*2+1)).2;have cj:=hid J;have HC:=hid hc;clear ae T O M J am ba hf hc cp cv g ac;go_wp2_with (at_lookup;refine Kh Xy _ rfl _ _ rfl V L2 nm _ rfl rfl (cj.o.below bq) HG.o ?_);refine⟨⟨i+1,_,by go_num,oq,((cl.o.setAt (.inl rfl) _).setAt (.inl rfl) _).alloc _,(Za _ _ _ (by simpa [World.setCell] using bv)).trans (qd (qd ag.o (i*2) (.int .i64 c1)) (i*2+1) (.int .i64 c2)),by simpa using bu,fun j hj hji=>?_⟩,by simp[intOf];omega⟩;by_cases cx:j<i
   .have h:=bn.o j hj cx;rw[Array.getElem?_setIfInBounds_ne oq,Array.getElem?_setIfInBounds_ne oq,Array.getElem?_setIfInBounds_ne oq,Array.getElem?_setIfInBounds_ne oq];exact h
   have cw:j=i:=oq;subst cw;have hk:Jo env flows[j].nm=(c1,c2):=by rw[ce.o];unfold Jo;rw[HC.o];rfl
   rw[hk];rw[Array.getElem?_setIfInBounds_ne oq,Array.getElem?_setIfInBounds_self_of_lt oq,Array.getElem?_setIfInBounds_self_of_lt (by rw[Array.size_setIfInBounds];omega)];exact⟨rfl,rfl⟩
  have ap:i=flows.length:=oq;subst ap;clear ae T O M J;go_wp2;go_ret3;refine⟨.inr ⟨_,env,rfl,cc.o,b,by simp,Zb ag.o,fun j hj=>?_⟩,g⟩;have bx:j<flows.length:=by simpa using hj
  have h:=bn.o j bx bx;have M:=zJ ag.o;refine⟨(M _).1.trans ?_,(M _).1.trans ?_⟩
  .rw[h.1];simp
  rw[h.2];simp
 | j+5,h=>exact absurd h oq
theorem ZeV{c:Nat}:∀l:List ND,(∀x∈l,x.body.sz<=c)->zx l<=l.length*c:=by
 intro l
 induction l with
 | nil=>intro _;simp[zx]
 | cons x l ih =>
  intro h;have f:=h x (by simp);have g:=ih (fun y hy=>h y (by simp[hy]));unfold PE.sz at f;simp only[zx,Zp,Nat.succ_mul];omega
theorem ZeU{c:Nat}:∀l:List FL,(∀x∈l,x.e.sz<=c)->zd l<=l.length*c:=by
 intro l
 induction l with
 | nil=>intro _;simp[zd]
 | cons x l ih =>
  intro h;have f:=h x (by simp);have g:=ih (fun y hy=>h y (by simp[hy]));unfold PE.sz at f;simp only[zd,Zp,Nat.succ_mul];omega
theorem yq{l:PL}(h:szL l 1 100<=100):l.sz+1<=100:=by
 have:=Zgr l 1 100 oq oq h;omega
structure JW (p:PG):Prop where
 nodes:∀x∈p.nodes,UC x.body/\x.body.sz<=100
 flows:∀x∈p.flows,x.e.sz<=100/\YF x.e=true
 lens:p.nodes.length<=40/\p.ins.length<=40/\p.flows.length<=40/\p.outs.length<=40
 sums:zx p.nodes+zd p.flows<=8000
 ins:∀x∈p.ins,clock.YG x.per x.ph=true
theorem Vf.ok{p:PG}(h:Vf p):JW p:=by
 have y:=h.lens;have f:∀x∈p.nodes,UC x.body/\x.body.sz<=100:=fun x hx=>⟨eX (h.nodes x hx).2.2.2.2,yq (h.nodes x hx).1⟩
 have g:∀x∈p.flows,x.e.sz<=100/\YF x.e=true:=fun x hx=>⟨yq (h.flows x hx).1,(h.flows x hx).2⟩
 refine⟨f,g,oq,?_,fun x hx=>?_⟩
 .have q:=ZeV p.nodes (fun x hx=>(f x hx).2);have v:=ZeU p.flows (fun x hx=>(g x hx).1);omega
 obtain⟨j,m⟩:=h.ins x hx;simp only[inB,ZC,Yl] at j m;exact clock.Qd ⟨oq,oq,oq,oq⟩
def Zhl(W2:World)(v:Value)(wr:World):Prop:=∃j:Nat,v=.int .i64 (j:Int)/\j<=4/\Below W2.1.size W2 wr
theorem ZaA{w:World}(p:PG)(an A z C:OA)(F E D G:Nat)(J:AP w p an A z C F E D G)(hz:NZ w p.nodes an)(I:JW p) :
  Calls prog 191 #[pv p an A z C F E D G] w fun x w'=>Qq x/\Below w.1.size w w':=by
 obtain⟨nodes,ins,f,g⟩:=p;have O:∀w',Below w.1.size w w'->NZ w' nodes an:=fun w' hb=>hz.below J.nodes hb
 have L:=hid (fun(w':World) (hb:Below w.1.size w w')=>Jr ⟨nodes,ins,f,g⟩ an A z C F E D G (J.below hb) I.sums);have H0:=hid (fun(w':World) (hb:Below w.1.size w w')=>yH (w:=w') nodes ins f g an A z C F E D G (J.below hb) (O w' hb) I.nodes);have H1:=hid (fun(w':World) (hb:Below w.1.size w w')=>Eg (w:=w') nodes ins f g an A z C F E D G (J.below hb));have H2:=hid (fun(w':World) (hb:Below w.1.size w w')=>yE (w:=w') nodes ins f g an A z C F E D G (J.below hb));have H3:=hid (fun(w':World) (hb:Below w.1.size w w')=>Ef (w:=w') nodes ins f g an A z C F E D G (J.below hb));clear J I hz O;unfold pv Qq at *;simp only at L H0 H1 H2 H3 ⊢;go_enter func191,ntmps191;go_wp2_with (go_at_call 75;refine(L.o _ bq).mono ?_;rintro x T ⟨rfl,hb1⟩;obtain⟨Z,aa⟩:=YE hb1;have b1:w.1.size<T.1.size:=Yz hb1 oq);obtain⟨M,q⟩:=ez (T.alloc (Obj.cells #[.func (.func 233) #[] #[],.func (.func 234) #[] #[],.func (.func 235) #[] #[],.func (.func 236) #[] #[]] 326));obtain⟨fb,y⟩:=ez T.1.size;have V:=hid (show M.1[w.1.size]?=some (.cells #[.slice an nodes.length F,.slice A ins.length E,.slice z f.length D,.slice C g.length G] 27 (0,0)) from by rw[<-q];exact(Za _ _ _ b1).trans ((hb1.block _ oq).trans (Yx w _)));have U:=hid (show M.1[fb]?=some _ from by rw[<-q,<-y];exact Yx T _);have HB2:=hid (show Below w.1.size w M from by rw[<-q];exact bq);have ab:M.1.size=fb+1:=by rw[<-q,<-y];simp
 rw[y] at b1
 try rw[q]
 try rw[y]
 clear q y hb1 Z aa;go_loopw [13] (fun v wr=>Hid (Zhl M v wr)) (fun i _=>4-(intOf i).toNat)
 case atStart=>exact⟨0,rfl,oq,Zg _ _⟩
 obtain⟨j,rfl,hj,hbel⟩:=hrel.o;clear hrel;have m:=hbel.size;have R:=(hbel.block _ oq).trans V.o;have H:=(hbel.block _ oq).trans U.o;obtain⟨⟨p0,p1,p2,p3⟩,pf⟩:=Yy R;obtain⟨⟨q0,q1,q2,q3⟩,qf⟩:=Yy H;have HBW:=hid (HB2.o.trans (hbel.mono oq));have HB:=hid hbel;clear R H hbel
 match j,hj with
 | 0,_ =>
  go_wp2_with (go_at_call 233;refine(H0.o _ HBW.o).mono ?_;rintro x w3 ⟨⟨X,Y,rfl⟩,hb3⟩;have HB3:=hid hb3;clear hb3)
  .go_ret2;exact⟨⟨_,_,rfl⟩,HBW.o.trans (HB3.o.mono (by have:=HBW.o.size;omega))⟩
  refine⟨⟨1,by go_num,oq,HB.o.trans (HB3.o.mono m)⟩,by simp[intOf]⟩
 | 1,_ =>
  go_wp2_with (go_at_call 234;refine(H1.o _ HBW.o).mono ?_;rintro x w3 ⟨⟨X,Y,rfl⟩,hb3⟩;have HB3:=hid hb3;clear hb3)
  .go_ret2;exact⟨⟨_,_,rfl⟩,HBW.o.trans (HB3.o.mono (by have:=HBW.o.size;omega))⟩
  refine⟨⟨2,by go_num,oq,HB.o.trans (HB3.o.mono m)⟩,by simp[intOf]⟩
 | 2,_ =>
  go_wp2_with (go_at_call 235;refine(H2.o _ HBW.o).mono ?_;rintro x w3 ⟨⟨X,Y,rfl⟩,hb3⟩;have HB3:=hid hb3;clear hb3)
  .go_ret2;exact⟨⟨_,_,rfl⟩,HBW.o.trans (HB3.o.mono (by have:=HBW.o.size;omega))⟩
  refine⟨⟨3,by go_num,oq,HB.o.trans (HB3.o.mono m)⟩,by simp[intOf]⟩
 | 3,_ =>
  go_wp2_with (go_at_call 236;refine(H3.o _ HBW.o).mono ?_;rintro x w3 ⟨⟨X,Y,rfl⟩,hb3⟩;have HB3:=hid hb3;clear hb3)
  .go_ret2;exact⟨⟨_,_,rfl⟩,HBW.o.trans (HB3.o.mono (by have:=HBW.o.size;omega))⟩
  refine⟨⟨4,by go_num,oq,HB.o.trans (HB3.o.mono m)⟩,by simp[intOf]⟩
 | 4,_ =>
  go_wp2;go_ret2;exact⟨⟨_,_,rfl⟩,HBW.o⟩
 | j+5,h=>exact absurd h oq
theorem e8{w:World}(p:PG)(an q m y:OA)(C A z D:Nat)(E:AP w p an q m y C A z D)(J:NZ w p.nodes an)(f:JW p) :
  Calls prog 136 #[pv p an q m y C A z D] w (Zfr w p):=by
 have j:=hid (fun(w':World) (hb:Below w.1.size w w')=>ZaA (w:=w') p an q m y C A z D (E.below hb) (J.below E.nodes hb) f);have g:=hid (fun(w':World) (hb:Below w.1.size w w')=>Ep (w:=w') p an q m y C A z D (E.below hb) f.sums (by have:=f.lens;omega) f.ins);obtain⟨nodes,ins,F,L⟩:=p;clear E J f;unfold pv at *;unfold Qq at j;unfold Zfr at g ⊢;simp only at j g ⊢;go_enter func136,ntmps136;go_wp2_with (first|(go_at_call 191;refine(j.o _ bq).mono ?_;rintro x T ⟨⟨M,I,rfl⟩,hb1⟩;obtain⟨O,R⟩:=YE hb1;have U:w.1.size<T.1.size:=Yz hb1 oq)|(go_at_call 30;refine(g.o _ bq).mono ?_;rintro x V ⟨H,hb2⟩;rcases H with ⟨a2,e2,he2,rfl⟩|⟨v,env,rfl,hcf,hrow⟩))
 .have G:I≠0:=by rename_i hq;simpa using hq
  go_ret3;exact⟨.inl ⟨M,I,G,rfl⟩,bq⟩
 .go_ret3;exact⟨.inl ⟨a2,e2,he2,rfl⟩,bq⟩
 go_ret3;exact⟨.inr ⟨v,env,rfl,hcf,hrow⟩,bq⟩
def dg(i:Nat):ByteArray:=⟨(Lib.decDigits i).toArray⟩
theorem Vi{i:Nat}(h:i<100):(dg i).size<=2:=by
 unfold dg;show((Lib.decDigits i).toArray).size<=2;by_cases f:i<10
 .rw[Lib.decDigits_one f];simp
 rw[Lib.decDigits_two f h];simp
theorem qJ{i:Nat}(h:i<100)(w:World):Calls prog 194 #[.int .i64 i] w fun e w'=>e=.returned (.string (dg i))/\w'=w:=Tryz.strconv_Itoa_small i h w
def spv(e:PE)(ad:OA)(cap:Nat)(way:ByteArray):Value:=.agg #[.int .i64 e.k,.string e.nm,.int .i64 e.n,.int .i64 e.d,.slice ad e.args.len cap,.int .i64 e.a,.string way]
theorem Zb0{k n d:Int}{nm:ByteArray}{len:Nat}(h:exE k n d nm len=true):(k=1->len=0)/\(k=2->1<=len)/\(k≠1->k≠2->len=1):=by
 unfold exE at h;refine⟨fun hk=>?_,fun hk=>?_,fun h1 h2=>?_⟩
 .rw[Z3 hk] at h;simp at h;omega
 .rw[Z2 oq,Z3 hk] at h;simp at h;omega
 rw[Z2 h1,Z2 h2] at h;split at h
 .cases h
 rename_i hn
 have:=not_or.1 hn;omega
theorem GI{e:PE}(h:YF e=true):(e.k=1->e.args.len=0)/\(e.k=2->1<=e.args.len)/\(e.k≠1->e.k≠2->e.args.len=1):=by
 unfold YF at h;rw[ZC] at h;exact Zb0 h.2
theorem yV:∀(l:PL)(i:Nat)(e:PE),exR l=true->l.at i=some e->YF e=true
 | .cons k nm n d args a tl,0,e,h,he=>by
  injection he with he;subst he
  rw[exR,ZC,ZC] at h;unfold YF;rw[ZC];exact h.1
 | .cons _ _ _ _ _ _ tl,i+1,e,h,he=>by
  rw[exR,ZC] at h;exact yV tl i e h.2 he
theorem VB{e c:PE}{i:Nat}(h:YF e=true)(f:e.args.at i=some c):YF c=true:=by
 unfold YF at h;rw[ZC] at h;exact yV _ _ _ h.1 f
theorem kT:∀(l:PL){W:World}{b o:Nat},AC W l b o->∀i e,l.at i=some e->∃ad cap,W.cell? ⟨b,o+i*6,none⟩=some (.int .i64 e.k)/\W.cell? ⟨b,o+i*6+1,none⟩=some (.string e.nm)/\W.cell? ⟨b,o+i*6+2,none⟩=some (.int .i64 e.n)/\W.cell? ⟨b,o+i*6+3,none⟩=some (.int .i64 e.d) /\
  W.cell? ⟨b,o+i*6+4,none⟩=some (.slice ad e.args.len cap)/\W.cell? ⟨b,o+i*6+5,none⟩=some (.int .i64 e.a)/\AE W e ad cap
 | .cons k nm n d args a tl,W,b,o,hac,0,e,he=>by
  injection he with he
  subst he;obtain⟨h0,h1,h2,h3,h5,hn,⟨ad,cap,h4,hcap,hm,hd⟩,ht⟩:=hac;rw[Nat.zero_mul,Nat.add_zero];exact⟨ad,cap,h0,h1,h2,h3,h4,h5,⟨hn,⟨hcap,hm⟩,hd⟩⟩
 | .cons _ _ _ _ _ _ tl,W,b,o,hac,i+1,e,he=>by
  have:=kT tl hac.2.2.2.2.2.2.2 i e he;rw[show o+(i+1)*6=o+6+i*6 by omega];exact this
theorem Y5{w:World}{b:Nat}{f g j m q v x:Value}{t:TypeId}(h:w.1[b]?=some (.cells #[f,g,j,m,q,v,x] t (0,0))) :
  (w.cell? ⟨b,0,none⟩=some f/\w.cell? ⟨b,1,none⟩=some g/\w.cell? ⟨b,2,none⟩=some j/\w.cell? ⟨b,3,none⟩=some m/\w.cell? ⟨b,4,none⟩=some q/\w.cell? ⟨b,5,none⟩=some v/\w.cell? ⟨b,6,none⟩=some x)/\∀o,w.frozen? ⟨b,o,none⟩=false:=by
 refine⟨⟨?_,?_,?_,?_,?_,?_,?_⟩,?_⟩
 all_goals first|(intro o;simp[World.frozen?,h])|simp[World.cell?,h]
def SA(sb b o len cap:Nat)(ad:OA)(way:ByteArray)(k2:Int)(nm2:ByteArray)(n2 d2:Int)(len2 cap2:Nat)(ad2:OA)(a2:Int)(w':World):Prop :=
 w'.cell? ⟨sb,4,none⟩=some (.slice ad len cap)/\w'.cell? ⟨sb,6,none⟩=some (.string way)/\w'.cell? ⟨b,o,none⟩=some (.int .i64 k2)/\w'.cell? ⟨b,o+1,none⟩=some (.string nm2)/\w'.cell? ⟨b,o+2,none⟩=some (.int .i64 n2)/\w'.cell? ⟨b,o+3,none⟩=some (.int .i64 d2)/\w'.cell? ⟨b,o+4,none⟩=some (.slice ad2 len2 cap2)/\w'.cell? ⟨b,o+5,none⟩=some (.int .i64 a2)
section
variable {sb b o len cap:Nat} {ad:OA} {way:ByteArray} {k2:Int} {nm2:ByteArray} {n2 d2:Int} {len2 cap2:Nat} {ad2:OA} {a2:Int} {w':World}
theorem SA.drew(h:SA sb b o len cap ad way k2 nm2 n2 d2 len2 cap2 ad2 a2 w'):SA sb b o len cap ad way k2 nm2 n2 d2 len2 cap2 ad2 a2 w'.drew:=h
theorem SA.set(h:SA sb b o len cap ad way k2 nm2 n2 d2 len2 cap2 ad2 a2 w'){g j:Nat}(m:¬sb=g)(q:¬b=g)(u:Value):SA sb b o len cap ad way k2 nm2 n2 d2 len2 cap2 ad2 a2 (w'.setCell ⟨g,j,none⟩ u):=by
 have f:∀o,(w'.setCell ⟨g,j,none⟩ u).cell? ⟨b,o,none⟩=w'.cell? ⟨b,o,none⟩:=fun o=>ZH _ _ _ _ (fun e=>q e.symm)
 have hd:∀o,(w'.setCell ⟨g,j,none⟩ u).cell? ⟨sb,o,none⟩=w'.cell? ⟨sb,o,none⟩:=fun o=>ZH _ _ _ _ (fun e=>m e.symm)
 obtain⟨v,x,y,z,A,C,D,E⟩:=h;exact⟨(hd _).trans v,(hd _).trans x,(f _).trans y,(f _).trans z,(f _).trans A,(f _).trans C,(f _).trans D,(f _).trans E⟩
end
theorem ZdY{W0 w:World}(T:Below W0.1.size W0 w)(e c:PE)(O:OA)(cap:Nat)(f:ByteArray)(i:Nat)(h:AE W0 e O cap)(H:e.args.at i=some c)(hi:i<e.args.len)(y:i<100)(hw:f.size<=1000) :
  Calls prog 144 #[spv e O cap f,.int .i64 (i:Int)] w fun x w'=>(∃ad2 cap2,x=.returned (spv c ad2 cap2 (f++⟨#[47]⟩++dg i))/\AE W0 c ad2 cap2)/\Below w.1.size w w':=by
 obtain⟨b,o,rfl,hb,A⟩:∃b o,O=some ⟨b,o,none⟩/\b<W0.1.size/\AC W0 e.args b o:=by
  rcases h.args with h0|h0
  .rw[h0] at H;cases H
  exact h0
 obtain⟨ad2,cap2,Y,Z,y2,y3,y4,y5,C⟩:=kT _ A i c H;have L:=hid C;have ab:(0:Int)<=(i:Int):=oq;have ac:(i:Int)<(e.args.len:Int):=oq;have aa:=Vi y;have V:=T.size;have M:=hid y;obtain⟨k,X,n,d,args,a⟩:=e;obtain⟨I,q,J,G,g,F⟩:=c;unfold spv;simp only at *;clear h A C H y;have HL:=hid T;clear T;go_enter func144,ntmps144;go_wp2;obtain⟨z,m⟩:∃z,(w.alloc (.cells #[.int .i64 k,.string X,.int .i64 n,.int .i64 d,.slice (some ⟨b,o,none⟩) args.len cap,.int .i64 a,.string f] 250)).alloc (.cells #[.int .i64 0,.string ⟨#[]⟩,.int .i64 0,.int .i64 0,.slice none 0 0,.int .i64 0,.string ⟨#[]⟩] 250)=z:=⟨_,rfl⟩;rw[m];have R:Below w.1.size w z:=by rw[<-m];exact bq
 have D:z.1[w.1.size]?=some (.cells #[.int .i64 k,.string X,.int .i64 n,.int .i64 d,.slice (some ⟨b,o,none⟩) args.len cap,.int .i64 a,.string f] 250 (0,0)):=by rw[<-m];exact(Za _ _ _ (by simp)).trans (Yx w _)
 have hb1:z.1[w.1.size+1]?=some (.cells #[.int .i64 0,.string ⟨#[]⟩,.int .i64 0,.int .i64 0,.slice none 0 0,.int .i64 0,.string ⟨#[]⟩] 250 (0,0)):=by rw[<-m];simpa using Yx (w.alloc _) _
 obtain⟨⟨_,_,_,_,s4,_,s6⟩,_⟩:=Y5 D;obtain⟨⟨z0,z1,z2,z3,z4,z5,z6⟩,zf⟩:=Y5 hb1;have j:=fun o=>(R.cell (p:=⟨b,o,none⟩) (Zd hb V)).trans (HL.o.cell (p:=⟨b,o,none⟩) hb)
 have HB:=hid R;have HB1:=hid hb1;have KA:=hid (show SA w.1.size b (o+i*6) args.len cap (some ⟨b,o,none⟩) f I q J G g.len cap2 ad2 F z from ⟨s4,s6,(j _).trans Y,(j _).trans Z,(j _).trans y2,(j _).trans y3,(j _).trans y4,(j _).trans y5⟩);have U:¬w.1.size=w.1.size+1:=oq;have ae:¬9223372036854775807<f.size+1:=oq;have af:¬9223372036854775807<f.size+1+(dg i).size:=oq;have E:¬b=w.1.size+1:=oq;clear m R D hb1 s4 s6 Y Z y2 y3 y4 y5 j;go_region_held3 (fun w'=>w'.cell? ⟨w.1.size,4,none⟩=some (.slice (some ⟨b,o,none⟩) args.len cap)/\w'.cell? ⟨w.1.size,6,none⟩=some (.string f)/\w'.cell? ⟨b,o+i*6,none⟩=some (.int .i64 I)/\w'.cell? ⟨b,o+i*6+1,none⟩=some (.string q)/\w'.cell? ⟨b,o+i*6+2,none⟩=some (.int .i64 J)/\w'.cell? ⟨b,o+i*6+3,none⟩=some (.int .i64 G)/\w'.cell? ⟨b,o+i*6+4,none⟩=some (.slice ad2 g.len cap2)/\w'.cell? ⟨b,o+i*6+5,none⟩=some (.int .i64 F)) ((show SA w.1.size b (o+i*6) args.len cap (some ⟨b,o,none⟩) f I q J G g.len cap2 ad2 F _;repeat (first|with_reducible exact KA.o|with_reducible refine SA.drew ?_|(with_reducible refine SA.set ?_ U E _)))) (first|(go_at_call 194;refine(qJ M.o _).mono ?_;rintro x w1 ⟨rfl,rfl⟩))
 all_goals
  go_wp2;refine Zl (v:=spv ⟨I,q,J,G,g,F⟩ ad2 cap2 (f++⟨#[47]⟩++dg i)) ?_ rfl ?_
  .simp only[results,results144,spv];go_simp
  exact⟨⟨ad2,cap2,rfl,L.o⟩,bq⟩
def SF(pb b o:Nat)(v:Value)(k2:Int)(nm2:ByteArray)(n2 d2:Int)(len2 cap2:Nat)(ad2:OA)(a2:Int)(w':World):Prop :=
 w'.cell? ⟨pb,2,none⟩=some v/\w'.cell? ⟨b,o+1,none⟩=some (.int .i64 k2)/\w'.cell? ⟨b,o+2,none⟩=some (.string nm2)/\w'.cell? ⟨b,o+3,none⟩=some (.int .i64 n2)/\w'.cell? ⟨b,o+4,none⟩=some (.int .i64 d2)/\w'.cell? ⟨b,o+5,none⟩=some (.slice ad2 len2 cap2)/\w'.cell? ⟨b,o+6,none⟩=some (.int .i64 a2)
section
variable {pb b o:Nat} {v:Value} {k2:Int} {nm2:ByteArray} {n2 d2:Int} {len2 cap2:Nat} {ad2:OA} {a2:Int} {w':World}
theorem SF.drew(h:SF pb b o v k2 nm2 n2 d2 len2 cap2 ad2 a2 w'):SF pb b o v k2 nm2 n2 d2 len2 cap2 ad2 a2 w'.drew:=h
theorem SF.set(h:SF pb b o v k2 nm2 n2 d2 len2 cap2 ad2 a2 w'){g j:Nat}(m:¬pb=g)(q:¬b=g)(u:Value):SF pb b o v k2 nm2 n2 d2 len2 cap2 ad2 a2 (w'.setCell ⟨g,j,none⟩ u):=by
 have f:∀o,(w'.setCell ⟨g,j,none⟩ u).cell? ⟨b,o,none⟩=w'.cell? ⟨b,o,none⟩:=fun o=>ZH _ _ _ _ (fun e=>q e.symm)
 have hd:∀o,(w'.setCell ⟨g,j,none⟩ u).cell? ⟨pb,o,none⟩=w'.cell? ⟨pb,o,none⟩:=fun o=>ZH _ _ _ _ (fun e=>m e.symm)
 obtain⟨x,y,z,A,C,D,E⟩:=h;exact⟨(hd _).trans x,(f _).trans y,(f _).trans z,(f _).trans A,(f _).trans C,(f _).trans D,(f _).trans E⟩
end
theorem Qw{W0 w:World}(hl:Below W0.1.size W0 w)(p:PG)(an J af L:OA)(O M C R:Nat)(hp:AP W0 p an J af L O M C R)(i:Nat)(hi:i<p.flows.length)(G:i<100) :
  Calls prog 139 #[pv p an J af L O M C R,.int .i64 (i:Int)] w fun x w'=>(∃ad2 cap2,x=.returned (spv p.flows[i].e ad2 cap2 (dg i))/\AE W0 p.flows[i].e ad2 cap2)/\Below w.1.size w w':=by
 obtain⟨q,ins,flows,A⟩:=p;obtain⟨b,o,rfl,hb,y⟩:=hp.flows.at hi;simp only at hi y ⊢;obtain⟨f,hf⟩:=ez (flows[i]);rw[hf] at y ⊢;obtain⟨nm,⟨U,z,V,T,g,I⟩,fa⟩:=f;obtain⟨ad2,cap2,y0,y1,y2,y3,y4,y5,y6,y7,E,aa⟩:=y.cells;have X:=hid E;have ae:(0:Int)<=(i:Int):=oq;have ag:(i:Int)<(flows.length:Int):=oq;have Y:=hid G;unfold pv spv;simp only;clear hp y E hf G aa y0 y7;have ac:=hl.size;have HL:=hid hl;clear hl;go_enter func139,ntmps139;go_wp2;obtain⟨D,m⟩:∃D,(w.alloc (.cells #[.slice an q.length O,.slice J ins.length M,.slice (some ⟨b,o,none⟩) flows.length C,.slice L A.length R] 27)).alloc (.cells #[.int .i64 0,.string ⟨#[]⟩,.int .i64 0,.int .i64 0,.slice none 0 0,.int .i64 0,.string ⟨#[]⟩] 250)=D:=⟨_,rfl⟩;rw[m];have Z:Below w.1.size w D:=by rw[<-m];exact bq
 have F:D.1[w.1.size]?=some (.cells #[.slice an q.length O,.slice J ins.length M,.slice (some ⟨b,o,none⟩) flows.length C,.slice L A.length R] 27 (0,0)):=by rw[<-m];exact(Za _ _ _ (by simp)).trans (Yx w _)
 have hb1:D.1[w.1.size+1]?=some (.cells #[.int .i64 0,.string ⟨#[]⟩,.int .i64 0,.int .i64 0,.slice none 0 0,.int .i64 0,.string ⟨#[]⟩] 250 (0,0)):=by rw[<-m];simpa using Yx (w.alloc _) _
 obtain⟨⟨_,_,s2,_⟩,_⟩:=Yy F;obtain⟨⟨z0,z1,z2,z3,z4,z5,z6⟩,zf⟩:=Y5 hb1;have j:=fun o=>(Z.cell (p:=⟨b,o,none⟩) (Zd hb ac)).trans (HL.o.cell (p:=⟨b,o,none⟩) hb)
 have HB:=hid Z;have KA:=hid (show SF w.1.size b (o+i*8) (.slice (some ⟨b,o,none⟩) flows.length C) U z V T g.len cap2 ad2 I D from ⟨s2,(j _).trans y1,(j _).trans y2,(j _).trans y3,(j _).trans y4,(j _).trans y5,(j _).trans y6⟩);have ab:¬w.1.size=w.1.size+1:=oq;have H:¬b=w.1.size+1:=oq;clear m Z F hb1 s2 y1 y2 y3 y4 y5 y6 j;go_region_held3 (fun w'=>w'.cell? ⟨w.1.size,2,none⟩=some (.slice (some ⟨b,o,none⟩) flows.length C)/\w'.cell? ⟨b,o+i*8+1,none⟩=some (.int .i64 U)/\w'.cell? ⟨b,o+i*8+2,none⟩=some (.string z)/\w'.cell? ⟨b,o+i*8+3,none⟩=some (.int .i64 V)/\w'.cell? ⟨b,o+i*8+4,none⟩=some (.int .i64 T)/\w'.cell? ⟨b,o+i*8+5,none⟩=some (.slice ad2 g.len cap2)/\w'.cell? ⟨b,o+i*8+6,none⟩=some (.int .i64 I)) ((show SF w.1.size b (o+i*8) (.slice (some ⟨b,o,none⟩) flows.length C) U z V T g.len cap2 ad2 I _;repeat (first|with_reducible exact KA.o|with_reducible refine SF.drew ?_|(with_reducible refine SF.set ?_ ab H _)))) (first|(go_at_call 194;refine(qJ Y.o _).mono ?_;rintro x w1 ⟨rfl,rfl⟩))
 all_goals
  go_wp2;refine Zl (v:=spv ⟨U,z,V,T,g,I⟩ ad2 cap2 (dg i)) ?_ rfl ?_
  .simp only[results,results139,spv];go_simp
  exact⟨⟨ad2,cap2,rfl,X.o⟩,bq⟩
theorem uT{w:World}(e:PE)(v:OA)(cap:Nat)(h:YF e=true):Calls prog 140 #[ev e v cap] w fun x w'=>x=.returned (.bool true)/\Below w.1.size w w':=by
 obtain⟨g,m,j⟩:=GI h;obtain⟨k,A,n,d,args,a⟩:=e;unfold ev;simp only at g m j ⊢;clear h;by_cases q:k=1
 .subst q;have g:=g rfl;clear m j;rw[g];go_enter func140,ntmps140;go_wp2;go_ret;exact⟨rfl,bq⟩
 have y:(k == 1)=false:=ZZ.2 q;by_cases f:k=2
 .subst f;have m:decide (0<args.len)=true:=Z1 (by have:=m rfl;omega);clear g j;go_enter func140,ntmps140;go_wp2;go_ret;exact⟨rfl,bq⟩
 have z:(k == 2)=false:=ZZ.2 f;have j:=j q f;clear g m q f;rw[j];go_enter func140,ntmps140;go_wp2;go_ret;exact⟨rfl,bq⟩
theorem Gj{w:World}(e:PE)(g:OA)(cap:Nat)(f:ByteArray):Calls prog 138 #[spv e g cap f] w fun x w'=>x=.returned (.func (.func 192) #[] #[.pointer (some ⟨w.1.size,0,none⟩)])/\w'=w.alloc (.cells #[.int .i64 e.k,.string e.nm,.int .i64 e.n,.int .i64 e.d,.slice g e.args.len cap,.int .i64 e.a,.string f] 250):=by
 unfold spv;go_enter func138,ntmps138;go_wp2;go_ret;exact⟨rfl,rfl⟩
theorem VG{w:World}(nm:ByteArray)(f ph a:Int):Calls prog 141 #[.agg #[.string nm,.int .i64 f,.int .i64 ph,.int .i64 a]] w fun x w'=>x=.returned (.agg #[.int .i64 f,.int .i64 ph])/\Below w.1.size w w':=by
 go_enter func141,ntmps141;go_wp2;refine Zl (v:=.agg #[.int .i64 f,.int .i64 ph]) ?_ rfl ?_
 .simp only[results,results141];go_simp
 exact⟨rfl,bq⟩
theorem U6{w:World}(e:PE)(f:OA)(cap:Nat):Calls prog 198 #[ev e f cap] w fun x w'=>x=.returned (.agg #[.int .i64 e.k,.int .i64 e.n,.int .i64 e.d])/\Below w.1.size w w':=by
 unfold ev;go_enter func198,ntmps198;go_wp2;refine Zl (v:=.agg #[.int .i64 e.k,.int .i64 e.n,.int .i64 e.d]) ?_ rfl ?_
 .simp only[results,results198];go_simp
 exact⟨rfl,bq⟩
attribute [local go_sem] ZU
def YW:PL->ByteArray->Nat->List (PE × ByteArray)
 | .nil,_,_=>[]
 | .cons k nm n d args a tl,w,i=>(⟨k,nm,n,d,args,a⟩,w++⟨#[47]⟩++dg i)::(YW args (w++⟨#[47]⟩++dg i) 0++YW tl w (i+1))
def YV(e:PE)(w:ByteArray):List (PE × ByteArray):=(e,w)::YW e.args w 0
theorem Za3:∀(l:PL)(w:ByteArray)(i:Nat),(YW l w i).length=l.sz:=by
 intro l
 induction l with
 | nil=>intro w i;rfl
 | cons k nm n d args a tl ih1 ih2=>intro w i;simp only[YW,Zp,Zy,ih1,ih2,PL.sz];omega
structure Qs (W0:World) (e:PE) (ad:OA) (cap:Nat) (way:ByteArray):Prop where
 mem:AE W0 e ad cap
 good:YF e=true
 short:way.size+3*e.args.sz<=500
 few:e.args.sz<100
structure VS (W0:World) where
 s:PE × ByteArray
 ad:OA
 cap:Nat
 ok:Qs W0 s.1 ad cap s.2
def VS.vs{W0:World}(x:VS W0):Array Value:=#[.agg #[.int .i64 x.s.1.k,.string x.s.1.nm,.int .i64 x.s.1.n,.int .i64 x.s.1.d,.slice x.ad x.s.1.args.len x.cap,.int .i64 x.s.1.a,.string x.s.2]]
def xO(F:Fence)(W0:World):Prop:=∀(n:Nat)(W:World)(e c:PE)(ad:OA)(cap:Nat)(way:ByteArray)(i:Nat),Below W0.1.size W0 W->Qs W0 e ad cap way->e.args.at i=some c ->
 CallsIn F n prog 144 #[spv e ad cap way,.int .i64 (i:Int)] W fun x w'=>(∃ad2 cap2,x=.returned (spv c ad2 cap2 (way++⟨#[47]⟩++dg i))/\Qs W0 c ad2 cap2 (way++⟨#[47]⟩++dg i))/\Below W.1.size W w'
theorem K8:∀(l:PL)(i:Nat)(e:PE),l.at i=some e->i<l.len/\e.args.sz+1<=l.sz
 | .cons k nm n d args a tl,0,e,h=>by
  injection h with h;subst h
  simp only[PL.len,PL.sz];omega
 | .cons _ _ _ _ args _ tl,i+1,e,h=>by
  have:=K8 tl i e h;simp only[PL.len,PL.sz];omega
theorem JG{W0 w:World}(v:Below W0.1.size W0 w)(e c:PE)(g:OA)(cap:Nat)(f:ByteArray)(i:Nat)(h:Qs W0 e g cap f)(m:e.args.at i=some c) :
  Calls prog 144 #[spv e g cap f,.int .i64 (i:Int)] w fun x w'=>(∃ad2 cap2,x=.returned (spv c ad2 cap2 (f++⟨#[47]⟩++dg i))/\Qs W0 c ad2 cap2 (f++⟨#[47]⟩++dg i))/\Below w.1.size w w':=by
 obtain⟨q,z⟩:=K8 _ _ _ m;have A:=QO e.args;have C:=h.few;have D:=h.short;have E:=Vi (i:=i) oq;refine(ZdY v e c g cap f i h.mem m q oq oq).mono ?_;rintro x w' ⟨⟨ad2,cap2,y,j⟩,hb⟩;refine⟨⟨ad2,cap2,y,⟨j,VB h.good m,?_,oq⟩⟩,hb⟩;have F:(f++(⟨#[47]⟩:ByteArray)++dg i).size=f.size+1+(dg i).size:=by
  rw[ByteArray.size_append,ByteArray.size_append];rfl
 omega
theorem Ee(W0:World):xO Fence.wide W0:=fun n W e c ad cap way i hl h hc=>Zu.2 (JG hl e c ad cap way i h hc)
theorem xW{β:Type}{B:Nat}{J:β->World->Prop}(h:AbidesFrom B J){s:β}{W W':World}(hs:J s W)(hb:Below W.1.size W W'):J s W' :=
 h s W _ none hs ⟨hb.os,hb.tape,hb.output,hb.size,fun k hk _=>hb.block k hk⟩ (fun r e=>by cases e)
def kept(o:Obj):Bool:=match o with
 | .cells _ t _=>t != 53
 | _=>false
theorem EE{o:Obj}(h:kept o=true):o.isCells=true:=by
 cases o<;>first|rfl|exact Bool.noConfusion h
structure KF (n₀ Bk:Nat) (W W':World):Prop where
 below:Below n₀ W W'
 same:∀(k:Nat)(o:Obj),Bk<=k->W.1[k]?=some o->kept o=true->W'.1[k]?=some o
theorem KF.refl(n₀ Bk:Nat)(W:World):KF n₀ Bk W W:=⟨Zg _ _,fun _ _ _ h _=>h⟩
theorem KF.trans{n₀ Bk:Nat}{A B C:World}(h:KF n₀ Bk A B)(k:KF n₀ Bk B C):KF n₀ Bk A C:=⟨h.below.trans k.below,fun i o hb hi ho=>k.same i o hb (h.same i o hb hi ho) ho⟩
theorem KF.of_below{n₀ Bk:Nat}{A W W':World}(h:KF n₀ Bk A W)(hb:Below W.1.size W W')(hn:n₀<=W.1.size):KF n₀ Bk A W' :=
 h.trans ⟨hb.mono hn,fun k o _ hk _=>(hb.block k (Zb hk)).trans hk⟩
theorem KF.alloc{n₀ Bk:Nat}{A W:World}(h:KF n₀ Bk A W)(hn:n₀<=W.1.size)(o:Obj):KF n₀ Bk A (W.alloc o):=h.of_below ((Zg _ _).alloc (Zc _) _) hn
theorem KC.kf{n₀:Nat}{A B:World}(h:KC n₀ A B)(Bk:Nat):KF n₀ Bk A B:=⟨h.below,fun k o _ hk ho=>h.same k o hk (EE ho)⟩
theorem KF.putObj{n₀ Bk:Nat}(W:World)(l:Nat)(o o':Obj)(hl:n₀<=l)(h:W.1[l]?=some o)(hc:o.isCells=false):KF n₀ Bk W (W.putObj l o'):=(KC.putObj W l o o' hl h hc).kf Bk
def kR{W0:World}(n₀ Bk:Nat)(J Jx:List (VS W0)->World->Prop)(pre:List (VS W0))(e:PE)(way:ByteArray)(W:World)(x:Ending)(W':World):Prop :=
 (x=.returned (.bool true)/\(∃ys:List (VS W0),ys.map (·.s)=YV e way/\J (pre++ys) W')/\KF n₀ Bk W W') \/
  (x=.returned (.bool false)/\∃q:List (VS W0),q.map (·.s) <+: YV e way/\Jx (pre++q) W')
def ZgW{W0:World}(n₀ Bk:Nat)(J:List (VS W0)->World->Prop)(pre:List (VS W0))(e:PE)(way:ByteArray)(W:World)(v:Value)(wr:World):Prop :=
 ∃(i:Nat)(rest:PL)(ys:List (VS W0)),v=.int .i64 (i:Int)/\i+rest.len=e.args.len/\(∀j,rest.at j=e.args.at (i+j))/\rest.sz<=e.args.sz/\ys.map (·.s)++YW rest way i=YV e way/\J (pre++ys) wr/\KF n₀ Bk W wr
theorem Zd2{k n d a:Int}{nm:ByteArray}{args tl l:PL}{i:Nat}(h:∀j,(PL.cons k nm n d args a tl).at j=l.at (i+j)):∀j,tl.at j=l.at (i+1+j):=fun j=>by
 have:=h (j+1);rw[show i+1+j=i+(j+1) by omega,<-this];rfl
theorem vi{W0:World}(F:Fence)(hd:F.depth=none)(hF:F.fn 193)(hA:F.fn 144)(ba:F.round=none)(ag:xO F W0)(l B Bk N:Nat)(J Jx:List (VS W0)->World->Prop)(hJ:AbidesFrom B J)
  (hY:∀m pre x W,J pre W->pre.length<N->YieldAt F m prog l x.vs W fun e W'=>(e=.returned (.bool true)/\J (pre++[x]) W'/\KF W0.1.size Bk W W')\/(e=.returned (.bool false)/\Jx (pre++[x]) W'))(e:PE)
  (ih:∀e':PE,e'.args.sz<e.args.sz->∀(n:Nat)(A:OA)(cap:Nat)(f:ByteArray)(pre:List (VS W0))(W:World),Qs W0 e' A cap f->Below W0.1.size W0 W->Bk<=W.1.size->J pre W->pre.length+e'.args.sz+1<=N ->
   CallsIn F n prog 193 #[spv e' A cap f,.func (.yield l) #[] #[]] W (kR W0.1.size Bk J Jx pre e' f W)) :
  ∀(n:Nat)(A:OA)(cap:Nat)(f:ByteArray)(pre:List (VS W0))(W:World),Qs W0 e A cap f->Below W0.1.size W0 W->Bk<=W.1.size->J pre W->pre.length+e.args.sz+1<=N ->
   CallsIn F n prog 193 #[spv e A cap f,.func (.yield l) #[] #[]] W (kR W0.1.size Bk J Jx pre e f W):=by
 intro n A cap f pre W D hb O hj hN;obtain⟨k,Y,Z,d,args,a⟩:=e;have am:=D.mem.len;simp only at am hN ih ⊢;have aw:∀k:Nat,(F.depth.isSome=true->1<=k):=fun k h=>by rw[hd] at h;cases h
 have an:=hb.size;obtain⟨X,ai,aj⟩:∃X:VS W0,X.vs=#[.agg #[.int .i64 k,.string Y,.int .i64 Z,.int .i64 d,.slice A args.len cap,.int .i64 a,.string f]]/\X.s=(⟨k,Y,Z,d,args,a⟩,f):=⟨⟨(⟨k,Y,Z,d,args,a⟩,f),A,cap,D⟩,rfl,rfl⟩;obtain⟨fn,bc,assign,body,hy,hR⟩:=hY (n-1) pre X (W.alloc (Obj.cells #[.int .i64 k,.string Y,.int .i64 Z,.int .i64 d,.slice A args.len cap,.int .i64 a,.string f] 250)) (JE hJ hj _) oq;rw[ai] at hy;have af:=hid aj;have HA:=hid D;have HB:=hid hb;have aq:=hid ih;have HR:=hid hR;have ao:=hid ag;clear ai aj D hb ih hR hj ag;unfold spv at *;simp only at *;refine callsIn_of_wp func193 rfl hF ?_ ba;simp only[ntmps193,ZJ,Zp,Zx,Nat.reduceAdd,Nat.reduceSub,ZG,ZF,ZM,ZK,ZN,ZD];gi_wp2;refine HR.o.mono ?_;rintro e W1 (⟨rfl,ah,U⟩|⟨rfl,av⟩)
 .have g:=U.same W.1.size _ O (Yx W _) rfl;obtain⟨⟨x0,x1,x2,x3,x4,x5,x6⟩,xf⟩:=Y5 g;have ar:=hid ah;have L:=hid ((KF.refl W0.1.size Bk W).alloc an _ |>.trans U);have ap:=hid g;clear ah U g;gi_wp2;gi_loopw [14] (fun v wr=>Hid (ZgW W0.1.size Bk J pre ⟨k,Y,Z,d,args,a⟩ f W1 v wr)) (fun i _=>args.len-(intOf i).toNat)
  case atStart=>exact⟨0,args,[X],rfl,by simp,by simp,Zc _,by simp only[List.map_cons,List.map_nil,List.singleton_append,af.o,YV],ar.o,KF.refl _ _ _⟩
  obtain⟨i,rest,ys,rfl,E,R,H,j,al,z⟩:=hrel.o;clear hrel;have ae:=hid z;have ac:=hid al;simp only at E R H;have T:Below W0.1.size W0 wr:=HB.o.trans (L.o.below.trans z.below);have g:=z.same W.1.size _ O ap.o rfl;have au:Bk<=wr.1.size:=Zm O (L.o.below.trans z.below).size;have HBW:=hid T;have ab:=hid R;have I:=T.size;clear z al T R
  cases rest with
  | nil =>
   have ak:(i:Int)=(args.len:Int):=by simp only[PL.len] at E;omega
   simp only[YW,List.append_nil] at j;have C:=hid j;clear j;gi_wp2;go_ret;exact .inl ⟨rfl,⟨ys,C.o,ac.o⟩,L.o.trans ae.o⟩
  | cons k1 nm1 n1 d1 args1 a1 tl =>
   have ak:(i:Int)<(args.len:Int):=by simp only[PL.len] at E;omega
   obtain⟨⟨x0,x1,x2,x3,x4,x5,x6⟩,xf⟩:=Y5 g;have h0:=ab.o 0;have G:=Z4 List.length j;simp only[Zy,Zo,Za3,Zp,PL.sz,YV] at G H;have aa:=hid (ao.o (n-1) wr ⟨k,Y,Z,d,args,a⟩ ⟨k1,nm1,n1,d1,args1,a1⟩ A cap f i HBW.o HA.o h0.symm);have HC:=hid (fun w1 (hb1:Below wr.1.size wr w1) M y (V:Qs W0 ⟨k1,nm1,n1,d1,args1,a1⟩ M y (f++⟨#[47]⟩++dg i))=>aq.o ⟨k1,nm1,n1,d1,args1,a1⟩ (by show args1.sz<args.sz;omega) (n-1) M y (f++⟨#[47]⟩++dg i) (pre++ys) w1 V (HBW.o.trans (hb1.mono I)) (Zm au hb1.size) (xW hJ ac.o hb1) (by simp only[Zy];omega));have C:=hid j;clear h0 j G g;gi_wp2_with ((try refine⟨aw _,?_⟩);first|(gi_at_call 144;refine aa.o.mono ?_;rintro x w1 ⟨⟨M,y,rfl,V⟩,hb1⟩;unfold spv;simp only)|(gi_at_call 193;refine(HC.o _ hb1 _ _ V).mono ?_;rintro x w2 (⟨rfl,⟨zs,bb,ax⟩,az⟩|⟨rfl,q,hq,ay⟩)))
   .go_roundw
    case rel=>exact⟨i+1,tl,ys++zs,by go_num,by simp only[PL.len] at E;show i+1+tl.len=args.len;omega,Zd2 ab.o,by show tl.sz<=args.sz;omega,by rw[ZV,bb,<-C.o,YW,YV];simp,by rw[<-List.append_assoc];exact ax,(ae.o.of_below hb1 I).trans az⟩
    simp[intOf];omega
   go_ret;refine .inr ⟨rfl,ys++q,?_,by rw[<-List.append_assoc];exact ay⟩;obtain⟨r,hr⟩:=hq;refine⟨r++YW tl f (i+1),?_⟩;rw[ZV,<-C.o,YW,<-ZD];unfold YV at hr;rw[<-hr];simp
 gi_wp2;go_ret;exact .inr ⟨rfl,[X],⟨YW args f 0,by simp only[List.map_cons,List.map_nil,List.singleton_append,af.o,YV]⟩,av⟩
theorem kA{W0:World}(F:Fence)(hd:F.depth=none)(z:F.fn 193)(y:F.fn 144)(v:F.round=none)(q:xO F W0)(l B Bk N:Nat)(J j:List (VS W0)->World->Prop)(A:AbidesFrom B J)
  (C:∀m pre x W,J pre W->pre.length<N->YieldAt F m prog l x.vs W fun e W'=>(e=.returned (.bool true)/\J (pre++[x]) W'/\KF W0.1.size Bk W W')\/(e=.returned (.bool false)/\j (pre++[x]) W')) :
  ∀(e:PE)(n:Nat)(g:OA)(cap:Nat)(f:ByteArray)(pre:List (VS W0))(W:World),Qs W0 e g cap f->Below W0.1.size W0 W->Bk<=W.1.size->J pre W->pre.length+e.args.sz+1<=N ->
   CallsIn F n prog 193 #[spv e g cap f,.func (.yield l) #[] #[]] W (kR W0.1.size Bk J j pre e f W):=by
 intro e
 suffices h:∀(M:Nat)(e:PE),e.args.sz<M->∀(n:Nat)(g:OA)(cap:Nat)(f:ByteArray)(pre:List (VS W0))(W:World),Qs W0 e g cap f->Below W0.1.size W0 W->Bk<=W.1.size->J pre W->pre.length+e.args.sz+1<=N ->
   CallsIn F n prog 193 #[spv e g cap f,.func (.yield l) #[] #[]] W (kR W0.1.size Bk J j pre e f W) from h _ e (ZX _)
 intro M
 induction M with
 | zero=>intro e h;omega
 | succ M ih=>intro e h;exact vi F hd z y v q l B Bk N J j A C e (fun e' h'=>ih e' oq)
theorem qt{W0:World}(F:Fence)(hd:F.depth=none)(V:F.fn 192)(U:F.fn 193)(T:F.fn 144)(y:F.round=none)(g:xO F W0)(n l B Bk Bs:Nat)(e:PE)(A:OA)(cap:Nat)(f:ByteArray)
  (R:Qs W0 e A cap f)(J z:List (VS W0)->World->Prop)(X:AbidesFrom B J)
  (O:∀m pre x W,J pre W->pre.length<e.args.sz+1->YieldAt F m prog l x.vs W fun e W'=>(e=.returned (.bool true)/\J (pre++[x]) W'/\KF W0.1.size Bk W W')\/(e=.returned (.bool false)/\z (pre++[x]) W'))
  (W:World)(M:Below W0.1.size W0 W)(C:Bk<=W.1.size)(j:W.1[Bs]?=some (.cells #[.int .i64 e.k,.string e.nm,.int .i64 e.n,.int .i64 e.d,.slice A e.args.len cap,.int .i64 e.a,.string f] 250 (0,0)))(L:J [] W) :
  CallsIn F n prog 192 #[.func (.yield l) #[] #[],.pointer (some ⟨Bs,0,none⟩)] W fun x W'=>(∃v,x=.returned v) /\
   ((∃xs:List (VS W0),xs.map (·.s)=YV e f/\J xs W')\/(∃pre:List (VS W0),pre.map (·.s) <+: YV e f/\z pre W')):=by
 have D:∀k:Nat,(F.depth.isSome=true->1<=k):=fun k h=>by rw[hd] at h;cases h
 have I:=hid (kA F hd U T y g l B Bk (e.args.sz+1) J z X O e (n-1) A cap f [] W R M C L (by simp));obtain⟨⟨x0,x1,x2,x3,x4,x5,x6⟩,xf⟩:=Y5 j;clear O M L g R j;unfold spv at I;refine callsIn_of_wp func192 rfl V ?_ y;simp only[ntmps192,ZJ,Zp,Zx,Nat.reduceAdd,Nat.reduceSub,ZG,ZF,ZM,ZK,ZN,ZD];gi_wp2_with ((try refine⟨D _,?_⟩);gi_at_call 193;refine I.o.mono ?_;rintro x w2 (⟨rfl,⟨zs,H,E⟩,Y⟩|⟨rfl,q,Z,G⟩))
 .go_end0;exact⟨⟨_,rfl⟩,.inl ⟨zs,H,by simpa using E⟩⟩
 go_end0;exact⟨⟨_,rfl⟩,.inr ⟨q,Z,by simpa using G⟩⟩
theorem Uf{W0:World}(F:Fence)(hd:F.depth=none)(hG:F.fn 192)(hF:F.fn 193)(hA:F.fn 144)(hro:F.round=none)(hAI:xO F W0)(n Bs:Nat)(e:PE)(ad:OA)(cap:Nat)(way:ByteArray)
  (hs:Qs W0 e ad cap way)(w:World)(Bk:Nat)(hBk:Bk<=w.1.size)(hB:Below W0.1.size W0 w)(hbx:w.1[Bs]?=some (.cells #[.int .i64 e.k,.string e.nm,.int .i64 e.n,.int .i64 e.d,.slice ad e.args.len cap,.int .i64 e.a,.string way] 250 (0,0))) :
  SeqStopsK F n prog 192 #[.pointer (some ⟨Bs,0,none⟩)] (fun x:VS W0=>x.vs) (KF W0.1.size Bk) (fun xs=>xs.map (·.s)=YV e way) (fun pre=>pre.map (·.s) <+: YV e way) (e.args.sz+1) w:=fun l J Jx W hW hJ hJx hY h0 =>
 qt F hd hG hF hA hro hAI n l W.1.size Bk Bs e ad cap way hs J Jx hJ (fun m pre x W hj hl=>YieldAt.deep hd m (hY pre x W hj hl)) W (hB.trans (hW.mono hB.size)) (Zm hBk hW.size) ((hW.block Bs (Zb hbx)).trans hbx) h0
def yy(w:World)(b:Nat)(l:List (Int × Int)):Prop:=∀i (h:i<l.length),w.cell? ⟨b,i*2,none⟩=some (.int .i64 l[i].1)/\w.cell? ⟨b,i*2+1,none⟩=some (.int .i64 l[i].2)
def ZgE(w W:World)(l1 l2:List (Int × Int))(v:Value)(wr:World):Prop :=
 ∃i:Nat,v=.int .i64 (i:Int)/\i<=l1.length/\l1.take i=l2.take i/\Below w.1.size w wr
theorem Gu{w:World}(f g:List (Int × Int))(z A:Nat)(hb1:z<w.1.size)(hb2:A<w.1.size)(R:yy w z f)(T:yy w A g)(hl:f.length<=1000)(ab:g.length<=1000) :
  Calls prog 137 #[.slice (some ⟨z,0,none⟩) f.length f.length,.slice (some ⟨A,0,none⟩) g.length g.length] w fun x w'=>x=.returned (.bool (decide (f=g)))/\Below w.1.size w w':=by
 have H1:=hid R;have H2:=hid T;clear R T;go_enter func137,ntmps137;by_cases C:f.length=g.length
 .have hq:((f.length:Int) != (g.length:Int))=false:=by simp[C]
  go_wp2;go_loopw [13] (fun v wr=>Hid (ZgE w w f g v wr)) (fun i _=>f.length-(intOf i).toNat)
  case atStart=>exact⟨0,rfl,Zk _,rfl,Zg _ _⟩
  obtain⟨i,rfl,hi,q,y⟩:=hrel.o;clear hrel;by_cases M:i<f.length
  .have O:(i:Int)<(f.length:Int):=oq;have aa:(i:Int)<(g.length:Int):=oq;have L:i<g.length:=oq;obtain⟨c1,d1⟩:=H1.o i M;obtain⟨c2,d2⟩:=H2.o i L;have g1:wr.cell? ⟨z,i*2,none⟩=_:=(y.cell (p:=⟨z,i*2,none⟩) hb1).trans c1;have g2:wr.cell? ⟨z,i*2+1,none⟩=_:=(y.cell (p:=⟨z,i*2+1,none⟩) hb1).trans d1;have g3:wr.cell? ⟨A,i*2,none⟩=_:=(y.cell (p:=⟨A,i*2,none⟩) hb2).trans c2;have g4:wr.cell? ⟨A,i*2+1,none⟩=_:=(y.cell (p:=⟨A,i*2+1,none⟩) hb2).trans d2;obtain⟨⟨F,G⟩,D⟩:=ez (f[i]);obtain⟨⟨p2,U⟩,E⟩:=ez (g[i]);rw[D] at g1 g2;rw[E] at g3 g4;simp only at g1 g2 g3 g4;have H:=hid D;have I:=hid E;have X:=hid q;have HB:=hid y;clear c1 d1 c2 d2 D E q y;by_cases j:F=p2/\G=U
   .obtain⟨e1,e2⟩:=j;subst e1 e2;have m:=fun w=>J2 F G F G w
    simp only[and_self,decide_true] at m;have V:=hid (show f.take (i+1)=g.take (i+1) by
     rw[Zw M,Zw L,X.o,H.o,I.o])
    go_wp2;go_quiet (fail);go_wp2;exact⟨⟨i+1,by go_num,oq,V.o,bq⟩,by simp[intOf];omega⟩
   have HD:=hid (show decide (f=g)=false from Z0 (fun e=>j (by
    subst e;have:=H.o.symm.trans I.o;injection this with R T
    exact⟨R,T⟩)))
   by_cases he:F=p2
   .subst he;have Y:¬G=U:=fun e=>j ⟨rfl,e⟩
    have m:=fun w=>J2 F G F U w
    simp only[true_and,Z0 Y] at m;clear j;go_wp2;go_quiet (fail);go_wp2;go_ret;exact⟨by rw[HD.o];rfl,bq⟩
   have m:=fun w=>J2 F G p2 U w
   simp only[he,false_and,decide_false] at m;clear j;go_wp2;go_quiet (fail);go_wp2;go_ret;exact⟨by rw[HD.o];rfl,bq⟩
  have Z:i=f.length:=oq;have J:f=g:=by
   subst Z;rw[ZT,C,ZT] at q;exact q
  have O:¬(i:Int)<(f.length:Int):=oq;have HE:=hid J;have HB:=hid y;clear J y q;go_wp2;go_ret;exact⟨by rw[Z1 HE.o];rfl,HB.o⟩
 have hq:((f.length:Int) != (g.length:Int))=true:=by
  rw[bne_iff_ne];omega
 have hd:decide (f=g)=false:=Z0 (fun e=>C (by rw[e]));rw[hd];go_wp2;go_ret;exact⟨rfl,bq⟩
open Go.RowKit Go.Shelf
attribute [local go_sem] ZU
def mk(D:Nat):Deferred:={ target:=.collected D,args:=#[] }
def Mks(n₀:Nat)(Ds:List Nat)(w:World):Prop:=(∀D∈Ds,n₀<=D/\w.1[D]?=some (.deferred (some [])))/\Ds.Nodup
theorem Mks.below{n₀:Nat}{Ds:List Nat}{w w':World}(h:Mks n₀ Ds w)(hb:Below w.1.size w w'):Mks n₀ Ds w' :=
 ⟨fun D hD=>⟨(h.1 D hD).1,(hb.block D (Zb (h.1 D hD).2)).trans (h.1 D hD).2⟩,h.2⟩
theorem Mks.cons{n₀:Nat}{f:List Nat}{w w':World}(h:Mks n₀ f w)(hb:Below w.1.size w w'){D:Nat}(q:n₀<=w.1.size)(j:w.1.size<=D)(m:w'.1[D]?=some (.deferred (some []))):Mks n₀ (D::f) w':=by
 have g:=h.below hb;refine⟨fun D' hD'=>?_,List.nodup_cons.2 ⟨fun hm=>?_,g.2⟩⟩
 .rcases ZS.1 hD' with rfl|hm
  .exact⟨Zm q j,m⟩
  exact g.1 D' hm
 have:=Zb (h.1 D hm).2;omega
theorem Mks.set{n₀:Nat}{Ds:List Nat}{w:World}(h:Mks n₀ Ds w)(p:Addr)(v:Value):Mks n₀ Ds (w.setCell p v) :=
 ⟨fun D hD=>⟨(h.1 D hD).1,(KeepsOthers.setCell _ _ _).same D _ (h.1 D hD).2 rfl⟩,h.2⟩
theorem Ql{F:Fence}{n:Nat}{P:Program}{fn:Func}{tmps:Array Value}{R:Ending->World->Prop}{n₀:Nat}:∀(Ds:List Nat)(w:World),Mks n₀ Ds w ->
  (∀w',KC n₀ w w'->LeavesInM F n P fn tmps R [] .returning w')->LeavesInM F n P fn tmps R (Ds.map mk) .returning w
 | [],w,_,h=>h w (KC.refl _ _)
 | D::Ds,w,hM,h=>by
  have hD:=hM.1 D (by simp);have hk:=KC.putObj (n₀:=n₀) w D _ (.deferred none) hD.1 hD.2 rfl;refine⟨by simp,.inl ⟨_,_,rfl,run_takeDeferred hD.2,?_⟩⟩;refine Ql Ds _ ⟨fun D' hD'=>⟨(hM.1 D' (by simp[hD'])).1,?_⟩,(List.nodup_cons.1 hM.2).2⟩ (fun w' hw'=>h w' (hk.trans hw'));have hne:D'≠D:=fun e=>(List.nodup_cons.1 hM.2).1 (e▸hD')
  exact((grownBy_putObj' w D (.deferred none)).block D' (Zb (hM.1 D' (by simp[hD'])).2) (by intro e;injection e with e;exact hne e)).trans (hM.1 D' (by simp[hD'])).2
def Zfa(W:World)(b:Nat)(p:PG)(an ai af ao:OA)(cn ci cf co:Nat):Prop:=W.1[b]?=some (.cells #[.slice an p.nodes.length cn,.slice ai p.ins.length ci,.slice af p.flows.length cf,.slice ao p.outs.length co] 27 (0,0))
def Zgy(p:PG)(l:List (Int × Int))(x:Ending):Prop:=(∃a e,e≠0/\x=.returned (.tuple #[.int .i64 a,.int .i64 e]))\/(x=.returned (.tuple #[.int .i64 0,.int .i64 0])/\∃env,UE p env/\l=p.flows.map (fun f=>Jo env f.nm))
def CkA(w:World)(p:PG)(x:Ending)(w':World):Prop :=
 ((∃a e,e≠0/\(e != 0)=true/\x=.returned (.tuple #[.slice none 0 0,.int .i64 a,.int .i64 e]))\/∃l' b' env,x=.returned (.tuple #[.slice (some ⟨b',0,none⟩) l'.length l'.length,.int .i64 0,.int .i64 0])/\UE p env/\p.flows.map (fun f=>Jo env f.nm)=l'/\b'<w'.1.size/\yy w' b' l'/\l'.length<=1000)/\Below w.1.size w w'
theorem vM{w:World}(p:PG)(an j g m:OA)(z y q A:Nat)(F:AP w p an j g m z y q A)(H:NZ w p.nodes an)(f:JW p) :
  Calls prog 136 #[pv p an j g m z y q A] w (CkA w p):=by
 refine(e8 p an j g m z y q A F H f).mono ?_;rintro x I ⟨⟨a,e,E,rfl⟩|⟨v,env,rfl,C,b,rfl,hb,G⟩,D⟩
 .exact⟨.inl ⟨a,e,E,bne_iff_ne.2 E,rfl⟩,D⟩
 exact⟨.inr ⟨_,b,env,rfl,C,rfl,hb,G,by rw[Zo];have:=f.lens;omega⟩,D⟩
theorem Zb3{w:World}(p:PG)(an J F L:OA)(O M G R:Nat)(hp:AP w p an J F L O M G R)(hz:NZ w p.nodes an)(H:JW p)(l:List (Int × Int))(bc:Nat)(az:bc<w.1.size)(hl:l.length<=1000)(hc:yy w bc l) :
  Calls prog 80 #[pv p an J F L O M G R,.slice (some ⟨bc,0,none⟩) l.length l.length] w fun x w'=>Zgy p l x/\Below w.1.size w w':=by
 have ab:=hid (fun(w':World) (hb:Below w.1.size w w')=>vM (w:=w') p an J F L O M G R (hp.below hb) (hz.below hp.nodes hb) H);have av:=hid (fun(w':World) (hb:Below w.1.size w w')=>Qw hb p an J F L O M G R hp);have bs:=H.lens;have ba:=H.flows;have HC:=hid (show ∀w':World,Below w.1.size w w'->yy w' bc l from fun w' hb i h=>⟨(hb.cell (p:=⟨bc,i*2,none⟩) az).trans (hc i h).1,(hb.cell (p:=⟨bc,i*2+1,none⟩) az).trans (hc i h).2⟩);have HP:=hid hp;obtain⟨nodes,ins,g,v⟩:=p;have au:=hid ba;clear hp hz H hc ba;unfold pv CkA at *;simp only at ab av bs au ⊢;refine(Zu (n:=6)).1 ?_;refine callsIn_of_wp_marks func80 rfl trivial ?_ rfl;simp only[ntmps80,ZJ,Zp,Zx,Nat.reduceAdd,Nat.reduceSub,ZG,ZF,ZM,ZK,ZN,ZD];gi_wp2_with (refine⟨trivial,?_⟩;first|(gi_at_call 136;refine(Zu.2 (ab.o _ bq)).mono ?_;rintro x w1 ⟨hx,hb1⟩;obtain⟨br,T⟩:=YE hb1;have b1:=hb1.size;simp only[Zv] at b1;have aa:Zfa w1 w.1.size ⟨nodes,ins,g,v⟩ an J F L O M G R:=(hb1.block _ (by simp;omega)).trans ((Za _ _ _ (by simp;omega)).trans ((Za _ _ _ (by simp)).trans (Yx w _)));have ag:Boxed w1 (w.1.size+1) 3 (.int .i64 0):=(hb1.block _ (by simp)).trans ((Za _ _ _ (by simp)).trans (by simpa using Yx (w.alloc _) _));have aj:Boxed w1 (w.1.size+1+1) 38 (.int .i64 0):=(hb1.block _ (by simp)).trans (by simpa using Yx ((w.alloc _).alloc _) _);rcases hx with ⟨a2,e2,he2,he3,rfl⟩|⟨l',b',env,rfl,hcf,hl',hb',hrow,hl''⟩)|(gi_at_call 137;refine(Zu.2 (Gu l' l b' bc hb' oq hrow (HC.o _ bq) hl'' hl)).mono ?_;rintro x w2 ⟨rfl,hb2⟩;have al:Below w.1.size w w2:=bq;have b2:=hb2.size;have U:Zfa w2 w.1.size ⟨nodes,ins,g,v⟩ an J F L O M G R:=(hb2.block _ oq).trans aa;have z:Boxed w2 (w.1.size+1) 3 (.int .i64 0):=(hb2.block _ oq).trans ag;have A:Boxed w2 (w.1.size+1+1) 38 (.int .i64 0):=(hb2.block _ oq).trans aj;obtain⟨⟨x0,x1,x2,x3⟩,xf⟩:=Yy U;have cA:=z.cell;have fA:=z.frozen;have cE:=A.cell;have fE:=A.frozen;clear hb1 hb2 br T aa ag aj;cases hd:decide (l'=l)))
 .have ah:=((ag.set (.int .i64 a2)).other (show w.1.size+1≠w.1.size+1+1 by omega) (.int .i64 e2)).cell;have ak:=((aj.other (show w.1.size+1+1≠w.1.size+1 by omega) (.int .i64 a2)).set (.int .i64 e2)).cell;refine⟨.tuple #[.int .i64 a2,.int .i64 e2],?_,?_,?_⟩
  .simp only[results,results80];go_simp
  .exact .inl ⟨a2,e2,he2,rfl⟩
  exact bq
 .have ah:=((z.set (.int .i64 0)).other (show w.1.size+1≠w.1.size+1+1 by omega) (.int .i64 12)).cell;have ak:=((A.other (show w.1.size+1+1≠w.1.size+1 by omega) (.int .i64 0)).set (.int .i64 12)).cell;refine⟨.tuple #[.int .i64 0,.int .i64 12],?_,?_,?_⟩
  .simp only[results,results80];go_simp
  .exact .inl ⟨0,12,by decide,rfl⟩
  exact(al.setCell (p:=⟨w.1.size+1,0,none⟩) (by simp) _).setCell (p:=⟨w.1.size+1+1,0,none⟩) (by simp;omega) _
 have bb:l'=l:=Yk hd;subst bb;have ar:=hid (show Zgy ⟨nodes,ins,g,v⟩ l' (.returned (.tuple #[.int .i64 0,.int .i64 0])) from .inr ⟨rfl,env,hcf,hl'.symm⟩);have HB2:=hid al;have bm:=hid U;have bh:=hid z;have bk:=hid A;clear hcf hl' al U z A x0 x1 x2 x3 xf cA fA cE fE hrow hd hl'' ab;have bw:w.1.size+3<=w2.1.size:=oq;refine wpIn_loop (fun a' wr=>∃(u9 u29 u30 u31 u32 u33 u34 u43:Value)(i:Nat)(Ds:List Nat),(i<=g.length/\Mks w.1.size Ds wr/\Below w2.1.size w2 wr)/\a'={ tmps:=#[.agg #[.slice an nodes.length O,.slice J ins.length M,.slice F g.length G,.slice L v.length R],.slice (some ⟨bc,0,none⟩) l'.length l'.length,.pointer (some ⟨w.1.size,0,none⟩),undef,.pointer (some ⟨w.1.size+1,0,none⟩),.pointer (some ⟨w.1.size+1+1,0,none⟩),.slice (some ⟨b',0,none⟩) l'.length l'.length,.int .i64 0,.int .i64 0,u9,undef,.tuple #[.slice (some ⟨b',0,none⟩) l'.length l'.length,.int .i64 0,.int .i64 0],.agg #[.slice an nodes.length O,.slice J ins.length M,.slice F g.length G,.slice L v.length R],.tuple #[.slice (some ⟨b',0,none⟩) l'.length l'.length,.int .i64 0,.int .i64 0],.slice (some ⟨b',0,none⟩) l'.length l'.length,.int .i64 0,.int .i64 0,.int .i64 0,.bool false,undef,undef,.slice (some ⟨b',0,none⟩) l'.length l'.length,.slice (some ⟨bc,0,none⟩) l'.length l'.length,.bool true,.bool false,.pointer (some ⟨w.1.size,2,none⟩),.slice F g.length G,.int .i64 (g.length:Int),.int .i64 (i:Int),u29,u30,u31,u32,u33,u34,undef,undef,undef,undef,undef,undef,undef,undef,u43],defers:=Ds.map mk }) (fun a' _=>g.length-(intOf (a'.tmps.getD 28 undef)).toNat) ⟨_,_,_,_,_,_,_,_,0,[],⟨Zk _,⟨by simp,List.nodup_nil⟩,Zg _ _⟩,rfl⟩ ?_;rintro _ wr ⟨u9,u29,u30,u31,u32,u33,u34,u43,i,Ds,⟨hi,hM,E⟩,rfl⟩;dsimp only;have bx:=E.size;have HM:=hid hM;have HBW:=hid (HB2.o.trans (E.mono oq));have hA:=(E.block _ oq).trans bh.o;have hE:=(E.block _ oq).trans bk.o;have be:=(E.block _ oq).trans bm.o;have bi:=hid E;have z:Boxed wr (w.1.size+1) 3 (.int .i64 0):=hA;have A:Boxed wr (w.1.size+1+1) 38 (.int .i64 0):=hE;clear hM E hA hE;by_cases bd:i<g.length
 .have ch:(i:Int)<(g.length:Int):=oq;obtain⟨⟨x0,x1,x2,x3⟩,xf⟩:=Yy be;obtain⟨T,am⟩:=au.o _ (Zi bd);obtain⟨f,hf⟩:=ez (g[i]);have I:=hid (av.o wr HBW.o i bd oq);rw[hf] at I T am;obtain⟨cc,⟨k1,nm1,n1,d1,m,a1⟩,fa⟩:=f;unfold PE.sz at T;have bl:=hid am;have ce:=Vi (i:=i) oq;unfold spv at I;simp only at I T;clear hf am be;gi_wp2_with (refine⟨trivial,?_⟩;first|(gi_at_call 139;refine(Zu.2 I.o).mono ?_;rintro x Z ⟨⟨C,q,rfl,ay⟩,hb3⟩)|(gi_at_call 138;refine(Zu.2 (Gj (w:=Z) ⟨k1,nm1,n1,d1,m,a1⟩ C q (dg i))).mono ?_;rintro x w4 ⟨rfl,rfl⟩));have bn:=hid (show Qs w ⟨k1,nm1,n1,d1,m,a1⟩ C q (dg i) from ⟨ay,bl.o,by show(dg i).size+3*m.sz<=500;omega,by show m.sz<100;omega⟩);have bX:=Yx Z (.cells #[.int .i64 k1,.string nm1,.int .i64 n1,.int .i64 d1,.slice C m.len q,.int .i64 a1,.string (dg i)] 250);have hb4:Below wr.1.size wr (Z.alloc (.cells #[.int .i64 k1,.string nm1,.int .i64 n1,.int .i64 d1,.slice C m.len q,.int .i64 a1,.string (dg i)] 250)):=hb3.alloc hb3.size _;have bg:(Z.alloc (.cells #[.int .i64 k1,.string nm1,.int .i64 n1,.int .i64 d1,.slice C m.len q,.int .i64 a1,.string (dg i)] 250)).1.size=Z.1.size+1:=by simp
  have cj:=hb3.size;obtain⟨W1,ax⟩:=ez (Z.alloc (.cells #[.int .i64 k1,.string nm1,.int .i64 n1,.int .i64 d1,.slice C m.len q,.int .i64 a1,.string (dg i)] 250));rw[ax] at bX hb4 bg ⊢;have HB4:=hid hb4;have bo:=hid (show Below w.1.size w W1 from HBW.o.trans (hb4.mono oq));have V:w.1.size<=W1.1.size:=oq;have bj:=hid bX;clear ax hb4 ay hb3 bX z A x0 x1 x2 x3 xf I;refine wpIn_rangeFunc_ownH (encs:=fun x:VS w=>#[.agg #[.int .i64 x.s.1.k,.string x.s.1.nm,.int .i64 x.s.1.n,.int .i64 x.s.1.d,.slice x.ad x.s.1.args.len x.cap,.int .i64 x.s.1.a,.string x.s.2]]) rfl oq (gf:=192) (lb:=#[.pointer (some ⟨Z.1.size,0,none⟩)]) rfl trivial (enters_of func192 kq rfl)
   (Uf (W0:=w) Fence.wide rfl trivial trivial trivial rfl (Ee w) _ Z.1.size ⟨k1,nm1,n1,d1,m,a1⟩ C q (dg i) bn.o W1 W1.1.size (Zc _) bo.o bj.o) (fun h k=>h.trans k) (fun W l o o' hl h hc _=>KF.putObj W l o o' oq h hc) (Zg _ _) (fun _=>rfl)
   (fun pre W=>Below W1.1.size W1 W)
   (fun c pre W=>False)
   (ownFrom_below (Zc _) (Zc _))
   (fun c s X Y row hs _ _=>hs.elim)
   (Zg _ _)
   (fun x a' W=>∃Bx,W1.1.size<=Bx/\W.1[Bx]?=some (.cells #[.int .i64 x.s.1.k,.string x.s.1.nm,.int .i64 x.s.1.n,.int .i64 x.s.1.d,.slice x.ad x.s.1.args.len x.cap,.int .i64 x.s.1.a,.string x.s.2] 250 (0,0)) /\
    ∃j:Array Value,a'={ tmps:=#[j.getD 0 undef,j.getD 1 undef,j.getD 2 undef,j.getD 3 undef,j.getD 4 undef,j.getD 5 undef,j.getD 6 undef,j.getD 7 undef,j.getD 8 undef,j.getD 9 undef,.pointer (some ⟨Bx,0,none⟩),j.getD 11 undef,j.getD 12 undef,j.getD 13 undef,j.getD 14 undef,j.getD 15 undef,j.getD 16 undef,j.getD 17 undef,j.getD 18 undef,j.getD 19 undef,j.getD 20 undef,j.getD 21 undef,j.getD 22 undef,j.getD 23 undef,j.getD 24 undef,j.getD 25 undef,j.getD 26 undef,j.getD 27 undef,j.getD 28 undef,j.getD 29 undef,j.getD 30 undef,j.getD 31 undef,j.getD 32 undef,j.getD 33 undef,j.getD 34 undef,j.getD 35 undef,j.getD 36 undef,j.getD 37 undef,j.getD 38 undef,j.getD 39 undef,j.getD 40 undef,j.getD 41 undef,j.getD 42 undef,j.getD 43 undef],defers:=[] })
   (fun x a' _ X Y row hs hg hrw=>by
    obtain⟨Bx,h1,h2,h3⟩:=hs;refine⟨Bx,h1,(hg.block Bx (Zq.1 h2).1 (fun e=>?_)).trans h2,h3⟩;obtain⟨_,o,ho,hc⟩:=hrw Bx e.symm;rw[h2] at ho;cases ho;cases hc)
   ?assign ?body ?done ?stop
  case assign =>
   rintro l pre x W K y hK;gi_wp2;exact hK _ _ ((KeepsOthers.alloc _ _).from _) ((KF.refl _ _ W).alloc (Zm V y.size) _) (y.alloc y.size _) ⟨W.1.size,y.size,Yx W _,⟨#[.agg #[.slice an nodes.length O,.slice J ins.length M,.slice F g.length G,.slice L v.length R],.slice (some ⟨bc,0,none⟩) l'.length l'.length,.pointer (some ⟨w.1.size,0,none⟩),undef,.pointer (some ⟨w.1.size+1,0,none⟩),.pointer (some ⟨w.1.size+1+1,0,none⟩),.slice (some ⟨b',0,none⟩) l'.length l'.length,.int .i64 0,.int .i64 0,.int .i64 (i:Int),undef,.tuple #[.slice (some ⟨b',0,none⟩) l'.length l'.length,.int .i64 0,.int .i64 0],.agg #[.slice an nodes.length O,.slice J ins.length M,.slice F g.length G,.slice L v.length R],.tuple #[.slice (some ⟨b',0,none⟩) l'.length l'.length,.int .i64 0,.int .i64 0],.slice (some ⟨b',0,none⟩) l'.length l'.length,.int .i64 0,.int .i64 0,.int .i64 0,.bool false,undef,undef,.slice (some ⟨b',0,none⟩) l'.length l'.length,.slice (some ⟨bc,0,none⟩) l'.length l'.length,.bool true,.bool false,.pointer (some ⟨w.1.size,2,none⟩),.slice F g.length G,.int .i64 (g.length:Int),.int .i64 (i:Int),.bool true,.int .i64 (i:Int),.agg #[.slice an nodes.length O,.slice J ins.length M,.slice F g.length G,.slice L v.length R],.int .i64 (i:Int),.agg #[.int .i64 k1,.string nm1,.int .i64 n1,.int .i64 d1,.slice C m.len q,.int .i64 a1,.string (dg i)],.func (.func 192) #[] #[.pointer (some ⟨Z.1.size,0,none⟩)],.agg #[.int .i64 x.s.1.k,.string x.s.1.nm,.int .i64 x.s.1.n,.int .i64 x.s.1.d,.slice x.ad x.s.1.args.len x.cap,.int .i64 x.s.1.a,.string x.s.2],undef,undef,undef,undef,undef,undef,undef,u43],rfl⟩⟩
  case body =>
   rintro l pre ⟨⟨⟨k2,bt,n2,d2,ae,a2⟩,bz⟩,bp,aw,H⟩ a' W hl ⟨r,hr⟩ y ⟨Bx,cd,ap,j,rfl⟩ bu;simp only at ap;obtain⟨⟨x0,x1,x2,x3,x4,x5,x6⟩,xf⟩:=Y5 ap;have bf:=y.size;have ac:=hid (uT (w:=W) ⟨k2,bt,n2,d2,ae,a2⟩ bp aw H.good);unfold ev at ac;simp only at ac;have aq:=hid y;clear y ap hr;gi_wp2_with (refine⟨trivial,?_⟩;gi_at_call 140;refine(CallsIn.inRound l (Zu.2 ac.o)).mono ?_;rintro e w5 ⟨rfl,hb5⟩);exact⟨⟨hb5.size,fun k o _ hk _=>(hb5.block k (Zb hk)).trans hk⟩,(KF.refl _ _ W).of_below hb5 (Zm V bf),aq.o.trans (hb5.mono bf)⟩
  case done =>
   rintro D zs W hD ck y hK;gi_wp2;rw[show((i:Int)+1)=((i+1:Nat):Int) by omega];refine⟨⟨_,_,_,_,_,_,_,_,i+1,D::Ds,⟨oq,HM.o.cons (HB4.o.trans (y.mono oq)) oq oq hK,bi.o.trans ((HB4.o.trans (y.mono oq)).mono oq)⟩,rfl⟩,by simp[intOf];omega⟩
  rintro D c pre W hD bv hf hK;exact hf.elim
 have cg:¬(i:Int)<(g.length:Int):=oq;have cA:=z.cell;have fA:=z.frozen;have cE:=A.cell;have fE:=A.frozen;gi_wp2;refine Ql Ds _ ((HM.o.set _ _).set _ _) (fun w' hk=>?_);have ah:=hk.same _ _ ((z.set (.int .i64 0)).other (show w.1.size+1≠w.1.size+1+1 by omega) (.int .i64 0)) rfl;have ak:=hk.same _ _ ((A.other (show w.1.size+1+1≠w.1.size+1 by omega) (.int .i64 0)).set (.int .i64 0)) rfl;have ca:=(show Boxed w' _ _ _ from ah).cell;have cb:=(show Boxed w' _ _ _ from ak).cell;refine⟨.tuple #[.int .i64 0,.int .i64 0],?_,?_,?_⟩
 .simp only[results,results80];go_simp
 .exact ar.o
 exact((HBW.o.setCell (p:=⟨w.1.size+1,0,none⟩) (by simp) _).setCell (p:=⟨w.1.size+1+1,0,none⟩) (by simp;omega) _).trans hk.below
def ZgS{α:Type}(F:Fence)(n:Nat)(P:Program)(g:Nat)(lb:Array Value)(encs:α->Array Value)(n₀ Bk:Nat)(S Sp:List α->Prop)(N:Nat)(w:World):Prop :=
 ∀(l:Nat)(J Jx:List α->World->Prop)(W:World),Below w.1.size w W->OwnFrom W.1.size J->OwnFrom W.1.size Jx ->
  (∀pre x W1,J pre W1->pre.length<N->YieldAt F (n-1) P l (encs x) W1 fun e W'=>(e=.returned (.bool true)/\J (pre++[x]) W'/\KF n₀ Bk W1 W'/\KeepsFrom W.1.size W1 W')\/(e=.returned (.bool false)/\Jx (pre++[x]) W'/\KeepsFrom W.1.size W1 W')) ->
  J [] W->CallsIn F n P g (#[.func (.yield l) #[] #[]]++lb) W fun e W'=>(∃v,e=.returned v)/\((∃xs,S xs/\J xs W')\/(∃pre,Sp pre/\Jx pre W'))
theorem uI{α:Type}{F:Fence}{n:Nat}{P:Program}{g:Operand}{ps:Array Tmp}{assign body:Code}{Q:Exit->Act->World->Prop}{a:Act}{w:World}(ao:F.round=none)(h1:1<=n){gf:Nat}{lb:Array Value}
  (hg:a.eval g=.func (.func gf) #[] lb)(ah:F.fn gf)(eg:∀args w,(callFunc gf args).run P w=.ok (.enter gf args) w){encs:α->Array Value}{n₀ Bk:Nat}(hn:n₀<=w.1.size){S Sp:List α->Prop}{N:Nat}
  (af:ZgS F (n-1) P gf lb encs n₀ Bk S Sp N w)(an:∀x,(encs x).size=ps.size)(I Ix:List α->World->Prop)(Z:OwnFrom w.1.size I)(L:OwnFrom w.1.size Ix)(h0:I [] w)
  (Ax:α->Act->World->Prop)(ag:∀x E,OwnFrom w.1.size (fun(_:Unit) W=>Ax x E W))
  (z:∀(l:Nat)(pre:List α)(x:α)(W:World)(K:Act->World->Prop),I pre W->(∀E W',Below W.1.size W W'->I pre W'->Ax x E W'->K E W') ->
   assign.wpIn (F.inRound l) (n-1-1) P (Exit.then K (fun _ _ _=>False)) { tmps:=(ps.zip (encs x)).foldl (fun t (p,v)=>t.setIfInBounds p v) a.tmps,defers:=[] } W)
  (M:∀(l:Nat)(pre:List α)(x:α)(E:Act)(W:World),w.1.size<=l->(∃r,W.1[l]?=some (.loop r))->I pre W->Ax x E W->pre.length<N ->
   body.wpIn (F.inRound l) (n-1-1) P (ownPostG w.1.size (KF n₀ Bk) I (fun c xs W=>c=.ret/\Ix xs W) (pre++[x]) W) E W)
  (T:∀(D:Nat)(xs:List α)(W:World),w.1.size<=D->S xs->I xs W->W.1[D]?=some (.deferred (some []))->Q .normal { a with defers:=mk D::a.defers } W)
  (Y:∀(D:Nat)(pre:List α)(W:World),w.1.size<=D->Sp pre->Ix pre W->W.1[D]?=some (.deferred (some []))->Code.ret.wpIn F n P Q { a with defers:=mk D::a.defers } W) :
  (Code.rangeFunc g ps assign body).wpIn F n P Q a w:=by
 refine wpIn_rangeFunc (fun fn hfn=>?_);rw[ao];let R:LoopState->Option Code->Loop:=fun st pe=>{ state:=st,pending:=pe,fn,tmps:=a.tmps,params:=ps,assign,body,defers:=w.1.size }
 let W1:World:=(w.alloc (.deferred (some []))).alloc (.loop (R .ready none));have aq:W1.1.size=w.1.size+2:=by simp[W1]
 have hb1:Below w.1.size w W1:=((Zg _ w).alloc (Zc _) _).alloc (by simp) _;have hL:W1.1[w.1.size+1]?=some (.loop (R .ready none)):=by
  have:=World.alloc_heap_new (w.alloc (.deferred (some []))) (.loop (R .ready none))
  rwa [Zv] at this
 have hD:W1.1[w.1.size]?=some (.deferred (some [])):=(Za _ _ _ (by simp)).trans (World.alloc_heap_new w _);refine⟨w.1.size+1,[mk w.1.size],W1,{ target:=.fn (.func gf) lb,args:=#[.func (.yield (w.1.size+1)) #[] #[]] },W1,gf,#[.func (.yield (w.1.size+1)) #[] #[]]++lb,W1,run_enterLoop_outer _ _ _ _ _,?_,?_,?_,fun _=>h1,?_⟩
 .simp only[resolve,hg];simp[go_sem]
 .intro f' aa;simp[Target.leads] at aa;subst aa;exact ah
 .simp[invoke,go_sem,eg]
 have q:∀{A B:World}{row:Option Nat}{k:Nat}{o:Obj},A.grownBy B row->(∀r,row=some r->W1.1.size<=r/\∃o:Obj,A.1[r]?=some o/\o.isCells=false)->k<W1.1.size->A.1[k]?=some o->B.1[k]?=some o:=by
  intro A B row k o f y V ho;refine(f.block k (Zq.1 ho).1 (fun e=>?_)).trans ho;have:=(y k e.symm).1;omega
 have J:∀{A:World}{row:Option Nat},(∀r,row=some r->W1.1.size<=r/\∃o:Obj,A.1[r]?=some o/\o.isCells=false)->(∀r,row=some r->w.1.size<=r/\∃o:Obj,A.1[r]?=some o/\o.isCells=false) :=
  fun y r e=>⟨by have:=(y r e).1;omega,(y r e).2⟩
 refine(af (w.1.size+1) (fun pre W=>(I pre W/\W.1[w.1.size+1]?=some (.loop (R .ready none)))/\W.1[w.1.size]?=some (.deferred (some [])))
  (fun pre W=>(Ix pre W/\W.1[w.1.size+1]?=some (.loop (R .done (some .ret))))/\W.1[w.1.size]?=some (.deferred (some []))) W1 hb1
  (fun s A B row hs f y=>⟨⟨Z s A B row hs.1.1 f (J y),q f y oq hs.1.2⟩,q f y oq hs.2⟩)
  (fun s A B row hs f y=>⟨⟨L s A B row hs.1.1 f (J y),q f y oq hs.1.2⟩,q f y oq hs.2⟩) ?_ ⟨⟨Z.alloc _ (Z.alloc _ h0),hL⟩,hD⟩).mono ?_
 .rintro pre x W ⟨⟨hi,G⟩,V⟩ ae;refine⟨fn,_,assign,body,run_yield (P:=P) (args:=encs x) G (an x),roundIn_of_wpIn hfn (z _ pre x W _ hi (fun E Wa hba hia hax=>?_))⟩;have C:=(hba.block _ (Zq.1 G).1).trans G;have al:=(hba.block _ (Zq.1 V).1).trans V;have am:w.1.size+1<Wa.1.size:=(Zq.1 C).1;have ap:w.1.size+1<W.1.size:=(Zq.1 G).1;refine⟨_,run_beginRound C rfl,?_⟩;have X:(Wa.putObj (w.1.size+1) (.loop { R .ready none with state:=.busy })).1[w.1.size+1]?=some (.loop { R .ready none with state:=.busy }):=World.putObj_heap_same am;have ab:(Wa.putObj (w.1.size+1) (.loop { R .ready none with state:=.busy })).1[w.1.size]?=some (.deferred (some [])):=(World.putObj_heap_other oq).trans al;have ai:KF n₀ Bk W Wa:=(KF.refl n₀ Bk W).of_below hba oq;have aj:KF n₀ Bk W (Wa.putObj (w.1.size+1) (.loop { R .ready none with state:=.busy })):=ai.trans (KF.putObj _ _ _ _ oq C rfl);have H:KeepsFrom W1.1.size W (Wa.putObj (w.1.size+1) (.loop { R .ready none with state:=.busy })):=⟨by simpa using hba.size,fun k o hk1 hko _=>(World.putObj_heap_other oq).trans ((hba.block k (Zq.1 hko).1).trans hko)⟩;refine wpIn_mono (M _ pre x E _ oq ⟨_,X⟩ (Z.putObj _ hia oq C rfl) ((ag x E).putObj (s:=()) _ hax oq C rfl) ae) ?_;rintro e a3 W3 hp
  cases e with
  | normal =>
   obtain⟨j,ac,U⟩:=hp;have m:=j.same _ _ oq X rfl;have O:=j.same _ _ (Zc _) ab rfl;refine⟨_,_,run_endRound (P:=P) none m,.inl ⟨rfl,⟨⟨Z.putObj _ U oq m rfl,World.putObj_heap_same (Zq.1 m).1⟩,(World.putObj_heap_other oq).trans O⟩,(aj.trans ac).trans (KF.putObj _ _ _ _ oq m rfl),?_⟩⟩;exact⟨Zm (Zm H.size j.size) (by simp),fun k o hk1 hko hc=>(World.putObj_heap_other oq).trans (j.same _ _ oq (H.same k o hk1 hko hc) hc)⟩
  | ret =>
   obtain⟨j,_,U⟩:=hp;have m:=j.same _ _ oq X rfl;have O:=j.same _ _ (Zc _) ab rfl;refine⟨_,_,run_endRound (P:=P) (some .ret) m,.inr ⟨rfl,⟨⟨L.putObj _ U oq m rfl,World.putObj_heap_same (Zq.1 m).1⟩,(World.putObj_heap_other oq).trans O⟩,?_⟩⟩;exact⟨Zm (Zm H.size j.size) (by simp),fun k o hk1 hko hc=>(World.putObj_heap_other oq).trans (j.same _ _ oq (H.same k o hk1 hko hc) hc)⟩
  | exit id=>obtain⟨_,h,_⟩:=hp;cases h
  | goto t=>obtain⟨_,h,_⟩:=hp;cases h
  | panic ch=>exact hp.elim
  | outgrown=>exact hp.elim
 rintro e W2 ⟨⟨v,rfl⟩,(⟨xs,hS,⟨hi,G⟩,V⟩|⟨pre,ak,⟨hi,G⟩,V⟩)⟩
 .exact⟨none,_,run_endLoop (P:=P) G (by simp[R]),T _ xs _ (Zc _) hS (Z.putObj _ hi oq G rfl) ((World.putObj_heap_other oq).trans V)⟩
 exact⟨some .ret,_,run_endLoop (P:=P) G (by simp[R]),Y _ pre _ (Zc _) ak (L.putObj _ hi oq G rfl) ((World.putObj_heap_other oq).trans V)⟩
attribute [local go_sem] ZU
def MkB(W:World)(m:Nat)(p:PG)(an ai af ao:OA)(cn ci cf co:Nat)(mc mi mf mn mx:Nat):Prop :=
 W.1[m]?=some (.cells #[.slice an p.nodes.length cn,.slice ai p.ins.length ci,.slice af p.flows.length cf,.slice ao p.outs.length co,.map (some mc),.map (some mi),.map (some mf),.map (some mn),.map (some mx)] 255 (0,0))
theorem Y1{w:World}{b:Nat}{f g j m q v x y z:Value}{t:TypeId}(h:w.1[b]?=some (.cells #[f,g,j,m,q,v,x,y,z] t (0,0))) :
  (w.cell? ⟨b,0,none⟩=some f/\w.cell? ⟨b,1,none⟩=some g/\w.cell? ⟨b,2,none⟩=some j/\w.cell? ⟨b,3,none⟩=some m/\w.cell? ⟨b,4,none⟩=some q/\w.cell? ⟨b,5,none⟩=some v/\w.cell? ⟨b,6,none⟩=some x/\w.cell? ⟨b,7,none⟩=some y/\w.cell? ⟨b,8,none⟩=some z)/\∀o,w.frozen? ⟨b,o,none⟩=false:=by
 refine⟨⟨?_,?_,?_,?_,?_,?_,?_,?_,?_⟩,?_⟩
 all_goals first|(intro o;simp[World.frozen?,h])|simp[World.cell?,h]
theorem Uq{w:World}(m i:Nat):Calls prog 142 #[.pointer (some ⟨m,0,none⟩),.int .i64 (i:Int)] w fun x w' =>
  x=.returned (.func (.func 195) #[] #[.pointer (some ⟨w.1.size,0,none⟩),.pointer (some ⟨w.1.size+1,0,none⟩)]) /\
   w'=(w.alloc (.cells #[.pointer (some ⟨m,0,none⟩)] 167)).alloc (.cells #[.int .i64 (i:Int)] 3):=by
 go_enter func142,ntmps142;go_wp2;go_ret;exact⟨rfl,rfl⟩
def isC(s:PE × ByteArray):Bool:=decide (s.1.k=2)
theorem uH{β:Type}{n₀ Bk:Nat}{W:World}(q:n₀<=W.1.size):OwnFrom W.1.size (fun(_:β) X=>KF n₀ Bk W X):=by
 intro s X Y row x m v;refine⟨ownFrom_below (β:=Unit) q q () X Y row x.below m v,fun k o hb hk hc=>?_⟩;have j:=x.same k o hb hk hc;refine(m.block k (Zq.1 j).1 (fun e=>?_)).trans j;obtain⟨_,y,g,f⟩:=v k e.symm;rw[j] at g
 cases g
 rw[EE hc] at f
 cases f
theorem gT{β:Type}{B B':Nat}{I:β->World->Prop}(h:OwnFrom B I)(hb:B<=B'):OwnFrom B' I:=fun s X Y row hs hg hr=>h s X Y row hs hg (fun r e=>⟨Zm hb (hr r e).1,(hr r e).2⟩)
theorem ql{W0:World}(p:PG)(an ai af ao:OA)(cn ci cf co:Nat)(hp:AP W0 p an ai af ao cn ci cf co)(T:JW p)(mc mi mf mn mx:Nat)(m B1 B2 i n l Bk:Nat)(hi:i<p.flows.length)(J Jx:List (VS W0)->World->Prop)(W:World)
  (hB:Below W0.1.size W0 W)(bn:Bk<=W.1.size)(hm:MkB W m p an ai af ao cn ci cf co mc mi mf mn mx)(hb1:Boxed W B1 167 (.pointer (some ⟨m,0,none⟩)))(hb2:Boxed W B2 3 (.int .i64 (i:Int)))(hJ:OwnFrom W.1.size J)(av:OwnFrom W.1.size Jx)
  (hY:∀pre x W1,J pre W1->pre.length<p.flows[i].e.args.sz+1->YieldAt Fence.wide (n-1) prog l (VS.vs x) W1 fun e W'=>(e=.returned (.bool true)/\J (pre++[x]) W'/\KF W0.1.size Bk W1 W'/\KeepsFrom W.1.size W1 W')\/(e=.returned (.bool false)/\Jx (pre++[x]) W'/\KeepsFrom W.1.size W1 W'))
  (h0:J [] W) :
  CallsIn Fence.wide n prog 195 #[.func (.yield l) #[] #[],.pointer (some ⟨B1,0,none⟩),.pointer (some ⟨B2,0,none⟩)] W fun e W'=>(∃v,e=.returned v) /\
   ((∃xs:List (VS W0),xs.map (·.s)=(YV p.flows[i].e (dg i)).filter isC/\J xs W')\/(∃pre:List (VS W0),pre.map (·.s) <+: (YV p.flows[i].e (dg i)).filter isC/\Jx pre W')):=by
 have I:=hid (fun(w':World) (hb:Below W0.1.size W0 w')=>Qw hb p an ai af ao cn ci cf co hp i hi (by have:=T.lens;omega));obtain⟨aj,ak⟩:=T.flows _ (Zi hi);obtain⟨⟨k1,nm1,n1,d1,g,Z⟩,he⟩:∃e,p.flows[i].e=e:=⟨_,rfl⟩;rw[he] at I hY aj ak ⊢;unfold PE.sz at aj;have bi:=hid ak;have cc:=Vi (i:=i) (by have:=T.lens;omega);have HY:=hid hY;have bk:=hid hm;have HB:=hid hB;have HB1:=hid hb1;have HB2:=hid hb2;have HJ:=hid hJ;have aq:=hid av;have H0:=hid h0;obtain⟨⟨x0,x1,x2,x3,x4,x5,x6,x7,x8⟩,xf⟩:=Y1 (show W.1[m]?=_ from hm);have c1:=hb1.cell;have c2:=hb2.cell;have bc:=hB.size;have bs:=Zb hm;have bp:=hb1.lt;have br:=hb2.lt;unfold pv spv at I;simp only at I aj;clear ak hY hm hB hb1 hb2 hJ av h0 he;refine(Zu (n:=n)).2 ((Zu (n:=6)).1 ?_);refine callsIn_of_wp_marks func195 rfl trivial ?_ rfl;simp only[ntmps195,ZJ,Zp,Zx,Nat.reduceAdd,Nat.reduceSub,ZG,ZF,ZM,ZK,ZN,ZD];gi_wp2;obtain⟨G,O⟩:=ez (W.alloc (.cells #[.func (.yield l) #[] #[]] 258));have hb3:Below W.1.size W G:=by rw[<-O];exact(Zg _ _).alloc (Zc _) _
 have au:Boxed G W.1.size 258 (.func (.yield l) #[] #[]):=by rw[<-O];exact Boxed.new _ _ _
 have cd:G.1.size=W.1.size+1:=by rw[<-O];simp
 rw[O];clear O x0 x1 x2 x3 x4 x5 x6 x7 x8 xf c1 c2;obtain⟨⟨x0,x1,x2,x3,x4,x5,x6,x7,x8⟩,xf⟩:=Y1 ((hb3.block _ bs).trans bk.o);have c1:=(show Boxed G B1 _ _ from(hb3.block _ bp).trans HB1.o).cell;have c2:=(show Boxed G B2 _ _ from(hb3.block _ br).trans HB2.o).cell;have HB3:=hid hb3;have bh:=hid au;clear hb3 au;refine wpIn_wide.2 ?_;go_still_tail 5,kq
 change wpList _ _ _ _ _ G.drew
 have ah:Below G.1.size G G.drew:=⟨rfl,rfl,rfl,Zc _,fun k _=>rfl⟩;go_wp2_with (first|(go_at_call 139;refine(I.o G.drew (HB.o.trans ((HB3.o.trans (ah.mono oq)).mono bc))).mono ?_;rintro x U ⟨⟨C,j,rfl,ax⟩,hb4⟩)|(go_at_call 138;refine(Gj (w:=U) ⟨k1,nm1,n1,d1,g,Z⟩ C j (dg i)).mono ?_;rintro x w5 ⟨rfl,rfl⟩));have bl:=hid (show Qs W0 ⟨k1,nm1,n1,d1,g,Z⟩ C j (dg i) from ⟨ax,bi.o,by show(dg i).size+3*g.sz<=500;omega,by show g.sz<100;omega⟩);have bX:=Yx U (.cells #[.int .i64 k1,.string nm1,.int .i64 n1,.int .i64 d1,.slice C g.len j,.int .i64 Z,.string (dg i)] 250);have bu:G.1.size<=U.1.size:=hb4.size;have hb5:Below G.1.size G (U.alloc (.cells #[.int .i64 k1,.string nm1,.int .i64 n1,.int .i64 d1,.slice C g.len j,.int .i64 Z,.string (dg i)] 250)):=(ah.trans (show Below G.1.size G.drew U from hb4)).alloc bu _;have bd:(U.alloc (.cells #[.int .i64 k1,.string nm1,.int .i64 n1,.int .i64 d1,.slice C g.len j,.int .i64 Z,.string (dg i)] 250)).1.size=U.1.size+1:=by simp
 obtain⟨L,aw⟩:=ez (U.alloc (.cells #[.int .i64 k1,.string nm1,.int .i64 n1,.int .i64 d1,.slice C g.len j,.int .i64 Z,.string (dg i)] 250));rw[aw] at bX hb5 bd ⊢;have y:Below W.1.size W L:=HB3.o.trans (hb5.mono oq);have bm:=hid (show Below W0.1.size W0 L from HB.o.trans (y.mono bc));have bg:=hid bX;have ap:=hid (show Boxed L W.1.size 258 (.func (.yield l) #[] #[]) from(hb5.block _ oq).trans bh.o);have bf:=hid (show J [] L from HJ.o [] W L none H0.o ⟨y.os,y.tape,y.output,y.size,fun k hk _=>y.block k hk⟩ (fun r e=>by cases e));have bt:W0.1.size<=L.1.size:=oq;have az:W.1.size<=L.1.size:=oq;clear aw ax hb4 bX hb5 ah x0 x1 x2 x3 x4 x5 x6 x7 x8 xf c1 c2 I y;gi_wp2;refine wpIn_rangeFunc_ownH (encs:=fun x:VS W0=>#[.agg #[.int .i64 x.s.1.k,.string x.s.1.nm,.int .i64 x.s.1.n,.int .i64 x.s.1.d,.slice x.ad x.s.1.args.len x.cap,.int .i64 x.s.1.a,.string x.s.2]]) rfl oq (gf:=192) (lb:=#[.pointer (some ⟨U.1.size,0,none⟩)]) rfl trivial (enters_of func192 kq rfl)
  (Uf (W0:=W0) Fence.wide rfl trivial trivial trivial rfl (Ee W0) _ U.1.size ⟨k1,nm1,n1,d1,g,Z⟩ C j (dg i) bl.o L Bk oq bm.o bg.o) (fun h k=>h.trans k) (fun W l o o' hl h hc _=>KF.putObj W l o o' oq h hc) (Zg _ _) (fun _=>rfl)
  (fun pre X=>KF W0.1.size Bk L X/\∃q:List (VS W0),J q X/\(q.map (·.s)=(pre.map (·.s)).filter isC/\q.length<=pre.length))
  (fun c pre X=>c=.ret/\∃q:List (VS W0),Jx q X/\q.map (·.s)=(pre.map (·.s)).filter isC)
  (OwnFrom.and (uH bt) (fun s X Y row hs hg hr=>by obtain⟨q,h1,h2⟩:=hs;exact⟨q,(gT HJ.o az) q X Y row h1 hg hr,h2⟩))
  (fun c s X Y row hs hg hr=>by obtain⟨h0,q,h1,h2⟩:=hs;exact⟨h0,q,(gT aq.o az) q X Y row h1 hg hr,h2⟩)
  ⟨KF.refl _ _ _,[],bf.o,rfl,Zc _⟩
  (fun x a' X=>∃Bx,L.1.size<=Bx/\X.1[Bx]?=some (.cells #[.int .i64 x.s.1.k,.string x.s.1.nm,.int .i64 x.s.1.n,.int .i64 x.s.1.d,.slice x.ad x.s.1.args.len x.cap,.int .i64 x.s.1.a,.string x.s.2] 250 (0,0)) /\
   a'={ tmps:=#[.func (.yield l) #[] #[],.pointer (some ⟨B1,0,none⟩),.pointer (some ⟨B2,0,none⟩),.pointer (some ⟨W.1.size,0,none⟩),.pointer (some ⟨Bx,0,none⟩),.pointer (some ⟨m,0,none⟩),.pointer (some ⟨m,0,none⟩),.pointer (some ⟨m,0,none⟩),.agg #[.slice an p.nodes.length cn,.slice ai p.ins.length ci,.slice af p.flows.length cf,.slice ao p.outs.length co],.int .i64 (i:Int),.agg #[.int .i64 k1,.string nm1,.int .i64 n1,.int .i64 d1,.slice C g.len j,.int .i64 Z,.string (dg i)],.func (.func 192) #[] #[.pointer (some ⟨U.1.size,0,none⟩)],.agg #[.int .i64 x.s.1.k,.string x.s.1.nm,.int .i64 x.s.1.n,.int .i64 x.s.1.d,.slice x.ad x.s.1.args.len x.cap,.int .i64 x.s.1.a,.string x.s.2],undef,undef,undef,undef,undef,undef,undef,undef,undef,undef],defers:=[] })
  (fun x a' _ X Y row hs hg hrw=>by
   obtain⟨Bx,h1,h2,h3⟩:=hs;refine⟨Bx,h1,(hg.block Bx (Zq.1 h2).1 (fun e=>?_)).trans h2,h3⟩;obtain⟨_,o,ho,hc⟩:=hrw Bx e.symm;rw[h2] at ho;cases ho;cases hc)
  ?assign ?body ?done ?stop
 case assign =>
  rintro l2 pre x X K ⟨z,q,E,A⟩ hK;gi_wp2;have bb:=z.below.size;exact hK _ _ ((KeepsOthers.alloc _ _).from _) ((KF.refl _ _ X).alloc oq _) ⟨z.alloc oq _,q,HJ.o q X _ none E (World.grownBy_alloc X _ none) (fun r e=>by cases e),A⟩ ⟨X.1.size,bb,Yx X _,rfl⟩
 case body =>
  rintro l2 pre ⟨⟨⟨k2,be,n2,d2,M,a2⟩,ac⟩,ar,aa,T⟩ a' X bz ⟨r,hr⟩ ⟨z,q,E,A,bv⟩ ⟨Bx,cb,am,rfl⟩ ab;simp only at am;obtain⟨⟨x0,x1,x2,x3,x4,x5,x6⟩,xf⟩:=Y5 am;have bb:L.1.size<=X.1.size:=z.below.size;have cY:=(show Boxed X W.1.size _ _ from z.same _ _ bn ap.o rfl).cell;obtain⟨V,ag,bo⟩:∃V:VS W0,V=⟨(⟨k2,be,n2,d2,M,a2⟩,ac),ar,aa,T⟩/\V.vs=#[.agg #[.int .i64 k2,.string be,.int .i64 n2,.int .i64 d2,.slice ar M.len aa,.int .i64 a2,.string ac]]:=⟨_,rfl,rfl⟩;rw[<-ag];by_cases al:k2=2
  .subst al;have H:isC V.s=true:=by rw[ag];rfl
   have ca:pre.length<g.sz+1:=ab;obtain⟨fn,tmps,assign,body,hy,hR⟩:=YieldAt.deep (F:=Fence.wide) rfl 3 (HY.o q V X E (by show q.length<g.sz+1;omega));rw[bo] at hy;have HR:=hid hR;have bj:=hid z;clear hR hr am z ab;gi_wp2;refine RoundIn.mono (show RoundIn (Fence.wide.inRound l2) 3 _ _ _ _ _ _ _ _ from HR.o) ?_;rintro e w7 (⟨rfl,ae,ay,R⟩|⟨rfl,ae,R⟩)
   .gi_wp2;exact⟨⟨R.size,fun k o hk ho hc=>R.same k o oq ho hc⟩,ay,bj.o.trans ay,q++[V],ae,by rw[ZV,ZV,List.filter_append,A];simp[H],by simp;omega⟩
   gi_wp2;exact⟨⟨R.size,fun k o hk ho hc=>R.same k o oq ho hc⟩,rfl,q++[V],ae,by rw[ZV,ZV,List.filter_append,A];simp[H]⟩
  have bx:(k2 == 2)=false:=ZZ.2 al;have H:isC V.s=false:=by rw[ag];exact Z0 al
  gi_wp2
  repeat (refine⟨(fun(f:FuncId) (h:none=some f)=>by cases h),?_⟩;gi_wp2)
  exact⟨KeepsFrom.refl _ _,KF.refl _ _ _,z,q,E,by rw[ZV,List.filter_append,A];simp[H],by simp;omega⟩
 case done =>
  rintro D zs X hD bw ⟨z,q,E,A,bv⟩ hK;gi_wp2;refine⟨by simp,.inl ⟨_,_,rfl,run_takeDeferred hK,?_⟩⟩;refine⟨_,results_none rfl _ _ _,⟨_,rfl⟩,.inl ⟨q,by rw[A,bw],HJ.o.putObj _ E oq hK rfl⟩⟩
 rintro D c pre X hD ba ⟨rfl,q,E,A⟩ hK;gi_wp2;refine⟨by simp,.inl ⟨_,_,rfl,run_takeDeferred hK,?_⟩⟩;refine⟨_,results_none rfl _ _ _,⟨_,rfl⟩,.inr ⟨q,?_,aq.o.putObj _ E oq hK rfl⟩⟩;rw[A];exact ba.filter _
theorem QI:X3 161 9 50 (.agg #[.int .i64 0,.int .i64 0]):=⟨by kernel_rfl,by kernel_rfl,fun w=>by kernel_rfl,fun b s w=>by cases b<;>kernel_rfl⟩
theorem Q0:X3 252 9 3 (.int .i64 0):=⟨by kernel_rfl,by kernel_rfl,fun w=>by kernel_rfl,fun b s w=>by cases b<;>kernel_rfl⟩
theorem eJ:X3 253 248 3 (.int .i64 0):=⟨by kernel_rfl,by kernel_rfl,fun w=>by kernel_rfl,fun b s w=>by cases b<;>kernel_rfl⟩
abbrev IE:=ByteArray->Option Nat
def VV(e:IE)(k:ByteArray)(j:Nat):IE:=fun nm=>if nm=k then some j else e nm
def inI:List ByteArray->Nat->IE->IE
 | [],_,e=>e
 | k::l,i,e=>inI l (i+1) (VV e k i)
def XF(L:List (ByteArray × Value))(e:IE):Prop:=∀nm,Xm nm L=(e nm).map (fun j=>.int .i64 (j:Int))
theorem XF.nil:XF [] (fun _=>none):=fun _=>rfl
theorem XF.put{L:List (ByteArray × Value)}{e:IE}(h:XF L e)(k:ByteArray)(j:Nat):XF (JB k (.int .i64 (j:Int)) L) (VV e k j):=by
 intro g;rw[UX];unfold VV;by_cases f:g=k
 .rw[Z3 f,Z3 f];rfl
 rw[Z2 f,Z2 f];exact h g
theorem EA:∀(l:List ByteArray)(i:Nat)(e:IE)(nm:ByteArray)(j:Nat),inI l i e nm=some j->(∃h:j-i<l.length,i<=j/\l[j-i]=nm)\/e nm=some j
 | [],i,e,nm,j,h=>.inr h
 | k::l,i,e,nm,j,h=>by
  rcases EA l (i+1) (VV e k i) nm j h with ⟨h1,h2,h3⟩|h1
  .refine .inl ⟨by simp only[Zp];omega,oq,?_⟩;have he:j-i=(j-(i+1))+1:=oq;simp only[he,Zt];exact h3
  unfold VV at h1;by_cases hk:nm=k
  .rw[Z3 hk] at h1;injection h1 with h1
   subst h1;refine .inl ⟨by simp,Zc _,?_⟩;simp[hk]
  rw[Z2 hk] at h1;exact .inr h1
theorem zX:∀(l:List ByteArray)(i:Nat)(e:IE)(nm:ByteArray),e nm≠none->inI l i e nm≠none
 | [],i,e,nm,h=>h
 | k::l,i,e,nm,h=>zX l (i+1) (VV e k i) nm (by
  unfold VV;by_cases hk:nm=k
  .rw[Z3 hk];exact Option.some_ne_none _
  rw[Z2 hk];exact h)
theorem Kz:∀(l:List ByteArray)(i:Nat)(e:IE)(nm:ByteArray),nm∈l->inI l i e nm≠none
 | k::l,i,e,nm,h=>by
  rcases ZS.1 h with rfl|h
  .refine zX l (i+1) _ nm ?_;unfold VV;rw[Z3 rfl];exact Option.some_ne_none _
  exact Kz l (i+1) _ nm h
def VE(env':Env):List FL->Env->Env
 | [],e=>e
 | f::l,e=>VE env' l (upd e f.nm (Jo env' f.nm))
structure MkS (W0:World) (n:Nat) (mk:Obj) (mc mi mf mn mx m:Nat) (W:World) (Lc Li Lf Ln:List (ByteArray × Value)):Prop where
 low:Below n W0 W
 ord:n<=mc/\mc<mi/\mi<mf/\mf<mn/\mn<mx/\mx<m
 box:W.1[m]?=some mk
 c:YT W mc Lc
 i:YT W mi Li
 f:YT W mf Lf
 nd:YT W mn Ln
 x:YT W mx []
section
variable {W0:World} {n:Nat} {mk:Obj} {mc mi mf mn mx m:Nat} {W W':World} {Lc Li Lf Ln:List (ByteArray × Value)}
theorem MkS.lt(h:MkS W0 n mk mc mi mf mn mx m W Lc Li Lf Ln):m<W.1.size:=Zb h.box
theorem MkS.grow(h:MkS W0 n mk mc mi mf mn mx m W Lc Li Lf Ln)(hb:Below W.1.size W W'):MkS W0 n mk mc mi mf mn mx m W' Lc Li Lf Ln :=
 ⟨h.low.trans (hb.mono (by have:=h.lt;have:=h.ord;omega)),h.ord,(hb.block _ h.lt).trans h.box,h.c.below hb,h.i.below hb,h.f.below hb,h.nd.below hb,h.x.below hb⟩
theorem MkS.putC(h:MkS W0 n mk mc mi mf mn mx m W Lc Li Lf Ln){o:Obj}{L:List (ByteArray × Value)}(j:YT (World.putM W mc o) mc L):MkS W0 n mk mc mi mf mn mx m (World.putM W mc o) L Li Lf Ln:=by
 have g:Upon mc W (World.putM W mc o):=YR (Upon.refl _ _) _;have q:=h.ord;exact⟨QG h.low oq _,q,(g.block _ h.lt oq).trans h.box,j,h.i.upon g oq,h.f.upon g oq,h.nd.upon g oq,h.x.upon g oq⟩
theorem MkS.putI(h:MkS W0 n mk mc mi mf mn mx m W Lc Li Lf Ln){o:Obj}{L:List (ByteArray × Value)}(j:YT (World.putM W mi o) mi L):MkS W0 n mk mc mi mf mn mx m (World.putM W mi o) Lc L Lf Ln:=by
 have g:Upon mi W (World.putM W mi o):=YR (Upon.refl _ _) _;have q:=h.ord;exact⟨QG h.low oq _,q,(g.block _ h.lt oq).trans h.box,h.c.upon g oq,j,h.f.upon g oq,h.nd.upon g oq,h.x.upon g oq⟩
theorem MkS.putF(h:MkS W0 n mk mc mi mf mn mx m W Lc Li Lf Ln){o:Obj}{L:List (ByteArray × Value)}(g:YT (World.putM W mf o) mf L):MkS W0 n mk mc mi mf mn mx m (World.putM W mf o) Lc Li L Ln:=by
 have f:Upon mf W (World.putM W mf o):=YR (Upon.refl _ _) _;have j:=h.ord;exact⟨QG h.low oq _,j,(f.block _ h.lt oq).trans h.box,h.c.upon f oq,h.i.upon f oq,g,h.nd.upon f oq,h.x.upon f oq⟩
theorem MkS.putN(h:MkS W0 n mk mc mi mf mn mx m W Lc Li Lf Ln){o:Obj}{L:List (ByteArray × Value)}(j:YT (World.putM W mn o) mn L):MkS W0 n mk mc mi mf mn mx m (World.putM W mn o) Lc Li Lf L:=by
 have g:Upon mn W (World.putM W mn o):=YR (Upon.refl _ _) _;have q:=h.ord;exact⟨QG h.low oq _,q,(g.block _ h.lt oq).trans h.box,h.c.upon g oq,h.i.upon g oq,h.f.upon g oq,j,h.x.upon g oq⟩
end
theorem VC{W0:World}(p:PG)(an ai af ao:OA)(cn ci cf co:Nat)(hp:AP W0 p an ai af ao cn ci cf co)(hok:JW p)(mc mi mf mn mx:Nat)(m B1 B2 i n:Nat)(hi:i<p.flows.length)(w:World)(Bk:Nat)(hBk:Bk<=w.1.size)
  (hB:Below W0.1.size W0 w)(hm:MkB w m p an ai af ao cn ci cf co mc mi mf mn mx)(hb1:Boxed w B1 167 (.pointer (some ⟨m,0,none⟩)))(hb2:Boxed w B2 3 (.int .i64 (i:Int))) :
  ZgS Fence.wide n prog 195 #[.pointer (some ⟨B1,0,none⟩),.pointer (some ⟨B2,0,none⟩)] (fun x:VS W0=>x.vs) W0.1.size Bk (fun xs=>xs.map (·.s)=(YV p.flows[i].e (dg i)).filter isC)
   (fun pre=>pre.map (·.s) <+: (YV p.flows[i].e (dg i)).filter isC) (p.flows[i].e.args.sz+1) w:=fun l J Jx W hW hJ hJx hY h0 =>
 ql p an ai af ao cn ci cf co hp hok mc mi mf mn mx m B1 B2 i n l Bk hi J Jx W (hB.trans (hW.mono hB.size)) (Zm hBk hW.size) ((hW.block m (Zb hm)).trans hm) ((hW.block B1 hb1.lt).trans hb1) ((hW.block B2 hb2.lt).trans hb2) hJ hJx hY h0
