/- Parts of the proof. -/
import Derived.Test.YtdgifkjaflfdeaaGreatDoorX15
import Derived.Test.YtdgifkjaflfdeaaGreatDoorX24
set_option linter.all false
set_option maxRecDepth 100000
set_option maxHeartbeats 16000000
namespace Go.Proofs.YtdgifkjaflfdeaaGreatDoor.syn
open Tryz
open Go.RowKit Go.Shelf
variable {p:PG}{nm:ByteArray}{w:World}
def xI(p:PG):IE:=inI ((YN p.flows 0).map Prod.snd) 0 (fun _=>none)
def fI(p:PG):IE:=inI (p.flows.map (·.nm)) 0 (fun _=>none)
def iI(p:PG):IE:=inI (p.ins.map (·.nm)) 0 (fun _=>none)
def nI(p:PG):IE:=inI (p.nodes.map (·.nm)) 0 (fun _=>none)
def Ku(p:PG)(env:Env):Env:=VE env p.flows (Xb p.ins)
theorem V1{j:Nat}(h:fI p nm=some j):∃hj:j<p.flows.length,p.flows[j].nm=nm:=by
 rcases EA _ 0 _ nm j h with ⟨h1,_,h3⟩|h1
 .have f:j<p.flows.length:=by simpa using h1
  refine⟨f,?_⟩;simpa using h3
 cases h1
theorem Zcb(h:(p.ins.length:Int)<=YS p nm):∃f∈p.flows,f.nm=nm:=by
 unfold YS at h
 cases h1:XS IN.nm nm p.ins 0 with
 | some i =>
  rw[h1] at h;obtain⟨j,q,x,g,_⟩:=QL IN.nm nm p.ins 0 i h1;have:=(ZB.1 g).1;simp only at h;omega
 | none =>
  rw[h1] at h
  cases h2:XS FL.nm nm p.flows 0 with
  | none=>rw[h2] at h;simp only at h;omega
  | some i =>
   obtain⟨j,q,x,g,m⟩:=QL FL.nm nm p.flows 0 i h2;exact⟨x,Yb g,m⟩
theorem uc(h:(p.ins.length:Int)<=YS p nm):∃j,fI p nm=some j/\j<p.flows.length:=by
 obtain⟨f,m,q⟩:=Zcb h;have g:=Kz (p.flows.map (·.nm)) 0 (fun _=>none) nm (Yf.2 ⟨f,m,q⟩)
 cases h2:fI p nm with
 | none=>exact absurd h2 g
 | some j=>exact⟨j,rfl,(V1 h2).1⟩
theorem Ky:∀(l:List IN)(e:Env)(nm:ByteArray),J5 l e nm≠none->(∃x∈l,x.nm=nm)\/e nm≠none
 | [],e,nm,h=>.inr h
 | x::l,e,nm,h=>by
  rcases Ky l _ nm h with ⟨y,hy,hn⟩|h1
  .exact .inl ⟨y,List.mem_cons_of_mem _ hy,hn⟩
  by_cases he:nm=x.nm
  .exact .inl ⟨x,by simp,he.symm⟩
  refine .inr ?_;unfold upd at h1;rw[Z2 he] at h1;exact h1
theorem GH{env:Env}(D:JW p)(z:Qp p)(G:UE p env):∀e:PE,YF e=true->Xe p.flows p.ins.length (xI p) (fI p) (iI p) e:=by
 have L:∀i j (hi:i<p.flows.length) (m:j<p.flows.length),p.flows[i].nm=p.flows[j].nm->i=j:=by
  intro i j hi m h;have A:=(z.flows i hi).1;have F:=(z.flows j m).1;rw[h] at A;omega
 have I:∀g,Xb p.ins g≠none->fI p g=none:=by
  intro g h
  cases y:fI p g with
  | none=>rfl
  | some j =>
   exfalso;obtain⟨m,v⟩:=V1 y;have A:=(z.flows j m).1;rw[v] at A;rcases Ky p.ins _ g h with ⟨x,hx,hxn⟩|F
   .obtain⟨i,hi,E⟩:=Yn hx;have J:=z.ins i hi;rw[E,hxn] at J;omega
   exact F rfl
 have y:=vZ (nI:=p.ins.length) (xIx:=xI p) (iIx:=iI p) G.gr I (fun f y=>(D.flows f y).2) L (fun g j h=>V1 h);intro e hex;refine ZbX (fun g j m=>?_) _ e (ZX _) hex;obtain⟨C,v⟩:=V1 m;obtain⟨M,q,_,H⟩:=G.flows _ (Zi C);rw[v] at H;exact y g (by rw[H];simp) j m
theorem yZ:∀(l:List ByteArray)(i:Nat)(e:IE)(B:Nat),i+l.length<=B->(∀k j,e k=some j->j<=B)->∀k j,inI l i e k=some j->j<=B:=by
 intro l i e B g f k j h;rcases EA l i e k j h with ⟨h1,h2,_⟩|h1
 .omega
 exact f k j h1
def Gt(p:PG)(env:Env)(base:Nat)(w:World)(v:Value):Prop :=
 ∃vI vN vT vL,v=.agg #[vI,vN,vT,vL]/\XB xQ 50 2 w base vI (p.ins.map (fun x=>(x.per,x.ph)))/\XB G1 113 10 w base vN p.nodes /\
  XB (JD base) 53 4 w base vT ((YN p.flows 0).map (tkR p (xI p) (fI p) (iI p) (nI p) (Ku p env)))/\XB (JX base) 94 5 w base vL (p.outs.map (tlR p (xI p) (fI p) (iI p) (Ku p env)))
def Q7:Value:=.agg #[.slice none 0 0,.slice none 0 0,.slice none 0 0,.slice none 0 0]
def kO(p:PG)(base:Nat)(x:Ending)(w':World):Prop :=
 (∃a e,e≠0/\x=.returned (.tuple #[Q7,.int .i64 a,.int .i64 e])) \/
  ∃v env,x=.returned (.tuple #[v,.int .i64 0,.int .i64 0])/\Gt p env base w' v/\UE p env/\(YN p.flows 0).length<=30/\Qv p (xI p) (fI p) (iI p) p.flows 0=true
theorem Gt.mono{p:PG}{env:Env}{base base':Nat}{w:World}{v:Value}(h:Gt p env base w v)(hb:base'<=base):Gt p env base' w v:=by
 obtain⟨y,A,C,z,f,g,j,m,q⟩:=h;exact⟨y,A,C,z,f,g.mono hb (fun c x hc=>hc),j.mono hb (fun c x hc=>hc),m.mono hb (fun c x hc=>hc.mono hb),q.mono hb (fun c x hc=>Uw hc hb)⟩
theorem Gt.form{p:PG}{env:Env}{base:Nat}{w:World}{v:Value}(h:Gt p env base w v):∃aI cI aN cN aT cT aL cL,v=.agg #[.slice aI p.ins.length cI,.slice aN p.nodes.length cN,.slice aT (YN p.flows 0).length cT,.slice aL p.outs.length cL]:=by
 obtain⟨q,y,z,x,rfl,f,g,j,m⟩:=h;obtain⟨aI,cI,rfl⟩:=f.form;obtain⟨aN,cN,rfl⟩:=g.form;obtain⟨aT,cT,rfl⟩:=j.form;obtain⟨aL,cL,rfl⟩:=m.form;simp only[Zo];exact⟨aI,cI,aN,cN,aT,cT,aL,cL,rfl⟩
theorem ZcA(p:PG)(an G F H:OA)(L J I M:Nat)(hp:AP w p an G F H L J I M)(hz:NZ w p.nodes an)(O:JW p)(hN:Qp p)(aw:∀x∈p.nodes,x.ps.length<=1000)(l:List (Int × Int))(bc:Nat)(D:bc<w.1.size)(hl:l.length<=1000)(y:yy w bc l) :
  Calls prog 31 #[pv p an G F H L J I M,.slice (some ⟨bc,0,none⟩) l.length l.length] w fun x w'=>kO p w.1.size x w'/\Below w.1.size w w':=by
 have Z:=hid (fun(w':World) (hb:Below w.1.size w w')=>Zb3 (w:=w') p an G F H L J I M (hp.below hb) (hz.below hp.nodes hb) O l bc (Zd D hb.size) hl (fun i h=>⟨(hb.cell (p:=⟨bc,i*2,none⟩) D).trans (y i h).1,(hb.cell (p:=⟨bc,i*2+1,none⟩) D).trans (y i h).2⟩));have ag:=hid (fun(w':World) (hb:Below w.1.size w w') (env:Env) (he:p.flows.map (fun f=>Jo env f.nm)=l)=>xe (w:=w') p an G F H L J I M (hp.below hb) O env bc (Zd D hb.size) l he (fun i h=>⟨(hb.cell (p:=⟨bc,i*2,none⟩) D).trans (y i h).1,(hb.cell (p:=⟨bc,i*2+1,none⟩) D).trans (y i h).2⟩));have HP:=hid hp;have E:=hid O;have V:=hid hN;have ba:=hid aw;clear hp hz O hN aw y;unfold pv at *;go_enter func31,ntmps31;go_upto_region 1 with fail
 obtain⟨R,C⟩:∃R,(w.alloc (.cells #[.slice an p.nodes.length L,.slice G p.ins.length J,.slice F p.flows.length I,.slice H p.outs.length M] 27)).alloc (.cells #[.slice none 0 0,.slice none 0 0,.slice none 0 0,.slice none 0 0] 35)=R:=⟨_,rfl⟩;rw[C];have hB:Below w.1.size w R:=by rw[<-C];exact bq
 have bi:w.1.size+2<=R.1.size:=by rw[<-C];simp
 have X:R.1[w.1.size]?=some (.cells #[.slice an p.nodes.length L,.slice G p.ins.length J,.slice F p.flows.length I,.slice H p.outs.length M] 27 (0,0)):=by rw[<-C];exact(Za _ _ _ (by simp)).trans (Yx w _)
 have ax:R.1[w.1.size+1]?=some (.cells #[.slice none 0 0,.slice none 0 0,.slice none 0 0,.slice none 0 0] 35 (0,0)):=by rw[<-C];simpa using Yx (w.alloc (.cells #[.slice an p.nodes.length L,.slice G p.ins.length J,.slice F p.flows.length I,.slice H p.outs.length M] 27)) (.cells #[.slice none 0 0,.slice none 0 0,.slice none 0 0,.slice none 0 0] 35)
 have HB:=hid hB;have bb:=hid X;have bd:=hid ax;obtain⟨⟨x0,x1,x2,x3⟩,xf⟩:=Yy X;clear C hB X ax;have be:w.1.size<R.1.size:=oq;have bf:w.1.size+1<R.1.size:=oq;go_wp2_with (first
  | (go_at_call 80;refine(Z.o _ HB.o).mono ?_;rintro x w3 ⟨(⟨a3,e3,aq,rfl⟩|⟨rfl,env,ap,ar⟩),hb3⟩<;>(have bj:=hb3.size;have g:w.1.size+1<w3.1.size:=oq;have HA3:=hid (HB.o.trans (hb3.mono oq));have Y:=hid ((hb3.block _ bf).trans bd.o);obtain⟨⟨y0,y1,y2,y3⟩,yf⟩:=Yy ((hb3.block _ be).trans bb.o);obtain⟨⟨v0,v1,v2,v3⟩,vf⟩:=Yy Y.o;first|(have bh:(e3 != 0)=true:=bne_iff_ne.2 aq)|(have U:=hid ap;have ay:=hid ar;clear ap ar);clear hb3))
  | (go_at_call 81;refine(ag.o w3 HA3.o env ay.o.symm).mono ?_;rintro x w4 ⟨m,mc,mi,mf,mn,mx,Lc,Li,Lf,Ln,rfl,au,ah,ak,aj,al⟩;have ac:=hid (Zf1 au);have ab:=hid ac.o.low;have q:=hid (Zh ah (Zh ak (Zh aj al)));have k3:=Zd g ab.o.size;obtain⟨⟨v0,v1,v2,v3⟩,vf⟩:=Yy ((ab.o.block _ g).trans Y.o);clear au ah ak aj al)
  | (go_at_call 82;refine(uB p an G F H L J I M (HP.o.below HA3.o) E.o mc mi mf mn mx m Lc Li Lf Ln ac.o).mono ?_;rintro x w5 av;rcases av with ⟨a5,rfl,h30,hb5⟩|⟨rfl,h30,hup,Lx,hM5,hIx⟩<;>((first|(have HL5:=hid hb5;clear hb5)|(have HL5:=hid hM5.low;have ae:=hid hM5;have aa:=hid hIx;clear hM5 hIx hup));have k3:=Zd g HL5.o.size;obtain⟨⟨v0,v1,v2,v3⟩,vf⟩:=Yy ((HL5.o.block _ g).trans Y.o)))
  | (go_at_call 83;refine(vD p an G F H L J I M (HP.o.below HA3.o) E.o mc mi mf mn mx m Lc Li Lf Ln Lx ae.o (xI p) (fI p) (iI p) aa.o q.o.2.2.1 q.o.2.1 (yZ _ _ _ 1000 (by rw[Zo];omega) (fun k j h=>by cases h)) (GH E.o V.o U.o)).mono ?_;rintro x w6 ⟨(⟨rfl,T⟩|⟨a6,rfl,T⟩),hb6⟩<;>(have HL6:=hid (HL5.o.trans (hb6.mono HL5.o.size));have az:=hid (ae.o.grow hb6);have k3:=Zd g HL6.o.size;obtain⟨⟨v0,v1,v2,v3⟩,vf⟩:=Yy ((HL6.o.block _ g).trans Y.o);clear hb6))
  | (go_at_call 84;refine(Zb9 p an G F H L J I M (HP.o.below HA3.o) E.o mc mi mf mn mx m Lc Li Lf Ln Lx az.o (xI p) (fI p) (iI p) (nI p) aa.o q.o.2.2.1 q.o.2.1 q.o.2.2.2 (yZ _ _ _ 1000 (by rw[Zo];omega) (fun k j h=>by cases h)) (Ku p env) q.o.1 (GH E.o V.o U.o) ba.o h30 (fun o ho=>by obtain⟨i,hi,bg⟩:=Yn ho;have:=V.o.outs i hi;rw[bg] at this;exact uc this)).mono ?_;rintro x w7 ⟨⟨vI,vN,vT,vL,rfl,r1,r2,r3,r4⟩,am⟩;have HR:=hid (Zh r1 (Zh r2 (Zh r3 r4)));obtain⟨aI,cI,rfl⟩:=r1.form;obtain⟨aN,cN,rfl⟩:=r2.form;obtain⟨aT,cT,rfl⟩:=r3.form;obtain⟨aL,cL,rfl⟩:=r4.form;have HL7:=hid (HL6.o.trans (am.mono HL6.o.size));have HS7:=hid HL6.o.size;have k3:=Zd g HL7.o.size;obtain⟨⟨v0,v1,v2,v3⟩,vf⟩:=Yy ((HL7.o.block _ g).trans Y.o);clear am r1 r2 r3 r4))
 all_goals first
  | (refine Zl (v:=.tuple #[Q7,.int .i64 a6,.int .i64 8]) ?_ rfl ⟨.inl ⟨a6,8,by decide,rfl⟩,?_⟩;(focus (unfold Q7;simp only[results,results31];go_simp));exact bq)
  | (refine Zl (v:=.tuple #[Q7,.int .i64 a5,.int .i64 8]) ?_ rfl ⟨.inl ⟨a5,8,by decide,rfl⟩,?_⟩;(focus (unfold Q7;simp only[results,results31];go_simp));exact bq)
  | (refine Zl (v:=.tuple #[Q7,.int .i64 a3,.int .i64 e3]) ?_ rfl ⟨.inl ⟨a3,e3,aq,rfl⟩,?_⟩;(focus (unfold Q7;simp only[results,results31];go_simp));exact bq)
  | skip
 have A:Y4 35 w7 ((((w7.setCell ⟨w.1.size+1,0,none⟩ (.slice aI (p.ins.map (fun x=>(x.per,x.ph))).length cI)).setCell ⟨w.1.size+1,1,none⟩ (.slice aN p.nodes.length cN)).setCell ⟨w.1.size+1,2,none⟩ (.slice aT ((YN p.flows 0).map (tkR p (xI p) (fI p) (iI p) (nI p) (Ku p env))).length cT)).setCell ⟨w.1.size+1,3,none⟩ (.slice aL (p.outs.map (tlR p (xI p) (fI p) (iI p) (Ku p env))).length cL)):=Y4.of_upon ((HL7.o.block _ g).trans Y.o) (vg w7 (w.1.size+1) _ _ _ _);have z:w.1.size<=w6.1.size:=by have:=HA3.o.size;have:=HS7.o;omega
 obtain⟨r1,r2,r3,r4⟩:=HR.o;have hm:Gt p env w.1.size _ (.agg #[.slice aI (p.ins.map (fun x=>(x.per,x.ph))).length cI,.slice aN p.nodes.length cN,.slice aT ((YN p.flows 0).map (tkR p (xI p) (fI p) (iI p) (nI p) (Ku p env))).length cT,.slice aL (p.outs.map (tlR p (xI p) (fI p) (iI p) (Ku p env))).length cL]):=⟨_,_,_,_,rfl,(r1.stays A (by decide) (fun c x y=>y)).mono z (fun c x y=>y),(r2.stays A (by decide) (fun c x y=>y.stays A (by decide) (by decide))).mono z (fun c x y=>y),
  (r3.stays A (by decide) (fun c x y=>y.stays A (by decide) (by decide))).mono z (fun c x y=>y.mono z),(r4.stays A (by decide) (fun c x y=>y.stays A (by decide))).mono z (fun c x y=>Uw y z)⟩
 simp only[Zo] at hm A;refine Zl (v:=.tuple #[.agg #[.slice aI p.ins.length cI,.slice aN p.nodes.length cN,.slice aT (YN p.flows 0).length cT,.slice aL p.outs.length cL],.int .i64 0,.int .i64 0]) ?_ rfl ⟨.inr ⟨_,env,rfl,hm,U.o,h30,T⟩,?_⟩
 .simp only[results,results31];go_simp
 exact bq
theorem ZcB(p:PG)(an g f j:OA)(v q m y:Nat)(H:AP w p an g f j v q m y)(I:NZ w p.nodes an)(A:JW p)(D:Qp p)(C:∀x∈p.nodes,x.ps.length<=1000)(l:List (Int × Int))(n:Nat)(G:l.length=n)(bc:Nat)(z:bc<w.1.size)(F:l.length<=1000)(E:yy w bc l) :
  Calls prog 31 #[pv p an g f j v q m y,.slice (some ⟨bc,0,none⟩) n n] w fun x w'=>kO p w.1.size x w'/\Below w.1.size w w':=by
 subst G;exact ZcA p an g f j v q m y H I A D C l bc z F E
theorem Gt.stays{p:PG}{env:Env}{base:Nat}{w w':World}{v:Value}(h:Gt p env base w v)(f:Y4 35 w w'):Gt p env base w' v:=by
 obtain⟨z,C,D,A,g,j,m,q,y⟩:=h;exact⟨z,C,D,A,g,j.stays f (by decide) (fun c x hc=>hc),m.stays f (by decide) (fun c x hc=>hc.stays f (by decide) (by decide)),q.stays f (by decide) (fun c x hc=>hc.stays f (by decide) (by decide)),y.stays f (by decide) (fun c x hc=>hc.stays f (by decide))⟩
def kN(p:PG)(base:Nat)(x:Ending)(w':World):Prop :=
 x=.returned (.tuple #[Q7,.bool false]) \/
  ∃v env,x=.returned (.tuple #[v,.bool true])/\Gt p env base w' v/\Vf p/\Qp p/\UE p env/\(YN p.flows 0).length<=30/\Qv p (xI p) (fI p) (iI p) p.flows 0=true
theorem Zcz(p:PG)(an D C E:OA)(H G F I:Nat)(U:AP w p an D C E H G F I)(hz:NZ w p.nodes an)(ac:vv p) :
  Calls prog 9 #[pv p an D C E H G F I] w fun x w'=>kN p w.1.size x w'/\Below w.1.size w w':=by
 have al:=hid (fun(w':World) (hb:Below w.1.size w w')=>Zda (w:=w') p an D C E H G F I (U.below hb) ac);have ak:=hid (fun(w':World) (hb:Below w.1.size w w') (hr:Vf p)=>ZaB (w:=w') p.nodes p.ins p.flows p.outs an D C E H G F I (U.below hb) (by have:=hr.lens;omega) (by have:=hr.lens;omega) (by have:=hr.lens;omega) (by have:=hr.lens;omega) (fun x hx=>by have:=(hr.nodes x hx).2.1;omega));have ag:=hid (fun(w':World) (hb:Below w.1.size w w') (hr:Vf p)=>Ep (w:=w') p an D C E H G F I (U.below hb) hr.ok.sums (by have:=hr.lens;omega) hr.ok.ins);have ah:=hid (fun(w':World) (hb:Below w.1.size w w') (hr:Vf p) (hn:Qp p) l n (hln:l.length=n) bc (hbc:bc<w'.1.size) (hl:l.length<=1000) (hc:yy w' bc l)=>ZcB (w:=w') p an D C E H G F I (U.below hb) (hz.below U.nodes hb) hr.ok hn (fun x hx=>by have:=(hr.nodes x hx).2.1;omega) l n hln bc hbc hl hc);clear U hz ac;unfold pv at *;go_enter func9,ntmps9;go_upto_region 1 with fail
 obtain⟨A,m⟩:∃A,(w.alloc (.cells #[.slice an p.nodes.length H,.slice D p.ins.length G,.slice C p.flows.length F,.slice E p.outs.length I] 27)).alloc (.cells #[.slice none 0 0,.slice none 0 0,.slice none 0 0,.slice none 0 0] 35)=A:=⟨_,rfl⟩;rw[m];have hB:Below w.1.size w A:=by rw[<-m];exact bq
 have be:w.1.size+2<=A.1.size:=by rw[<-m];simp
 have T:A.1[w.1.size]?=some (.cells #[.slice an p.nodes.length H,.slice D p.ins.length G,.slice C p.flows.length F,.slice E p.outs.length I] 27 (0,0)):=by rw[<-m];exact(Za _ _ _ (by simp)).trans (Yx w _)
 have ab:A.1[w.1.size+1]?=some (.cells #[.slice none 0 0,.slice none 0 0,.slice none 0 0,.slice none 0 0] 35 (0,0)):=by rw[<-m];simpa using Yx (w.alloc (.cells #[.slice an p.nodes.length H,.slice D p.ins.length G,.slice C p.flows.length F,.slice E p.outs.length I] 27)) (.cells #[.slice none 0 0,.slice none 0 0,.slice none 0 0,.slice none 0 0] 35)
 have HB:=hid hB;have M:=hid T;have q:=hid ab;obtain⟨⟨x0,x1,x2,x3⟩,xf⟩:=Yy T;have O:w.1.size<A.1.size:=oq;have z:w.1.size+1<A.1.size:=oq;clear m hB T ab;go_wp2_with (first
  | (go_at_call 28;refine(al.o _ HB.o).mono ?_;rintro x w3 ⟨⟨b3,rfl,hb3⟩,J⟩;have g:=hid (show Below A.1.size A w3 from J);obtain⟨⟨y0,y1,y2,y3⟩,yf⟩:=Yy ((g.o.block _ O).trans M.o);obtain⟨⟨v0,v1,v2,v3⟩,vf⟩:=Yy ((g.o.block _ z).trans q.o);have av:=g.o.size;have y:=hid hb3;clear hb3 J;cases b3)
  | (go_at_call 29;refine(ak.o _ (HB.o.trans (g.o.mono oq)) (y.o (by trivial))).mono ?_;rintro x w4 ⟨⟨b4,rfl,hb4⟩,L⟩;have j:=hid (g.o.trans (L.mono av));obtain⟨⟨y0,y1,y2,y3⟩,yf⟩:=Yy ((j.o.block _ O).trans M.o);obtain⟨⟨v0,v1,v2,v3⟩,vf⟩:=Yy ((j.o.block _ z).trans q.o);have aw:=j.o.size;have V:=hid hb4;clear hb4 L;cases b4)
  | (go_at_call 30;refine(ag.o _ (HB.o.trans (j.o.mono oq)) (y.o (by trivial))).mono ?_;rintro x w5 ⟨(⟨a5,e5,aq,rfl⟩|⟨v5,X,rfl,ay,⟨b5,rfl,hb5,Y⟩⟩),hlo5⟩<;>(have HL5:=hid (j.o.trans (hlo5.mono aw));(obtain⟨⟨y0,y1,y2,y3⟩,yf⟩:=Yy ((HL5.o.block _ O).trans M.o));(obtain⟨⟨v0,v1,v2,v3⟩,vf⟩:=Yy ((HL5.o.block _ z).trans q.o));have ax:=HL5.o.size;first|(have ba:(e5 != 0)=true:=bne_iff_ne.2 aq)|(have ae:=hid Y;clear Y);clear hlo5))
  | (go_at_call 31;refine(ah.o _ (HB.o.trans (HL5.o.mono oq)) (y.o (by trivial)) (V.o (by trivial)) (p.flows.map (fun f:FL=>Jo X f.nm)) _ (Zo ..) b5 hb5 (by rw[Zo];have:=(y.o (by trivial)).lens;omega) ae.o).mono ?_;rintro x w6 ⟨(⟨a6,e6,ar,rfl⟩|⟨v6,env,rfl,R,ap,am,Z⟩),hlo6⟩<;>(have HL6:=hid (HL5.o.trans (hlo6.mono ax));(obtain⟨⟨v0,v1,v2,v3⟩,vf⟩:=Yy ((HL6.o.block _ z).trans q.o));have bf:=HL6.o.size;have bd:w.1.size+1<w6.1.size:=oq;have az:¬w.1.size+1=w6.1.size:=oq;have aa:w.1.size<=w5.1.size:=oq;first|(have bb:(e6 == 0)=false:=ZZ.2 ar;unfold Q7)|(have aj:=hid R;obtain⟨aI,cI,aN,cN,aT,cT,aL,cL,rfl⟩:=R.form;clear R);clear hlo6)))
 all_goals first
  | (have au:=(HL6.o.block _ z).trans q.o;refine Zl (v:=.tuple #[.agg #[.slice aI p.ins.length cI,.slice aN p.nodes.length cN,.slice aT (YN p.flows 0).length cT,.slice aL p.outs.length cL],.bool true]) ?_ rfl ⟨.inr ⟨_,env,rfl,(aj.o.mono aa).stays ((Y4.of_upon au (vg _ _ _ _ _ _)).trans (Y4.of_below ((Zg _ _).alloc (Zc _) _))),y.o (by trivial),V.o (by trivial),ap,am,Z⟩,?_⟩;(focus (simp only[results,results9];go_simp));exact bq)
  | (have hgd:=HL6.o;refine Zl (v:=.tuple #[Q7,.bool false]) ?_ rfl ⟨.inl rfl,?_⟩;(focus (unfold Q7;simp only[results,results9];go_simp));exact bq)
  | (have hgd:=HL5.o;refine Zl (v:=.tuple #[Q7,.bool false]) ?_ rfl ⟨.inl rfl,?_⟩;(focus (unfold Q7;simp only[results,results9];go_simp));exact bq)
  | (have hgd:=j.o;refine Zl (v:=.tuple #[Q7,.bool false]) ?_ rfl ⟨.inl rfl,?_⟩;(focus (unfold Q7;simp only[results,results9];go_simp));exact bq)
  | (have hgd:=g.o;refine Zl (v:=.tuple #[Q7,.bool false]) ?_ rfl ⟨.inl rfl,?_⟩;(focus (unfold Q7;simp only[results,results9];go_simp));exact bq)
  | skip
