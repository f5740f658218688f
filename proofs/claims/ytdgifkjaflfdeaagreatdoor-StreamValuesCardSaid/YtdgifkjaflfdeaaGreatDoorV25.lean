/- Parts of the proof. -/
import Derived.Test.YtdgifkjaflfdeaaGreatDoorV15
import Derived.Test.YtdgifkjaflfdeaaGreatDoorV24
set_option linter.all false
set_option maxRecDepth 100000
set_option maxHeartbeats 16000000
namespace Go.Proofs.YtdgifkjaflfdeaaGreatDoor.syn
open Tryz
open Go.RowKit Go.Shelf
def xI(p:PG):IE:=inI ((YM p.flows 0).map Prod.snd) 0 (fun _=>none)
def fI(p:PG):IE:=inI (p.flows.map (·.nm)) 0 (fun _=>none)
def iI(p:PG):IE:=inI (p.ins.map (·.nm)) 0 (fun _=>none)
def nI(p:PG):IE:=inI (p.nodes.map (·.nm)) 0 (fun _=>none)
def Kn(p:PG)(env:Env):Env:=VC env p.flows (Xa p.ins)
theorem VV{p:PG}{nm:ByteArray}{j:Nat}(h:fI p nm=some j):∃hj:j<p.flows.length,p.flows[j].nm=nm:=by
 rcases Ef _ 0 _ nm j h with ⟨h1,_,h3⟩|h1
 ·have f:j<p.flows.length:=by simpa using h1
  refine⟨f,?_⟩;simpa using h3
 cases h1
theorem ZbT{p:PG}{nm:ByteArray}(h:(p.ins.length:Int)≤YR p nm):∃f∈p.flows,f.nm=nm:=by
 unfold YR at h
 cases h1:XM IN.nm nm p.ins 0 with
 | some i =>
  rw[h1] at h;obtain⟨j,q,x,g,_⟩:=QJ IN.nm nm p.ins 0 i h1;have:=(Zz.1 g).1;simp only at h;omega
 | none =>
  rw[h1] at h
  cases h2:XM FL.nm nm p.flows 0 with
  | none=>rw[h2] at h;simp only at h;omega
  | some i =>
   obtain⟨j,q,x,g,m⟩:=QJ FL.nm nm p.flows 0 i h2;exact⟨x,Z8 g,m⟩
theorem uc{p:PG}{nm:ByteArray}(h:(p.ins.length:Int)≤YR p nm):∃j,fI p nm=some j∧j<p.flows.length:=by
 obtain⟨f,m,q⟩:=ZbT h;have g:=Kt (p.flows.map (·.nm)) 0 (fun _=>none) nm (Yc.2 ⟨f,m,q⟩)
 cases h2:fI p nm with
 | none=>exact absurd h2 g
 | some j=>exact⟨j,rfl,(VV h2).1⟩
theorem Ks:∀(l:List IN)(e:Env)(nm:ByteArray),JP l e nm≠none→(∃x∈l,x.nm=nm)∨e nm≠none
 | [],e,nm,h=>.inr h
 | x::l,e,nm,h=>by
  rcases Ks l _ nm h with ⟨y,hy,hn⟩|h1
  ·exact .inl ⟨y,List.mem_cons_of_mem _ hy,hn⟩
  by_cases he:nm=x.nm
  ·exact .inl ⟨x,by simp,he.symm⟩
  refine .inr ?_;unfold upd at h1;rw[ZZ he] at h1;exact h1
theorem GA{p:PG}{env:Env}(D:JL p)(z:Qg p)(G:Ug p env):∀e:PE,YA e=true→Xd p.flows p.ins.length (xI p) (fI p) (iI p) e:=by
 have L:∀i j (hi:i<p.flows.length) (m:j<p.flows.length),p.flows[i].nm=p.flows[j].nm→i=j:=by
  intro i j hi m h;have A:=(z.flows i hi).1;have F:=(z.flows j m).1;rw[h] at A;omega
 have I:∀g,Xa p.ins g≠none→fI p g=none:=by
  intro g h
  cases y:fI p g with
  | none=>rfl
  | some j =>
   exfalso;obtain⟨m,v⟩:=VV y;have A:=(z.flows j m).1;rw[v] at A;rcases Ks p.ins _ g h with ⟨x,hx,hxn⟩|F
   ·obtain⟨i,hi,E⟩:=Yk hx;have J:=z.ins i hi;rw[E,hxn] at J;omega
   exact F rfl
 have y:=vZ (nI:=p.ins.length) (xIx:=xI p) (iIx:=iI p) G.gr I (fun f y=>(D.flows f y).2) L (fun g j h=>VV h);intro e hex;refine ZbF (fun g j m=>?_) _ e (ZU _) hex;obtain⟨C,v⟩:=VV m;obtain⟨M,q,_,H⟩:=G.flows _ (Zi C);rw[v] at H;exact y g (by rw[H];simp) j m
theorem yR:∀(l:List ByteArray)(i:Nat)(e:IE)(B:Nat),i+l.length≤B→(∀k j,e k=some j→j≤B)→∀k j,inI l i e k=some j→j≤B:=by
 intro l i e B g f k j h;rcases Ef l i e k j h with ⟨h1,h2,_⟩|h1
 ·omega
 exact f k j h1
def Uh(p:PG)(env:Env)(base:Nat)(w:World)(v:Value):Prop :=
 ∃vI vN vT vL,v=.agg #[vI,vN,vT,vL]∧Xk xC 50 2 w base vI (p.ins.map (fun x=>(x.per,x.ph)))∧Xk Ui 113 10 w base vN p.nodes ∧
  Xk (QS base) 53 4 w base vT ((YM p.flows 0).map (tkR p (xI p) (fI p) (iI p) (nI p) (Kn p env)))∧Xk (Q6 base) 94 5 w base vL (p.outs.map (tlR p (xI p) (fI p) (iI p) (Kn p env)))
def Q3:Value:=.agg #[.slice none 0 0,.slice none 0 0,.slice none 0 0,.slice none 0 0]
def kG(p:PG)(base:Nat)(x:Ending)(w':World):Prop :=
 (∃a e,e≠0∧x=.returned (.tuple #[Q3,.int .i64 a,.int .i64 e])) ∨
  ∃v env,x=.returned (.tuple #[v,.int .i64 0,.int .i64 0])∧Uh p env base w' v∧Ug p env∧(YM p.flows 0).length≤30∧Qi p (xI p) (fI p) (iI p) p.flows 0=true
theorem Uh.below{p:PG}{env:Env}{base:Nat}{w w':World}{v:Value}(h:Uh p env base w v)(hb:Below w.heap.size w w'):Uh p env base w' v:=by
 obtain⟨y,A,C,z,f,g,j,m,q⟩:=h;exact⟨y,A,C,z,f,g.below hb (fun c x hc=>hc),j.below hb (fun c x hc=>hc.below hb),m.below hb (fun c x hc=>hc.below hb),q.below hb (fun c x hc=>hc.below hb)⟩
theorem Uh.mono{p:PG}{env:Env}{base base':Nat}{w:World}{v:Value}(h:Uh p env base w v)(hb:base'≤base):Uh p env base' w v:=by
 obtain⟨y,A,C,z,f,g,j,m,q⟩:=h;exact⟨y,A,C,z,f,g.mono hb (fun c x hc=>hc),j.mono hb (fun c x hc=>hc),m.mono hb (fun c x hc=>hc.mono hb),q.mono hb (fun c x hc=>Uu hc hb)⟩
theorem Uh.form{p:PG}{env:Env}{base:Nat}{w:World}{v:Value}(h:Uh p env base w v):∃aI cI aN cN aT cT aL cL,v=.agg #[.slice aI p.ins.length cI,.slice aN p.nodes.length cN,.slice aT (YM p.flows 0).length cT,.slice aL p.outs.length cL]:=by
 obtain⟨q,y,z,x,rfl,f,g,j,m⟩:=h;obtain⟨aI,cI,rfl⟩:=f.form;obtain⟨aN,cN,rfl⟩:=g.form;obtain⟨aT,cT,rfl⟩:=j.form;obtain⟨aL,cL,rfl⟩:=m.form;simp only[Zo];exact⟨aI,cI,aN,cN,aT,cT,aL,cL,rfl⟩
theorem Zcc{w:World}(p:PG)(an G F H:Option Addr)(L J I M:Nat)(hp:AP w p an G F H L J I M)(hz:NZ w p.nodes an)(R:JL p)(hN:Qg p)(ax:∀x∈p.nodes,x.ps.length≤1000)(l:List (Int × Int))(O:Nat)(D:O<w.heap.size)(hl:l.length≤1000)(y:yk w O l) :
  Calls prog 31 #[pv p an G F H L J I M,.slice (some ⟨O,0,none⟩) l.length l.length] w fun x w'=>kG p w.heap.size x w'∧Below w.heap.size w w':=by
 have aa:=hid (fun(w':World) (hb:Below w.heap.size w w')=>ZbL (w:=w') p an G F H L J I M (hp.below hb) (hz.below hp.nodes hb) R l O (Zd D hb.size) hl (fun i h=>⟨(hb.cell (p:=⟨O,i*2,none⟩) D).trans (y i h).1,(hb.cell (p:=⟨O,i*2+1,none⟩) D).trans (y i h).2⟩));have ah:=hid (fun(w':World) (hb:Below w.heap.size w w') (env:Env) (he:p.flows.map (fun f=>Jg env f.nm)=l)=>yW (w:=w') p an G F H L J I M (hp.below hb) R env O (Zd D hb.size) l he (fun i h=>⟨(hb.cell (p:=⟨O,i*2,none⟩) D).trans (y i h).1,(hb.cell (p:=⟨O,i*2+1,none⟩) D).trans (y i h).2⟩));have HP:=hid hp;have E:=hid R;have X:=hid hN;have bb:=hid ax;clear hp hz R hN ax y;unfold pv at *;go_enter func31,ntmps31;go_upto_region 1 with fail
 obtain⟨T,C⟩:∃T,(w.alloc (.cells #[.slice an p.nodes.length L,.slice G p.ins.length J,.slice F p.flows.length I,.slice H p.outs.length M] 27)).alloc (.cells #[.slice none 0 0,.slice none 0 0,.slice none 0 0,.slice none 0 0] 35)=T:=⟨_,rfl⟩;rw[C];have hB:Below w.heap.size w T:=by rw[←C];exact bq
 have bk:w.heap.size+2≤T.heap.size:=by rw[←C];simp
 have Y:T.heap[w.heap.size]?=some (.cells #[.slice an p.nodes.length L,.slice G p.ins.length J,.slice F p.flows.length I,.slice H p.outs.length M] 27 (0,0)):=by rw[←C];exact(Za _ _ _ (by simp)).trans (Yw w _)
 have ay:T.heap[w.heap.size+1]?=some (.cells #[.slice none 0 0,.slice none 0 0,.slice none 0 0,.slice none 0 0] 35 (0,0)):=by rw[←C];simpa using Yw (w.alloc (.cells #[.slice an p.nodes.length L,.slice G p.ins.length J,.slice F p.flows.length I,.slice H p.outs.length M] 27)) (.cells #[.slice none 0 0,.slice none 0 0,.slice none 0 0,.slice none 0 0] 35)
 have HB:=hid hB;have bd:=hid Y;have be:=hid ay;obtain⟨⟨x0,x1,x2,x3⟩,xf⟩:=Yx Y;clear C hB Y ay;have bg:w.heap.size<T.heap.size:=oq;have bh:w.heap.size+1<T.heap.size:=oq;go_wp2_with (first
  | (go_at_call 80;refine(aa.out _ HB.out).mono ?_;rintro x w3 ⟨(⟨a3,e3,ar,rfl⟩|⟨rfl,env,aq,au⟩),hb3⟩<;>(have bl:=hb3.size;have g:w.heap.size+1<w3.heap.size:=oq;have HA3:=hid (HB.out.trans (hb3.mono oq));have Z:=hid ((hb3.block _ bh).trans be.out);obtain⟨⟨y0,y1,y2,y3⟩,yf⟩:=Yx ((hb3.block _ bg).trans bd.out);obtain⟨⟨v0,v1,v2,v3⟩,vf⟩:=Yx Z.out;first|(have bj:(e3 != 0)=true:=bne_iff_ne.2 ar)|(have V:=hid aq;have az:=hid au;clear aq au);clear hb3))
  | (go_at_call 81;refine(ah.out w3 HA3.out env az.out.symm).mono ?_;rintro x w4 ⟨m,mc,mi,mf,mn,mx,Lc,Li,Lf,Ln,rfl,av,aj,al,ak,am⟩;have ae:=hid (ZfG av);have ac:=hid ae.out.low;have q:=hid (Zh aj (Zh al (Zh ak am)));have k3:=Zd g ac.out.size;obtain⟨⟨v0,v1,v2,v3⟩,vf⟩:=Yx ((ac.out.block _ g).trans Z.out);clear av aj al ak am)
  | (go_at_call 82;refine(uA p an G F H L J I M (HP.out.below HA3.out) E.out mc mi mf mn mx m Lc Li Lf Ln ae.out).mono ?_;rintro x w5 aw;rcases aw with ⟨a5,rfl,h30,hb5⟩|⟨rfl,h30,hup,Lx,hM5,hIx⟩<;>((first|(have HL5:=hid hb5;clear hb5)|(have HL5:=hid hM5.low;have ag:=hid hM5;have ab:=hid hIx;clear hM5 hIx hup));have k3:=Zd g HL5.out.size;obtain⟨⟨v0,v1,v2,v3⟩,vf⟩:=Yx ((HL5.out.block _ g).trans Z.out)))
  | (go_at_call 83;refine(vx p an G F H L J I M (HP.out.below HA3.out) E.out mc mi mf mn mx m Lc Li Lf Ln Lx ag.out (xI p) (fI p) (iI p) ab.out q.out.2.2.1 q.out.2.1 (yR _ _ _ 1000 (by rw[Zo];omega) (fun k j h=>by cases h)) (GA E.out X.out V.out)).mono ?_;rintro x w6 ⟨(⟨rfl,U⟩|⟨a6,rfl,U⟩),hb6⟩<;>(have HL6:=hid (HL5.out.trans (hb6.mono HL5.out.size));have ba:=hid (ag.out.grow hb6);have k3:=Zd g HL6.out.size;obtain⟨⟨v0,v1,v2,v3⟩,vf⟩:=Yx ((HL6.out.block _ g).trans Z.out);clear hb6))
  | (go_at_call 84;refine(ZbR p an G F H L J I M (HP.out.below HA3.out) E.out mc mi mf mn mx m Lc Li Lf Ln Lx ba.out (xI p) (fI p) (iI p) (nI p) ab.out q.out.2.2.1 q.out.2.1 q.out.2.2.2 (yR _ _ _ 1000 (by rw[Zo];omega) (fun k j h=>by cases h)) (Kn p env) q.out.1 (GA E.out X.out V.out) bb.out h30 (fun o ho=>by obtain⟨i,hi,bi⟩:=Yk ho;have:=X.out.outs i hi;rw[bi] at this;exact uc this)).mono ?_;rintro x w7 ⟨⟨vI,vN,vT,vL,rfl,r1,r2,r3,r4⟩,ap⟩;have HR:=hid (Zh r1 (Zh r2 (Zh r3 r4)));obtain⟨aI,cI,rfl⟩:=r1.form;obtain⟨aN,cN,rfl⟩:=r2.form;obtain⟨aT,cT,rfl⟩:=r3.form;obtain⟨aL,cL,rfl⟩:=r4.form;have HL7:=hid (HL6.out.trans (ap.mono HL6.out.size));have bf:=hid HL6.out.size;have k3:=Zd g HL7.out.size;obtain⟨⟨v0,v1,v2,v3⟩,vf⟩:=Yx ((HL7.out.block _ g).trans Z.out);clear ap r1 r2 r3 r4))
 all_goals first
  | (refine Zl (v:=.tuple #[Q3,.int .i64 a6,.int .i64 8]) ?_ rfl ⟨.inl ⟨a6,8,by decide,rfl⟩,?_⟩;(focus (unfold Q3;simp only[results,results31];go_simp));exact bq)
  | (refine Zl (v:=.tuple #[Q3,.int .i64 a5,.int .i64 8]) ?_ rfl ⟨.inl ⟨a5,8,by decide,rfl⟩,?_⟩;(focus (unfold Q3;simp only[results,results31];go_simp));exact bq)
  | (refine Zl (v:=.tuple #[Q3,.int .i64 a3,.int .i64 e3]) ?_ rfl ⟨.inl ⟨a3,e3,ar,rfl⟩,?_⟩;(focus (unfold Q3;simp only[results,results31];go_simp));exact bq)
  | skip
 have A:Y6 35 w7 ((((w7.setCell ⟨w.heap.size+1,0,none⟩ (.slice aI (p.ins.map (fun x=>(x.per,x.ph))).length cI)).setCell ⟨w.heap.size+1,1,none⟩ (.slice aN p.nodes.length cN)).setCell ⟨w.heap.size+1,2,none⟩ (.slice aT ((YM p.flows 0).map (tkR p (xI p) (fI p) (iI p) (nI p) (Kn p env))).length cT)).setCell ⟨w.heap.size+1,3,none⟩ (.slice aL (p.outs.map (tlR p (xI p) (fI p) (iI p) (Kn p env))).length cL)):=Y6.of_upon ((HL7.out.block _ g).trans Z.out) (jZ w7 (w.heap.size+1) _ _ _ _);have z:w.heap.size≤w6.heap.size:=by have:=HA3.out.size;have:=bf.out;omega
 obtain⟨r1,r2,r3,r4⟩:=HR.out;have hm:Uh p env w.heap.size _ (.agg #[.slice aI (p.ins.map (fun x=>(x.per,x.ph))).length cI,.slice aN p.nodes.length cN,.slice aT ((YM p.flows 0).map (tkR p (xI p) (fI p) (iI p) (nI p) (Kn p env))).length cT,.slice aL (p.outs.map (tlR p (xI p) (fI p) (iI p) (Kn p env))).length cL]):=⟨_,_,_,_,rfl,(r1.stays A (by decide) (fun c x y=>y)).mono z (fun c x y=>y),(r2.stays A (by decide) (fun c x y=>y.stays A (by decide) (by decide))).mono z (fun c x y=>y),
  (r3.stays A (by decide) (fun c x y=>y.stays A (by decide) (by decide))).mono z (fun c x y=>y.mono z),(r4.stays A (by decide) (fun c x y=>y.stays A (by decide))).mono z (fun c x y=>Uu y z)⟩
 simp only[Zo] at hm A;refine Zl (v:=.tuple #[.agg #[.slice aI p.ins.length cI,.slice aN p.nodes.length cN,.slice aT (YM p.flows 0).length cT,.slice aL p.outs.length cL],.int .i64 0,.int .i64 0]) ?_ rfl ⟨.inr ⟨_,env,rfl,hm,V.out,h30,U⟩,?_⟩
 ·simp only[results,results31];go_simp
 exact bq
theorem Zcd{w:World}(p:PG)(an j g m:Option Addr)(y v q z:Nat)(I:AP w p an j g m y v q z)(J:NZ w p.nodes an)(C:JL p)(E:Qg p)(D:∀x∈p.nodes,x.ps.length≤1000)(l:List (Int × Int))(n:Nat)(H:l.length=n)(f:Nat)(A:f<w.heap.size)(G:l.length≤1000)(F:yk w f l) :
  Calls prog 31 #[pv p an j g m y v q z,.slice (some ⟨f,0,none⟩) n n] w fun x w'=>kG p w.heap.size x w'∧Below w.heap.size w w':=by
 subst H;exact Zcc p an j g m y v q z I J C E D l f A G F
theorem Uh.stays{p:PG}{env:Env}{base:Nat}{w w':World}{v:Value}(h:Uh p env base w v)(f:Y6 35 w w'):Uh p env base w' v:=by
 obtain⟨z,C,D,A,g,j,m,q,y⟩:=h;exact⟨z,C,D,A,g,j.stays f (by decide) (fun c x hc=>hc),m.stays f (by decide) (fun c x hc=>hc.stays f (by decide) (by decide)),q.stays f (by decide) (fun c x hc=>hc.stays f (by decide) (by decide)),y.stays f (by decide) (fun c x hc=>hc.stays f (by decide))⟩
def ym(p:PG)(base:Nat)(x:Ending)(w':World):Prop :=
 x=.returned (.tuple #[Q3,.bool false]) ∨
  ∃v env,x=.returned (.tuple #[v,.bool true])∧Uh p env base w' v∧JG p∧Qg p∧Ug p env∧(YM p.flows 0).length≤30∧Qi p (xI p) (fI p) (iI p) p.flows 0=true
theorem Zca{w:World}(p:PG)(an D C E:Option Addr)(H G F I:Nat)(U:AP w p an D C E H G F I)(hz:NZ w p.nodes an)(ac:vj p) :
  Calls prog 9 #[pv p an D C E H G F I] w fun x w'=>ym p w.heap.size x w'∧Below w.heap.size w w':=by
 have al:=hid (fun(w':World) (hb:Below w.heap.size w w')=>ZcH (w:=w') p an D C E H G F I (U.below hb) ac);have ak:=hid (fun(w':World) (hb:Below w.heap.size w w') (hr:JG p)=>Zav (w:=w') p.nodes p.ins p.flows p.outs an D C E H G F I (U.below hb) (by have:=hr.lens;omega) (by have:=hr.lens;omega) (by have:=hr.lens;omega) (by have:=hr.lens;omega) (fun x hx=>by have:=(hr.nodes x hx).2.1;omega));have ag:=hid (fun(w':World) (hb:Below w.heap.size w w') (hr:JG p)=>G5 (w:=w') p an D C E H G F I (U.below hb) hr.ok.sums (by have:=hr.lens;omega) hr.ok.ins);have ah:=hid (fun(w':World) (hb:Below w.heap.size w w') (hr:JG p) (hn:Qg p) l n (hln:l.length=n) bc (hbc:bc<w'.heap.size) (hl:l.length≤1000) (hc:yk w' bc l)=>Zcd (w:=w') p an D C E H G F I (U.below hb) (hz.below U.nodes hb) hr.ok hn (fun x hx=>by have:=(hr.nodes x hx).2.1;omega) l n hln bc hbc hl hc);clear U hz ac;unfold pv at *;go_enter func9,ntmps9;go_upto_region 1 with fail
 obtain⟨A,m⟩:∃A,(w.alloc (.cells #[.slice an p.nodes.length H,.slice D p.ins.length G,.slice C p.flows.length F,.slice E p.outs.length I] 27)).alloc (.cells #[.slice none 0 0,.slice none 0 0,.slice none 0 0,.slice none 0 0] 35)=A:=⟨_,rfl⟩;rw[m];have hB:Below w.heap.size w A:=by rw[←m];exact bq
 have be:w.heap.size+2≤A.heap.size:=by rw[←m];simp
 have T:A.heap[w.heap.size]?=some (.cells #[.slice an p.nodes.length H,.slice D p.ins.length G,.slice C p.flows.length F,.slice E p.outs.length I] 27 (0,0)):=by rw[←m];exact(Za _ _ _ (by simp)).trans (Yw w _)
 have ab:A.heap[w.heap.size+1]?=some (.cells #[.slice none 0 0,.slice none 0 0,.slice none 0 0,.slice none 0 0] 35 (0,0)):=by rw[←m];simpa using Yw (w.alloc (.cells #[.slice an p.nodes.length H,.slice D p.ins.length G,.slice C p.flows.length F,.slice E p.outs.length I] 27)) (.cells #[.slice none 0 0,.slice none 0 0,.slice none 0 0,.slice none 0 0] 35)
 have HB:=hid hB;have M:=hid T;have q:=hid ab;obtain⟨⟨x0,x1,x2,x3⟩,xf⟩:=Yx T;have O:w.heap.size<A.heap.size:=oq;have z:w.heap.size+1<A.heap.size:=oq;clear m hB T ab;go_wp2_with (first
  | (go_at_call 28;refine(al.out _ HB.out).mono ?_;rintro x w3 ⟨⟨b3,rfl,hb3⟩,J⟩;have g:=hid (show Below A.heap.size A w3 from J);obtain⟨⟨y0,y1,y2,y3⟩,yf⟩:=Yx ((g.out.block _ O).trans M.out);obtain⟨⟨v0,v1,v2,v3⟩,vf⟩:=Yx ((g.out.block _ z).trans q.out);have av:=g.out.size;have y:=hid hb3;clear hb3 J;cases b3)
  | (go_at_call 29;refine(ak.out _ (HB.out.trans (g.out.mono oq)) (y.out (by trivial))).mono ?_;rintro x w4 ⟨⟨b4,rfl,hb4⟩,L⟩;have j:=hid (g.out.trans (L.mono av));obtain⟨⟨y0,y1,y2,y3⟩,yf⟩:=Yx ((j.out.block _ O).trans M.out);obtain⟨⟨v0,v1,v2,v3⟩,vf⟩:=Yx ((j.out.block _ z).trans q.out);have aw:=j.out.size;have V:=hid hb4;clear hb4 L;cases b4)
  | (go_at_call 30;refine(ag.out _ (HB.out.trans (j.out.mono oq)) (y.out (by trivial))).mono ?_;rintro x w5 ⟨(⟨a5,e5,aq,rfl⟩|⟨v5,X,rfl,ay,⟨b5,rfl,hb5,Y⟩⟩),hlo5⟩<;>(have HL5:=hid (j.out.trans (hlo5.mono aw));(obtain⟨⟨y0,y1,y2,y3⟩,yf⟩:=Yx ((HL5.out.block _ O).trans M.out));(obtain⟨⟨v0,v1,v2,v3⟩,vf⟩:=Yx ((HL5.out.block _ z).trans q.out));have ax:=HL5.out.size;first|(have ba:(e5 != 0)=true:=bne_iff_ne.2 aq)|(have ae:=hid Y;clear Y);clear hlo5))
  | (go_at_call 31;refine(ah.out _ (HB.out.trans (HL5.out.mono oq)) (y.out (by trivial)) (V.out (by trivial)) (p.flows.map (fun f:FL=>Jg X f.nm)) _ (Zo ..) b5 hb5 (by rw[Zo];have:=(y.out (by trivial)).lens;omega) ae.out).mono ?_;rintro x w6 ⟨(⟨a6,e6,ar,rfl⟩|⟨v6,env,rfl,R,ap,am,Z⟩),hlo6⟩<;>(have HL6:=hid (HL5.out.trans (hlo6.mono ax));(obtain⟨⟨v0,v1,v2,v3⟩,vf⟩:=Yx ((HL6.out.block _ z).trans q.out));have bf:=HL6.out.size;have bd:w.heap.size+1<w6.heap.size:=oq;have az:¬w.heap.size+1=w6.heap.size:=oq;have aa:w.heap.size≤w5.heap.size:=oq;first|(have bb:(e6 == 0)=false:=ZW.2 ar;unfold Q3)|(have aj:=hid R;obtain⟨aI,cI,aN,cN,aT,cT,aL,cL,rfl⟩:=R.form;clear R);clear hlo6)))
 all_goals first
  | (have au:=(HL6.out.block _ z).trans q.out;refine Zl (v:=.tuple #[.agg #[.slice aI p.ins.length cI,.slice aN p.nodes.length cN,.slice aT (YM p.flows 0).length cT,.slice aL p.outs.length cL],.bool true]) ?_ rfl ⟨.inr ⟨_,env,rfl,(aj.out.mono aa).stays ((Y6.of_upon au (jZ _ _ _ _ _ _)).trans (Y6.of_below ((Zg _ _).alloc (Zc _) _))),y.out (by trivial),V.out (by trivial),ap,am,Z⟩,?_⟩;(focus (simp only[results,results9];go_simp));exact bq)
  | (have hgd:=HL6.out;refine Zl (v:=.tuple #[Q3,.bool false]) ?_ rfl ⟨.inl rfl,?_⟩;(focus (unfold Q3;simp only[results,results9];go_simp));exact bq)
  | (have hgd:=HL5.out;refine Zl (v:=.tuple #[Q3,.bool false]) ?_ rfl ⟨.inl rfl,?_⟩;(focus (unfold Q3;simp only[results,results9];go_simp));exact bq)
  | (have hgd:=j.out;refine Zl (v:=.tuple #[Q3,.bool false]) ?_ rfl ⟨.inl rfl,?_⟩;(focus (unfold Q3;simp only[results,results9];go_simp));exact bq)
  | (have hgd:=g.out;refine Zl (v:=.tuple #[Q3,.bool false]) ?_ rfl ⟨.inl rfl,?_⟩;(focus (unfold Q3;simp only[results,results9];go_simp));exact bq)
  | skip
end Go.Proofs.YtdgifkjaflfdeaaGreatDoor.syn
