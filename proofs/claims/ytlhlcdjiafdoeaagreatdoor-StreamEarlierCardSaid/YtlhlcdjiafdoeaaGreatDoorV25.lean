/- Parts of the proof. -/
import Derived.Test.YtlhlcdjiafdoeaaGreatDoorV15
import Derived.Test.YtlhlcdjiafdoeaaGreatDoorV24
set_option linter.all false
set_option maxRecDepth 100000
set_option maxHeartbeats 16000000
namespace Go.Proofs.YtlhlcdjiafdoeaaGreatDoor.syn
open Go.RowKit Go.Shelf
def xI (p:PG):IE:=inI ((YL p.flows 0).map Prod.snd) 0 (fun _=>none)
def fI (p:PG):IE:=inI (p.flows.map (·.nm)) 0 (fun _=>none)
def iI (p:PG):IE:=inI (p.ins.map (·.nm)) 0 (fun _=>none)
def nI (p:PG):IE:=inI (p.nodes.map (·.nm)) 0 (fun _=>none)
def ET (p:PG) (env:Env):Env:=UO env p.flows (YX p.ins)
theorem Ka {p:PG} {nm:ByteArray} {j:Nat} (h:fI p nm=some j):∃hj:j<p.flows.length,p.flows[j].nm=nm:=by
 rcases KL _ 0 _ nm j h with ⟨h1,_,h3⟩|h1
 ·have h4:j<p.flows.length:=by simpa using h1
  refine⟨h4,?_⟩
  simpa using h3
 cases h1
theorem kB {p:PG} {nm:ByteArray} (h:(p.ins.length:Int)≤YK p nm):∃f∈p.flows,f.nm=nm:=by
 unfold YK at h
 cases h1:XN IN.nm nm p.ins 0 with
 | some i =>
  rw[h1] at h
  obtain⟨j,hj,x,hx,_⟩:=Vx IN.nm nm p.ins 0 i h1
  have:=(Zz.1 hx).1
  simp only at h
  omega
 | none =>
  rw[h1] at h
  cases h2:XN FL.nm nm p.flows 0 with
  | none=>rw[h2] at h;simp only at h;omega
  | some i =>
   obtain⟨j,hj,x,hx,hxn⟩:=Vx FL.nm nm p.flows 0 i h2
   exact⟨x,Z8 hx,hxn⟩
theorem kr {p:PG} {nm:ByteArray} (h:(p.ins.length:Int)≤YK p nm):∃j,fI p nm=some j∧j<p.flows.length:=by
 obtain⟨f,hf,hn⟩:=kB h
 have h1:=G5 (p.flows.map (·.nm)) 0 (fun _=>none) nm (Yc.2 ⟨f,hf,hn⟩)
 cases h2:fI p nm with
 | none=>exact absurd h2 h1
 | some j=>exact⟨j,rfl,(Ka h2).1⟩
theorem GZ:∀(l:List IN) (e:Env) (nm:ByteArray),UQ l e nm≠none→(∃x∈l,x.nm=nm)∨e nm≠none
 | [],e,nm,h=>.inr h
 | x::l,e,nm,h=>by
  rcases GZ l _ nm h with ⟨y,hy,hn⟩|h1
  ·exact .inl ⟨y,List.mem_cons_of_mem _ hy,hn⟩
  by_cases he:nm=x.nm
  ·exact .inl ⟨x,by simp,he.symm⟩
  refine .inr ?_
  unfold upd at h1
  rw[ZZ he] at h1
  exact h1
theorem ES {p:PG} {env:Env} (hok:Jd p) (hN:Um p) (hC:xy p env):∀e:PE,YF e=true→Y9 p.flows p.ins.length (xI p) (fI p) (iI p) e:=by
 have hu:∀i j (hi:i<p.flows.length) (hj:j<p.flows.length),p.flows[i].nm=p.flows[j].nm→i=j:=by
  intro i j hi hj h
  have h1:=(hN.flows i hi).1
  have h2:=(hN.flows j hj).1
  rw[h] at h1
  omega
 have h0:∀nm,YX p.ins nm≠none→fI p nm=none:=by
  intro nm h
  cases hf:fI p nm with
  | none=>rfl
  | some j =>
   exfalso
   obtain⟨hj,hjn⟩:=Ka hf
   have h1:=(hN.flows j hj).1
   rw[hjn] at h1
   rcases GZ p.ins _ nm h with ⟨x,hx,hxn⟩|h2
   ·obtain⟨i,hi,hxi⟩:=Yj hx
    have h3:=hN.ins i hi
    rw[hxi,hxn] at h3
    omega
   exact h2 rfl
 have hf:=qd (nI:=p.ins.length) (xIx:=xI p) (iIx:=iI p) hC.gr h0 (fun f hf=>(hok.flows f hf).2) hu (fun nm j h=>Ka h)
 intro e hex
 refine ki (fun nm j hj=>?_) _ e (ZU _) hex
 obtain⟨hjl,hjn⟩:=Ka hj
 obtain⟨pp,q,_,hq⟩:=hC.flows _ (Zi hjl)
 rw[hjn] at hq
 exact hf nm (by rw[hq];simp) j hj
theorem EY:∀(l:List ByteArray) (i:Nat) (e:IE) (B:Nat),i+l.length≤B→(∀k j,e k=some j→j≤B)→∀k j,inI l i e k=some j→j≤B:=by
 intro l i e B hB he k j h
 rcases KL l i e k j h with ⟨h1,h2,_⟩|h1
 ·omega
 exact he k j h1
def Vo (p:PG) (env:Env) (base:Nat) (w:World) (v:Value):Prop :=
 ∃vI vN vT vL,v=.agg #[vI,vN,vT,vL]∧Y1 zr 50 2 w base vI (p.ins.map (fun x=>(x.per,x.ph)))∧Y1 Vp 94 10 w base vN p.nodes ∧
  Y1 (Qw base) 53 4 w base vT ((YL p.flows 0).map (tkR p (xI p) (fI p) (iI p) (nI p) (ET p env)))∧Y1 (QH base) 77 5 w base vL (p.outs.map (tlR p (xI p) (fI p) (iI p) (ET p env)))
def QF:Value:=.agg #[.slice none 0 0,.slice none 0 0,.slice none 0 0,.slice none 0 0]
def je (p:PG) (base:Nat) (x:Ending) (w':World):Prop :=
 (∃a e,e≠0∧x=.returned (.tuple #[QF,.int .i64 a,.int .i64 e])) ∨
  ∃v env,x=.returned (.tuple #[v,.int .i64 0,.int .i64 0])∧Vo p env base w' v∧xy p env∧(YL p.flows 0).length≤30∧Jv p (xI p) (fI p) (iI p) p.flows 0=true
theorem Vo.below {p:PG} {env:Env} {base:Nat} {w w':World} {v:Value} (h:Vo p env base w v) (hb:Below w.heap.size w w'):Vo p env base w' v:=by
 obtain⟨vI,vN,vT,vL,h0,h1,h2,h3,h4⟩:=h
 exact⟨vI,vN,vT,vL,h0,h1.below hb (fun c x hc=>hc),h2.below hb (fun c x hc=>hc.below hb),h3.below hb (fun c x hc=>hc.below hb),h4.below hb (fun c x hc=>hc.below hb)⟩
theorem Vo.mono {p:PG} {env:Env} {base base':Nat} {w:World} {v:Value} (h:Vo p env base w v) (hb:base'≤base):Vo p env base' w v:=by
 obtain⟨vI,vN,vT,vL,h0,h1,h2,h3,h4⟩:=h
 exact⟨vI,vN,vT,vL,h0,h1.mono hb (fun c x hc=>hc),h2.mono hb (fun c x hc=>hc),h3.mono hb (fun c x hc=>hc.mono hb),h4.mono hb (fun c x hc=>VD hc hb)⟩
theorem Vo.form {p:PG} {env:Env} {base:Nat} {w:World} {v:Value} (h:Vo p env base w v):∃aI cI aN cN aT cT aL cL,v=.agg #[.slice aI p.ins.length cI,.slice aN p.nodes.length cN,.slice aT (YL p.flows 0).length cT,.slice aL p.outs.length cL]:=by
 obtain⟨vI,vN,vT,vL,rfl,h1,h2,h3,h4⟩:=h
 obtain⟨aI,cI,rfl⟩:=h1.form
 obtain⟨aN,cN,rfl⟩:=h2.form
 obtain⟨aT,cT,rfl⟩:=h3.form
 obtain⟨aL,cL,rfl⟩:=h4.form
 simp only[Zo]
 exact⟨aI,cI,aN,cN,aT,cT,aL,cL,rfl⟩
theorem kL {w:World} (p:PG) (an ai af ao:Option Addr) (cn ci cf co:Nat) (hp:AP w p an ai af ao cn ci cf co) (hz:NZ w p.nodes an) (hok:Jd p) (hN:Um p) (hps:∀x∈p.nodes,x.ps.length≤1000) (l:List (Int × Int)) (bc:Nat) (hbc:bc<w.heap.size) (hl:l.length≤1000) (hc:Ew w bc l) :
  Calls Tryz.prog 18 #[pv p an ai af ao cn ci cf co,.slice (some ⟨bc,0,none⟩) l.length l.length] w fun x w'=>je p w.heap.size x w'∧Below w.heap.size w w':=by
 have HASK:=hid (fun(w':World) (hb:Below w.heap.size w w')=>kt (w:=w') p an ai af ao cn ci cf co (hp.below hb) (hz.below hp.nodes hb) hok l bc (Zd hbc hb.size) hl (fun i h=>⟨(hb.cell (p:=⟨bc,i*2,none⟩) hbc).trans (hc i h).1,(hb.cell (p:=⟨bc,i*2+1,none⟩) hbc).trans (hc i h).2⟩))
 have HNEW:=hid (fun(w':World) (hb:Below w.heap.size w w') (env:Env) (he:p.flows.map (fun f=>Jf env f.nm)=l)=>E8 (w:=w') p an ai af ao cn ci cf co (hp.below hb) hok env bc (Zd hbc hb.size) l he (fun i h=>⟨(hb.cell (p:=⟨bc,i*2,none⟩) hbc).trans (hc i h).1,(hb.cell (p:=⟨bc,i*2+1,none⟩) hbc).trans (hc i h).2⟩))
 have HP:=hid hp
 have HOK:=hid hok
 have HNM:=hid hN
 have HPS:=hid hps
 clear hp hz hok hN hps hc
 unfold pv at *
 go_enter Tryz.func18,Tryz.ntmps18
 go_upto_region 1 with fail
 obtain⟨W2,hW2⟩:∃W2,(w.alloc (.cells #[.slice an p.nodes.length cn,.slice ai p.ins.length ci,.slice af p.flows.length cf,.slice ao p.outs.length co] 27)).alloc (.cells #[.slice none 0 0,.slice none 0 0,.slice none 0 0,.slice none 0 0] 35)=W2:=⟨_,rfl⟩
 rw[hW2]
 have hB:Below w.heap.size w W2:=by rw[←hW2];exact bq
 have hs2:w.heap.size+2≤W2.heap.size:=by rw[←hW2];simp
 have hq0:W2.heap[w.heap.size]?=some (.cells #[.slice an p.nodes.length cn,.slice ai p.ins.length ci,.slice af p.flows.length cf,.slice ao p.outs.length co] 27 (0,0)):=by rw[←hW2];exact(Za _ _ _ (by simp)).trans (Yt w _)
 have hq1:W2.heap[w.heap.size+1]?=some (.cells #[.slice none 0 0,.slice none 0 0,.slice none 0 0,.slice none 0 0] 35 (0,0)):=by rw[←hW2];simpa using Yt (w.alloc (.cells #[.slice an p.nodes.length cn,.slice ai p.ins.length ci,.slice af p.flows.length cf,.slice ao p.outs.length co] 27)) (.cells #[.slice none 0 0,.slice none 0 0,.slice none 0 0,.slice none 0 0] 35)
 have HB:=hid hB
 have HQ0:=hid hq0
 have HQ1:=hid hq1
 obtain⟨⟨x0,x1,x2,x3⟩,xf⟩:=Yu hq0
 clear hW2 hB hq0 hq1
 have hl0:w.heap.size<W2.heap.size:=oq
 have hl1:w.heap.size+1<W2.heap.size:=oq
 go_wp2_with (first
  | (go_at_call 45;refine(HASK.out _ HB.out).mono ?_;rintro x w3 ⟨(⟨a3,e3,he3,rfl⟩|⟨rfl,env,hck,hle⟩),hb3⟩<;>(have hz3:=hb3.size;have hlt3:w.heap.size+1<w3.heap.size:=oq;have HA3:=hid (HB.out.trans (hb3.mono oq));have HV:=hid ((hb3.block _ hl1).trans HQ1.out);obtain⟨⟨y0,y1,y2,y3⟩,yf⟩:=Yu ((hb3.block _ hl0).trans HQ0.out);obtain⟨⟨v0,v1,v2,v3⟩,vf⟩:=Yu HV.out;first|(have hne3:(e3 != 0)=true:=bne_iff_ne.2 he3)|(have HCK:=hid hck;have HLE:=hid hle;clear hck hle);clear hb3))
  | (go_at_call 46;refine(HNEW.out w3 HA3.out env HLE.out.symm).mono ?_;rintro x w4 ⟨m,mc,mi,mf,mn,mx,Lc,Li,Lf,Ln,rfl,hmk,hLc,hLi,hLf,hLn⟩;have HM4:=hid (Zbw hmk);have HL4:=hid HM4.out.low;have HMAPS:=hid (Zh hLc (Zh hLi (Zh hLf hLn)));have k3:=Zd hlt3 HL4.out.size;obtain⟨⟨v0,v1,v2,v3⟩,vf⟩:=Yu ((HL4.out.block _ hlt3).trans HV.out);clear hmk hLc hLi hLf hLn)
  | (go_at_call 47;refine(qx p an ai af ao cn ci cf co (HP.out.below HA3.out) HOK.out mc mi mf mn mx m Lc Li Lf Ln HM4.out).mono ?_;rintro x w5 hnum;rcases hnum with ⟨a5,rfl,h30,hb5⟩|⟨rfl,h30,hup,Lx,hM5,hIx⟩<;>((first|(have HL5:=hid hb5;clear hb5)|(have HL5:=hid hM5.low;have HM5:=hid hM5;have HIX:=hid hIx;clear hM5 hIx hup));have k3:=Zd hlt3 HL5.out.size;obtain⟨⟨v0,v1,v2,v3⟩,vf⟩:=Yu ((HL5.out.block _ hlt3).trans HV.out)))
  | (go_at_call 48;refine(xJ p an ai af ao cn ci cf co (HP.out.below HA3.out) HOK.out mc mi mf mn mx m Lc Li Lf Ln Lx HM5.out (xI p) (fI p) (iI p) HIX.out HMAPS.out.2.2.1 HMAPS.out.2.1 (EY _ _ _ 1000 (by rw[Zo];omega) (fun k j h=>by cases h)) (ES HOK.out HNM.out HCK.out)).mono ?_;rintro x w6 ⟨(⟨rfl,hfew⟩|⟨a6,rfl,hfew⟩),hb6⟩<;>(have HL6:=hid (HL5.out.trans (hb6.mono HL5.out.size));have HM6:=hid (HM5.out.grow hb6);have k3:=Zd hlt3 HL6.out.size;obtain⟨⟨v0,v1,v2,v3⟩,vf⟩:=Yu ((HL6.out.block _ hlt3).trans HV.out);clear hb6))
  | (go_at_call 49;refine(ky p an ai af ao cn ci cf co (HP.out.below HA3.out) HOK.out mc mi mf mn mx m Lc Li Lf Ln Lx HM6.out (xI p) (fI p) (iI p) (nI p) HIX.out HMAPS.out.2.2.1 HMAPS.out.2.1 HMAPS.out.2.2.2 (EY _ _ _ 1000 (by rw[Zo];omega) (fun k j h=>by cases h)) (ET p env) HMAPS.out.1 (ES HOK.out HNM.out HCK.out) HPS.out h30 (fun o ho=>by obtain⟨i,hi,hoi⟩:=Yj ho;have:=HNM.out.outs i hi;rw[hoi] at this;exact kr this)).mono ?_;rintro x w7 ⟨⟨vI,vN,vT,vL,rfl,r1,r2,r3,r4⟩,hb7⟩;have HR:=hid (Zh r1 (Zh r2 (Zh r3 r4)));obtain⟨aI,cI,rfl⟩:=r1.form;obtain⟨aN,cN,rfl⟩:=r2.form;obtain⟨aT,cT,rfl⟩:=r3.form;obtain⟨aL,cL,rfl⟩:=r4.form;have HL7:=hid (HL6.out.trans (hb7.mono HL6.out.size));have HS7:=hid HL6.out.size;have k3:=Zd hlt3 HL7.out.size;obtain⟨⟨v0,v1,v2,v3⟩,vf⟩:=Yu ((HL7.out.block _ hlt3).trans HV.out);clear hb7 r1 r2 r3 r4))
 all_goals first
  | (refine Zl (v:=.tuple #[QF,.int .i64 a6,.int .i64 8]) ?_ rfl ⟨.inl ⟨a6,8,by decide,rfl⟩,?_⟩;(focus (unfold QF;simp only[results,Tryz.results18];go_simp));exact bq)
  | (refine Zl (v:=.tuple #[QF,.int .i64 a5,.int .i64 8]) ?_ rfl ⟨.inl ⟨a5,8,by decide,rfl⟩,?_⟩;(focus (unfold QF;simp only[results,Tryz.results18];go_simp));exact bq)
  | (refine Zl (v:=.tuple #[QF,.int .i64 a3,.int .i64 e3]) ?_ rfl ⟨.inl ⟨a3,e3,he3,rfl⟩,?_⟩;(focus (unfold QF;simp only[results,Tryz.results18];go_simp));exact bq)
  | skip
 have hst:YO 35 w7 ((((w7.setCell ⟨w.heap.size+1,0,none⟩ (.slice aI (p.ins.map (fun x=>(x.per,x.ph))).length cI)).setCell ⟨w.heap.size+1,1,none⟩ (.slice aN p.nodes.length cN)).setCell ⟨w.heap.size+1,2,none⟩ (.slice aT ((YL p.flows 0).map (tkR p (xI p) (fI p) (iI p) (nI p) (ET p env))).length cT)).setCell ⟨w.heap.size+1,3,none⟩ (.slice aL (p.outs.map (tlR p (xI p) (fI p) (iI p) (ET p env))).length cL)):=YO.of_upon ((HL7.out.block _ hlt3).trans HV.out) (xk w7 (w.heap.size+1) _ _ _ _)
 have hbse:w.heap.size≤w6.heap.size:=by have:=HA3.out.size;have:=HS7.out;omega
 obtain⟨r1,r2,r3,r4⟩:=HR.out
 have hm:Vo p env w.heap.size _ (.agg #[.slice aI (p.ins.map (fun x=>(x.per,x.ph))).length cI,.slice aN p.nodes.length cN,.slice aT ((YL p.flows 0).map (tkR p (xI p) (fI p) (iI p) (nI p) (ET p env))).length cT,.slice aL (p.outs.map (tlR p (xI p) (fI p) (iI p) (ET p env))).length cL]):=⟨_,_,_,_,rfl,(r1.stays hst (by decide) (fun c x hc=>hc)).mono hbse (fun c x hc=>hc),(r2.stays hst (by decide) (fun c x hc=>hc.stays hst (by decide) (by decide))).mono hbse (fun c x hc=>hc),
  (r3.stays hst (by decide) (fun c x hc=>hc.stays hst (by decide) (by decide))).mono hbse (fun c x hc=>hc.mono hbse),(r4.stays hst (by decide) (fun c x hc=>hc.stays hst (by decide))).mono hbse (fun c x hc=>VD hc hbse)⟩
 simp only[Zo] at hm hst
 refine Zl (v:=.tuple #[.agg #[.slice aI p.ins.length cI,.slice aN p.nodes.length cN,.slice aT (YL p.flows 0).length cT,.slice aL p.outs.length cL],.int .i64 0,.int .i64 0]) ?_ rfl ⟨.inr ⟨_,env,rfl,hm,HCK.out,h30,hfew⟩,?_⟩
 ·simp only[results,Tryz.results18];go_simp
 exact bq
theorem kM {w:World} (p:PG) (an ai af ao:Option Addr) (cn ci cf co:Nat) (hp:AP w p an ai af ao cn ci cf co) (hz:NZ w p.nodes an) (hok:Jd p) (hN:Um p) (hps:∀x∈p.nodes,x.ps.length≤1000) (l:List (Int × Int)) (n:Nat) (hn:l.length=n) (bc:Nat) (hbc:bc<w.heap.size) (hl:l.length≤1000) (hc:Ew w bc l) :
  Calls Tryz.prog 18 #[pv p an ai af ao cn ci cf co,.slice (some ⟨bc,0,none⟩) n n] w fun x w'=>je p w.heap.size x w'∧Below w.heap.size w w':=by
 subst hn
 exact kL p an ai af ao cn ci cf co hp hz hok hN hps l bc hbc hl hc
theorem Vo.stays {p:PG} {env:Env} {base:Nat} {w w':World} {v:Value} (h:Vo p env base w v) (hst:YO 35 w w'):Vo p env base w' v:=by
 obtain⟨vI,vN,vT,vL,h0,h1,h2,h3,h4⟩:=h
 exact⟨vI,vN,vT,vL,h0,h1.stays hst (by decide) (fun c x hc=>hc),h2.stays hst (by decide) (fun c x hc=>hc.stays hst (by decide) (by decide)),h3.stays hst (by decide) (fun c x hc=>hc.stays hst (by decide) (by decide)),h4.stays hst (by decide) (fun c x hc=>hc.stays hst (by decide))⟩
def jd (p:PG) (base:Nat) (x:Ending) (w':World):Prop :=
 x=.returned (.tuple #[QF,.bool false]) ∨
  ∃v env,x=.returned (.tuple #[v,.bool true])∧Vo p env base w' v∧Vs p∧Um p∧xy p env∧(YL p.flows 0).length≤30∧Jv p (xI p) (fI p) (iI p) p.flows 0=true
theorem kK {w:World} (p:PG) (an ai af ao:Option Addr) (cn ci cf co:Nat) (hp:AP w p an ai af ao cn ci cf co) (hz:NZ w p.nodes an) (hsm:xB p) :
  Calls Tryz.prog 7 #[pv p an ai af ao cn ci cf co] w fun x w'=>jd p w.heap.size x w'∧Below w.heap.size w w':=by
 have HRI:=hid (fun(w':World) (hb:Below w.heap.size w w')=>gy (w:=w') p an ai af ao cn ci cf co (hp.below hb) hsm)
 have HNA:=hid (fun(w':World) (hb:Below w.heap.size w w') (hr:Vs p)=>vK (w:=w') p.nodes p.ins p.flows p.outs an ai af ao cn ci cf co (hp.below hb) (by have:=hr.lens;omega) (by have:=hr.lens;omega) (by have:=hr.lens;omega) (by have:=hr.lens;omega) (fun x hx=>by have:=(hr.nodes x hx).2.1;omega))
 have HCL:=hid (fun(w':World) (hb:Below w.heap.size w w') (hr:Vs p)=>Kw (w:=w') p an ai af ao cn ci cf co (hp.below hb) hr.ok.sums (by have:=hr.lens;omega) hr.ok.ins)
 have HMA:=hid (fun(w':World) (hb:Below w.heap.size w w') (hr:Vs p) (hn:Um p) l n (hln:l.length=n) bc (hbc:bc<w'.heap.size) (hl:l.length≤1000) (hc:Ew w' bc l)=>kM (w:=w') p an ai af ao cn ci cf co (hp.below hb) (hz.below hp.nodes hb) hr.ok hn (fun x hx=>by have:=(hr.nodes x hx).2.1;omega) l n hln bc hbc hl hc)
 clear hp hz hsm
 unfold pv at *
 go_enter Tryz.func7,Tryz.ntmps7
 go_upto_region 1 with fail
 obtain⟨W2,hW2⟩:∃W2,(w.alloc (.cells #[.slice an p.nodes.length cn,.slice ai p.ins.length ci,.slice af p.flows.length cf,.slice ao p.outs.length co] 27)).alloc (.cells #[.slice none 0 0,.slice none 0 0,.slice none 0 0,.slice none 0 0] 35)=W2:=⟨_,rfl⟩
 rw[hW2]
 have hB:Below w.heap.size w W2:=by rw[←hW2];exact bq
 have hs2:w.heap.size+2≤W2.heap.size:=by rw[←hW2];simp
 have hq0:W2.heap[w.heap.size]?=some (.cells #[.slice an p.nodes.length cn,.slice ai p.ins.length ci,.slice af p.flows.length cf,.slice ao p.outs.length co] 27 (0,0)):=by rw[←hW2];exact(Za _ _ _ (by simp)).trans (Yt w _)
 have hq1:W2.heap[w.heap.size+1]?=some (.cells #[.slice none 0 0,.slice none 0 0,.slice none 0 0,.slice none 0 0] 35 (0,0)):=by rw[←hW2];simpa using Yt (w.alloc (.cells #[.slice an p.nodes.length cn,.slice ai p.ins.length ci,.slice af p.flows.length cf,.slice ao p.outs.length co] 27)) (.cells #[.slice none 0 0,.slice none 0 0,.slice none 0 0,.slice none 0 0] 35)
 have HB:=hid hB
 have HQ0:=hid hq0
 have HQ1:=hid hq1
 obtain⟨⟨x0,x1,x2,x3⟩,xf⟩:=Yu hq0
 have hl0:w.heap.size<W2.heap.size:=oq
 have hl1:w.heap.size+1<W2.heap.size:=oq
 clear hW2 hB hq0 hq1
 go_wp2_with (first
  | (go_at_call 15;refine(HRI.out _ HB.out).mono ?_;rintro x w3 ⟨⟨b3,rfl,hb3⟩,hlo3⟩;have HL3:=hid (show Below W2.heap.size W2 w3 from hlo3);obtain⟨⟨y0,y1,y2,y3⟩,yf⟩:=Yu ((HL3.out.block _ hl0).trans HQ0.out);obtain⟨⟨v0,v1,v2,v3⟩,vf⟩:=Yu ((HL3.out.block _ hl1).trans HQ1.out);have hz3:=HL3.out.size;have HR3:=hid hb3;clear hb3 hlo3;cases b3)
  | (go_at_call 16;refine(HNA.out _ (HB.out.trans (HL3.out.mono oq)) (HR3.out (by trivial))).mono ?_;rintro x w4 ⟨⟨b4,rfl,hb4⟩,hlo4⟩;have HL4:=hid (HL3.out.trans (hlo4.mono hz3));obtain⟨⟨y0,y1,y2,y3⟩,yf⟩:=Yu ((HL4.out.block _ hl0).trans HQ0.out);obtain⟨⟨v0,v1,v2,v3⟩,vf⟩:=Yu ((HL4.out.block _ hl1).trans HQ1.out);have hz4:=HL4.out.size;have HN4:=hid hb4;clear hb4 hlo4;cases b4)
  | (go_at_call 17;refine(HCL.out _ (HB.out.trans (HL4.out.mono oq)) (HR3.out (by trivial))).mono ?_;rintro x w5 ⟨(⟨a5,e5,he5,rfl⟩|⟨v5,env5,rfl,hck5,⟨b5,rfl,hb5,hc5⟩⟩),hlo5⟩<;>(have HL5:=hid (HL4.out.trans (hlo5.mono hz4));(obtain⟨⟨y0,y1,y2,y3⟩,yf⟩:=Yu ((HL5.out.block _ hl0).trans HQ0.out));(obtain⟨⟨v0,v1,v2,v3⟩,vf⟩:=Yu ((HL5.out.block _ hl1).trans HQ1.out));have hz5:=HL5.out.size;first|(have hne5:(e5 != 0)=true:=bne_iff_ne.2 he5)|(have HC5:=hid hc5;clear hc5);clear hlo5))
  | (go_at_call 18;refine(HMA.out _ (HB.out.trans (HL5.out.mono oq)) (HR3.out (by trivial)) (HN4.out (by trivial)) (p.flows.map (fun f:FL=>Jf env5 f.nm)) _ (Zo ..) b5 hb5 (by rw[Zo];have:=(HR3.out (by trivial)).lens;omega) HC5.out).mono ?_;rintro x w6 ⟨(⟨a6,e6,he6,rfl⟩|⟨v6,env,rfl,hmk,hck,h30,hfew⟩),hlo6⟩<;>(have HL6:=hid (HL5.out.trans (hlo6.mono hz5));(obtain⟨⟨v0,v1,v2,v3⟩,vf⟩:=Yu ((HL6.out.block _ hl1).trans HQ1.out));have hz6:=HL6.out.size;have hk6:w.heap.size+1<w6.heap.size:=oq;have hk6n:¬w.heap.size+1=w6.heap.size:=oq;have hle6:w.heap.size≤w5.heap.size:=oq;first|(have hne6:(e6 == 0)=false:=ZW.2 he6;unfold QF)|(have HMK:=hid hmk;obtain⟨aI,cI,aN,cN,aT,cT,aL,cL,rfl⟩:=hmk.form;clear hmk);clear hlo6)))
 all_goals first
  | (have hq7:=(HL6.out.block _ hl1).trans HQ1.out;refine Zl (v:=.tuple #[.agg #[.slice aI p.ins.length cI,.slice aN p.nodes.length cN,.slice aT (YL p.flows 0).length cT,.slice aL p.outs.length cL],.bool true]) ?_ rfl ⟨.inr ⟨_,env,rfl,(HMK.out.mono hle6).stays ((YO.of_upon hq7 (xk _ _ _ _ _ _)).trans (YO.of_below ((Zg _ _).alloc (Zc _) _))),HR3.out (by trivial),HN4.out (by trivial),hck,h30,hfew⟩,?_⟩;(focus (simp only[results,Tryz.results7];go_simp));exact bq)
  | (have hgd:=HL6.out;refine Zl (v:=.tuple #[QF,.bool false]) ?_ rfl ⟨.inl rfl,?_⟩;(focus (unfold QF;simp only[results,Tryz.results7];go_simp));exact bq)
  | (have hgd:=HL5.out;refine Zl (v:=.tuple #[QF,.bool false]) ?_ rfl ⟨.inl rfl,?_⟩;(focus (unfold QF;simp only[results,Tryz.results7];go_simp));exact bq)
  | (have hgd:=HL4.out;refine Zl (v:=.tuple #[QF,.bool false]) ?_ rfl ⟨.inl rfl,?_⟩;(focus (unfold QF;simp only[results,Tryz.results7];go_simp));exact bq)
  | (have hgd:=HL3.out;refine Zl (v:=.tuple #[QF,.bool false]) ?_ rfl ⟨.inl rfl,?_⟩;(focus (unfold QF;simp only[results,Tryz.results7];go_simp));exact bq)
  | skip
end Go.Proofs.YtlhlcdjiafdoeaaGreatDoor.syn
