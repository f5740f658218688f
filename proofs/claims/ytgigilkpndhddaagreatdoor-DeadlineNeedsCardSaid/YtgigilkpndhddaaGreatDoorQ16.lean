/-
  Parts of the proof: Chk4, Chk5, Chk6, Chk7, Chk8, Chk9.
-/
import Derived.LoopIn
import Derived.LoopNIn
import Derived.OwnWalkIn
import Derived.RangeFuncBound
import Derived.RangeFuncCalls
import Derived.RangeFuncLeaves
import Derived.RangeFuncNested
import Derived.TacticsInMore
import Derived.Test.YtgigilkpndhddaaGreatDoorQ02
import Derived.Test.YtgigilkpndhddaaGreatDoorQ05
import Derived.Test.YtgigilkpndhddaaGreatDoorQ15
namespace Go.Proofs.YtgigilkpndhddaaGreatDoor.syn
set_option linter.unusedVariables false
set_option linter.unusedSimpArgs false
set_option linter.unnecessarySimpa false
set_option maxRecDepth 100000
set_option maxHeartbeats 16000000
open Go.RowKit
theorem V0 {w:World} {b:Nat} {v0 v1:Value} {t:TypeId} (h:w.heap[b]?=some (.cells #[v0,v1] t (0,0))) :
  (w.cell? ⟨b,0,none⟩=some v0∧w.cell? ⟨b,1,none⟩=some v1)∧∀o,w.frozen? ⟨b,o,none⟩=false:=by
 refine⟨⟨?_,?_⟩,?_⟩
 all_goals first|(intro o;simp[World.frozen?,h])|simp[World.cell?,h]
theorem jG {w:World} {r:Nat} {a b:Value} {t:TypeId} (h:w.heap[r]?=some (.cells #[a,b] t (0,0))) (o:Nat) (u:Value) :
  (w.setCell ⟨r,o,none⟩ u).heap[r]?=some (.cells (#[a,b].setIfInBounds o u) t (0,0)):=by
 have hlt:=Zb h
 have h':w.heap[r]=.cells #[a,b] t (0,0):=by simpa [Ym hlt] using h
 show(w.heap.modify r _)[r]?=_
 rw[Ym (by simpa using hlt),Array.getElem_modify_self,h']
 rfl
theorem set2 {w:World} {r:Nat} {a b a' b':Value} {t:TypeId} (h:w.heap[r]?=some (.cells #[a,b] t (0,0))) :
  ((w.setCell ⟨r,0,none⟩ a').setCell ⟨r,1,none⟩ b').heap[r]?=some (.cells #[a',b'] t (0,0)):=jG (a:=a') (b:=b) (jG h 0 a') 1 b'
theorem ut (env:Env) (k:Int) (nm:ByteArray) (n d a:Int) (args:PL):(∃ab eb,XR env k nm n d a (Xo env args)=.bad ab eb) ∨
  ∃p f kb,(XR env k nm n d a (Xo env args)).v=.agg #[.int .i64 p,.int .i64 f,.bool kb,.int .i64 0,.int .i64 0] ∧
   (∀c tl,ckL env c (.cons k nm n d args a tl)=(decide ((p,f)=c)&&ckL env c tl))∧∀tl,ckA env (.cons k nm n d args a tl)=ckL env (p,f) tl:=by
 cases h:XR env k nm n d a (Xo env args) with
 | bad ab eb=>exact .inl ⟨ab,eb,rfl⟩
 | unk=>exact .inr ⟨0,0,false,rfl,fun c tl=>by rw[ckL,h],fun tl=>by rw[ckA,h]⟩
 | ok p f=>exact .inr ⟨p,f,true,rfl,fun c tl=>by rw[ckL,h],fun tl=>by rw[ckA,h]⟩
theorem ZaI {env:Env} {k:Int} {nm:ByteArray} {n d a ab eb:Int} {args:PL} (h:XR env k nm n d a (Xo env args)=.bad ab eb) (c:Int × Int) (tl:PL):ckL env c (.cons k nm n d args a tl)=false:=by rw[ckL,h]
theorem Zaz {env:Env} {k:Int} {nm:ByteArray} {n d a ab eb:Int} {args:PL} (h:XR env k nm n d a (Xo env args)=.bad ab eb) (tl:PL):ckA env (.cons k nm n d args a tl)=false:=by rw[ckA,h]
def zJ (b:Bool) (x:Ending):Prop:=if b=true then x=VJ else ∃a e,e≠0∧x=.returned (.tuple #[.int .i64 a,.int .i64 e])
def Zc6 (w:World) (env:Env) (e:PE) (ad:Option Addr) (cap:Nat) (v:Value) (wr:World):Prop :=
 ∃(i:Nat) (rest:PL) (c1 c2:Int),v=.int .i64 (i:Int)∧X1 w ad e.args rest i∧(i=0→rest=e.args)∧(i≠0→ckL env (c1,c2) rest=ckA env e.args) ∧
  wr.heap[w.heap.size]?=some (.cells #[.int .i64 e.k,.string e.nm,.int .i64 e.n,.int .i64 e.d,.slice ad e.args.len cap,.int .i64 e.a] 88 (0,0)) ∧
  wr.heap[w.heap.size+1]?=some (.cells #[.int .i64 c1,.int .i64 c2] 62 (0,0))∧Below w.heap.size w wr
theorem yI {w:World} (e:PE) (ad:Option Addr) (cap mb:Nat) (L:List (ByteArray × Value)) (env:Env) (hae:AE w e ad cap) (hM:YG w mb L) (hE:Xy L env) :
  Calls Tryz.prog 91 #[.map (some mb),.agg #[.int .i64 e.k,.string e.nm,.int .i64 e.n,.int .i64 e.d,.slice ad e.args.len cap,.int .i64 e.a]] w fun x w'=>zJ (ckA env e.args) x∧Below w.heap.size w w':=by
 obtain⟨k,nm,n,d,args,a⟩:=e
 have hlen:=hae.len
 simp only at hlen ⊢
 have HA:=hid hae
 have HM:=hid hM
 clear hae hM
 obtain⟨r,hr⟩:∃r,ckA env args=r:=⟨_,rfl⟩
 rw[hr]
 have HR:=hid hr
 clear hr
 go_enter Tryz.func91,Tryz.ntmps91
 go_wp2
 go_loopw [13] (fun v wr=>Hid (Zc6 w env ⟨k,nm,n,d,args,a⟩ ad cap v wr)) (fun i _=>args.len-(intOf i).toNat)
 case atStart=>exact⟨0,args,0,0,rfl,X1.start HA.out.args,fun _=>rfl,fun h=>absurd rfl h,(Z5 _ _ (by simp)).trans (Yp w _),by simpa using Yp (w.alloc _) _,bq⟩
 obtain⟨i,rest,c1,c2,rfl,hrest,hz,hnz,hbox,hfir,hbel⟩:=hrel.out
 clear hrel
 simp only at hz hnz
 obtain⟨⟨x0,x1,x2,x3,x4,x5⟩,xf⟩:=YZ hbox
 obtain⟨⟨g0,g1⟩,gf⟩:=V0 hfir
 have HBOX:=hid hbox
 have HFIR:=hid hfir
 have HBEL:=hid hbel
 have hil:=hrest.1
 simp only at hil
 have hbl:=Zb hbox
 have hbl2:=Zb hfir
 have hsB:=hbel.size
 have HRS0:=hid hrest
 have HRS:=hid (hrest.below hbel)
 clear hbox hfir hbel hrest
 cases rest with
 | nil =>
  have hil':(i:Int)=(args.len:Int):=by simp only[PL.len] at hil;omega
  have h1:r=true:=by
   rw[←HR.out]
   by_cases h0:i=0
   ·rw[←hz h0];rfl
   rw[←hnz h0];rfl
  subst h1
  clear hz hnz
  go_wp2
  go_ret2
  exact⟨rfl,HBEL.out⟩
 | cons k1 nm1 n1 d1 args1 a1 tl =>
  have hil':(i:Int)<(args.len:Int):=by simp only[PL.len] at hil;omega
  obtain⟨b,o,rfl,hb,h0,h1,h2,h3,h5,hn,⟨ad1,cap1,h4,hcap1,hcm1,hd1⟩,ht⟩:=HRS.out.2.2.resolve_left (by intro h;cases h)
  have HC:=hid (KR hE ⟨k1,nm1,n1,d1,args1,a1⟩)
  have HE:=hid (show AE wr ⟨k1,nm1,n1,d1,args1,a1⟩ ad1 cap1 from ⟨hn,⟨hcap1,hcm1⟩,hd1⟩)
  have hgd:=VE env ⟨k1,nm1,n1,d1,args1,a1⟩
  unfold QC at HC
  simp only at HC
  have hte:Qd env ⟨k1,nm1,n1,d1,args1,a1⟩=XR env k1 nm1 n1 d1 a1 (Xo env args1):=rfl
  rw[hte] at HC hgd
  clear hte ht hn hd1
  rcases ut env k1 nm1 n1 d1 a1 args1 with ⟨ab,eb,hbad⟩|⟨p,f,kb,hv,hckl,hcka⟩
  ·have h1:r=false:=by
    rw[←HR.out]
    by_cases h0:i=0
    ·rw[←hz h0];exact Zaz hbad tl
    rw[←hnz h0];exact ZaI hbad (c1,c2) tl
   subst h1
   rw[hbad] at HC hgd
   simp only[TT.v] at HC
   have heb:(eb == 0)=false:=ZY.2 hgd
   clear hz hnz hbad
   go_wp2_with (go_at_call 89;(with_reducible refine(HC.out _ _ _ _ (HE.out.below bq) (HM.out.below bq)).mono ?_);rintro x w2 ⟨rfl,hb2⟩;obtain⟨hc2,hf2⟩:=Yu hb2;have a2:w.heap.size<w2.heap.size:=Yr hb2 oq;have a2':w.heap.size+1<w2.heap.size:=Yr hb2 oq;have a3:wr.heap.size<w2.heap.size:=Yr hb2 oq;have hbx2:=(hb2.block w.heap.size oq).trans ((Z5 _ _ hbl).trans HBOX.out);obtain⟨⟨y0,y1,y2,y3,y4,y5⟩,yf⟩:=YZ hbx2;have hby2:=(hb2.block (w.heap.size+1) oq).trans ((Z5 _ _ hbl2).trans HFIR.out);obtain⟨⟨z0,z1⟩,zf⟩:=V0 hby2;have HY2:=hid hby2;clear hbx2 hby2)
   go_quiet (fail)
   go_wp2
   go_ret2
   exact⟨⟨ab,eb,hgd,rfl⟩,bq⟩
  rw[hv] at HC
  clear hv hgd
  by_cases h0:i=0
  ·have hi0:((i:Int) == 0)=true:=by rw[beq_iff_eq];omega
   have hq:=fun w=>JA p f p f w
   simp only[and_self,decide_true] at hq
   have h2:ckL env (p,f) tl=ckA env args:=by rw[←hz h0,hcka tl]
   have H2:=hid h2
   have HZ0:=hid h0
   clear hz hnz hckl hcka h0 h2
   go_wp2_with (go_at_call 89;(with_reducible refine(HC.out _ _ _ _ (HE.out.below bq) (HM.out.below bq)).mono ?_);rintro x w2 ⟨rfl,hb2⟩;obtain⟨hc2,hf2⟩:=Yu hb2;have a2:w.heap.size<w2.heap.size:=Yr hb2 oq;have a2':w.heap.size+1<w2.heap.size:=Yr hb2 oq;have a3:wr.heap.size<w2.heap.size:=Yr hb2 oq;have hbx2:=(hb2.block w.heap.size oq).trans ((Z5 _ _ hbl).trans HBOX.out);obtain⟨⟨y0,y1,y2,y3,y4,y5⟩,yf⟩:=YZ hbx2;have hby2:=(hb2.block (w.heap.size+1) oq).trans ((Z5 _ _ hbl2).trans HFIR.out);obtain⟨⟨z0,z1⟩,zf⟩:=V0 hby2;have HY2:=hid hby2;clear hbx2 hby2)
   refine⟨⟨i+1,tl,p,f,by go_num,HRS0.out.tail,fun h=>oq,fun _=>H2.out,?_,?_,bq⟩,by simp[intOf];omega⟩
   ·exact(Below.block (show Below (w.heap.size+1) wr _ from bq) _ oq).trans HBOX.out
   exact(Z5 _ _ (by simpa [World.setCell] using a2')).trans (set2 HY2.out)
  have hi0:((i:Int) == 0)=false:=by rw[ZY];omega
  have hck:=hnz h0
  rw[hckl (c1,c2) tl] at hck
  have HI0:=hid h0
  by_cases hcc:p=c1∧f=c2
  ·obtain⟨rfl,rfl⟩:=hcc
   have hq:=fun w=>JA p f p f w
   simp only[and_self,decide_true] at hq
   have H2:=hid (show ckL env (p,f) tl=ckA env args by rw[←hck];simp)
   clear hz hnz hckl hcka h0 hck
   go_wp2_with (go_at_call 89;(with_reducible refine(HC.out _ _ _ _ (HE.out.below bq) (HM.out.below bq)).mono ?_);rintro x w2 ⟨rfl,hb2⟩;obtain⟨hc2,hf2⟩:=Yu hb2;have a2:w.heap.size<w2.heap.size:=Yr hb2 oq;have a2':w.heap.size+1<w2.heap.size:=Yr hb2 oq;have a3:wr.heap.size<w2.heap.size:=Yr hb2 oq;have hbx2:=(hb2.block w.heap.size oq).trans ((Z5 _ _ hbl).trans HBOX.out);obtain⟨⟨y0,y1,y2,y3,y4,y5⟩,yf⟩:=YZ hbx2;have hby2:=(hb2.block (w.heap.size+1) oq).trans ((Z5 _ _ hbl2).trans HFIR.out);obtain⟨⟨z0,z1⟩,zf⟩:=V0 hby2;have HY2:=hid hby2;clear hbx2 hby2)
   refine⟨⟨i+1,tl,p,f,by go_num,HRS0.out.tail,fun h=>oq,fun _=>H2.out,?_,?_,bq⟩,by simp[intOf];omega⟩
   ·exact(Below.block (show Below (w.heap.size+1) wr _ from bq) _ oq).trans HBOX.out
   exact(Z5 _ _ a2').trans HY2.out
  have hq:=fun w=>JA p f c1 c2 w
  simp only[hcc,decide_false] at hq
  have h1:r=false:=by
   rw[←HR.out,←hck]
   have:¬((p,f)=(c1,c2)):=by intro e;injection e with e1 e2;exact hcc ⟨e1,e2⟩
   rw[ZZ this];rfl
  subst h1
  have HCC:=hid hcc
  clear hz hnz hckl hcka h0 hck hcc
  go_wp2_with (go_at_call 89;(with_reducible refine(HC.out _ _ _ _ (HE.out.below bq) (HM.out.below bq)).mono ?_);rintro x w2 ⟨rfl,hb2⟩;obtain⟨hc2,hf2⟩:=Yu hb2;have a2:w.heap.size<w2.heap.size:=Yr hb2 oq;have a2':w.heap.size+1<w2.heap.size:=Yr hb2 oq;have a3:wr.heap.size<w2.heap.size:=Yr hb2 oq;have hbx2:=(hb2.block w.heap.size oq).trans ((Z5 _ _ hbl).trans HBOX.out);obtain⟨⟨y0,y1,y2,y3,y4,y5⟩,yf⟩:=YZ hbx2;have hby2:=(hb2.block (w.heap.size+1) oq).trans ((Z5 _ _ hbl2).trans HFIR.out);obtain⟨⟨z0,z1⟩,zf⟩:=V0 hby2;have HY2:=hid hby2;clear hbx2 hby2)
  all_goals first|(exact(HCC.out ⟨rfl,rfl⟩).elim)|(exact(HCC.out ⟨by assumption,by assumption⟩).elim)|(exact(HCC.out ⟨by first|rfl|(symm;assumption),by first|rfl|(symm;assumption)⟩).elim)|(go_ret2;exact⟨⟨a,5,by decide,rfl⟩,bq⟩)
theorem VI (w:World) (p f a e:Int) (kb:Bool):(Instr.field 172 (.agg #[.int .i64 p,.int .i64 f,.bool kb,.int .i64 a,.int .i64 e]) 0).run Tryz.prog w=.ok (.agg #[.int .i64 p,.int .i64 f]) w:=by kernel_rfl
theorem Jz {w:World} {mb:Nat} {L:List (ByteArray × Value)} {nm:ByteArray} {v:Value} (h:YG w mb L) (hs:Y0 nm L=some v) :
  (Instr.lookup 118 (.map (some mb)) (.string nm) false).run Tryz.prog w=.ok v w:=by
 have:=XK Xc h nm false
 rw[hs] at this;exact this
theorem Zcq {w:World} {b:Nat} {v0:Value} {t:TypeId} (h:w.heap[b]?=some (.cells #[v0] t (0,0))) :
  w.cell? ⟨b,0,none⟩=some v0∧∀o,w.frozen? ⟨b,o,none⟩=false:=by
 refine⟨?_,?_⟩
 all_goals first|(intro o;simp[World.frozen?,h])|simp[World.cell?,h]
theorem set1 {w:World} {r:Nat} {a u:Value} {t:TypeId} (h:w.heap[r]?=some (.cells #[a] t (0,0))) :
  (w.setCell ⟨r,0,none⟩ u).heap[r]?=some (.cells #[u] t (0,0)):=by
 have hlt:=Zb h
 have h':w.heap[r]=.cells #[a] t (0,0):=by simpa [Ym hlt] using h
 show(w.heap.modify r _)[r]?=_
 rw[Ym (by simpa using hlt),Array.getElem_modify_self,h']
 rfl
def Vw (w:World) (rb:Nat) (r:Int):Prop:=w.heap[rb]?=some (.cells #[.int .i64 r] 3 (0,0))
theorem gL {w:World} (k n d a:Int) (nm:ByteArray) (v:Value) (rb:Nat) (r:Int) (h:Vw w rb r) (h1:1≤r) (h2:r≤1000000) :
  Calls Tryz.prog 87 #[.agg #[.int .i64 k,.string nm,.int .i64 n,.int .i64 d,v,.int .i64 a],.pointer (some ⟨rb,0,none⟩)] w fun x w' =>
   x=.returned (.bool true)∧Vw w' rb (r-1)∧Upon rb w w':=by
 have H:=hid h
 obtain⟨c0,cf⟩:=Zcq h
 have hlt:=Zb h
 have hd:decide ((0:Int)≤r-1)=true:=by simp;omega
 have hd':(0:Int)≤r-1:=oq
 clear h
 go_enter Tryz.func87,Tryz.ntmps87
 go_wp2
 go_ret
 refine⟨by simp,?_,?_⟩
 ·exact(Z5 _ _ (by simpa [World.setCell] using hlt)).trans (set1 H.out)
 exact(by repeat (first|(with_reducible exact Upon.refl _ _)|((with_reducible refine Upon.setAt ?_ ?_ _);(rotate_left;focus (first|exact Or.inl rfl|omega|(simp;done)|(simp;omega))))|(with_reducible refine Upon.alloc ?_ _)|(with_reducible refine Upon.drewN ?_ _)|(with_reducible refine Upon.drew ?_)))
def zQ (rb:Nat):Value:=.func (.func 87) #[] #[.pointer (some ⟨rb,0,none⟩)]
def Kl (e:PE):Prop:=∀(W0 w:World) (ad:Option Addr) (cap rb:Nat) (r:Int),AE W0 e ad cap→Below W0.heap.size W0 w→W0.heap.size≤rb→Vw w rb r→(e.args.sz:Int)+1≤r→r≤1000000 →
 Calls Tryz.prog 88 #[.agg #[.int .i64 e.k,.string e.nm,.int .i64 e.n,.int .i64 e.d,.slice ad e.args.len cap,.int .i64 e.a],zQ rb] w fun x w' =>
  x=.returned (.bool true)∧Vw w' rb (r-(e.args.sz+1))∧Upon rb w w'
def Zdi (W0 w:World) (e:PE) (ad:Option Addr) (rb:Nat) (r:Int) (v:Value) (wr:World):Prop :=
 ∃(i:Nat) (rest:PL) (rr:Int),v=.int .i64 (i:Int)∧X1 W0 ad e.args rest i∧Vw wr rb rr∧rr-rest.sz=r-(e.args.sz+1)∧Upon rb w wr
theorem qE (e:PE) (ih:∀e':PE,e'.args.sz<e.args.sz→Kl e'):Kl e:=by
 intro W0 w ad cap rb r hae hb hrb hrm hr1 hr2
 obtain⟨k,nm,n,d,args,a⟩:=e
 have hlen:=hae.len
 simp only at hlen hr1 ⊢
 have HA:=hid hae
 have HB0:=hid hb
 have HRM:=hid hrm
 have HIH:=hid ih
 have HLT:=hid (Zb hrm)
 have hlt:=Zb hrm
 have hsz0:=hb.size
 clear hae hb hrm ih
 unfold zQ
 have HT:=hid (fun w v=>gL (w:=w) k n d a nm v rb r)
 have hne:¬w.heap.size=rb:=oq
 have hne':¬rb=w.heap.size:=oq
 go_enter Tryz.func88,Tryz.ntmps88
 go_wp2_with (go_at_call 87;refine(HT.out _ _ ((Z5 _ _ HLT.out).trans HRM.out) oq oq).mono ?_;rintro x w1 ⟨rfl,hrm1,hu1⟩;obtain⟨hc1,hf1⟩:=Zc5 hu1;have b1:w.heap.size<w1.heap.size:=Zd oq hu1.size)
 have HU1:=hid hu1
 have HRM1:=hid hrm1
 clear hu1 hrm1
 go_loopw [14] (fun v wr=>Hid (Zdi W0 w ⟨k,nm,n,d,args,a⟩ ad rb r v wr)) (fun i _=>args.len-(intOf i).toNat)
 case atStart=>exact⟨0,args,r-1,rfl,X1.start HA.out.args,HRM1.out,by simp only;omega,((Upon.refl _ _).alloc _).trans HU1.out⟩
 obtain⟨i,rest,rr,rfl,hrest,hroom,hrr,hup⟩:=hrel.out
 clear hrel
 simp only at hrr
 have HUP:=hid hup
 have HROOM:=hid hroom
 have hil:=hrest.1
 simp only at hil
 have hbw:Below W0.heap.size W0 wr:=HB0.out.trans (hup.below HB0.out.size hrb)
 have HRS0:=hid hrest
 have HRS:=hid (hrest.below hbw)
 have HBW:=hid hbw
 have hltr:=Zb hroom
 have hszr:=hup.size
 clear hup hroom hrest hbw
 cases rest with
 | nil =>
  have hil':(i:Int)=(args.len:Int):=by simp only[PL.len] at hil;omega
  simp only[PL.sz] at hrr
  go_wp2
  go_ret
  refine⟨rfl,?_,HUP.out⟩
  have e1:rr=r-(↑args.sz+1):=by simpa using hrr
  rw[←e1];exact HROOM.out
 | cons k1 nm1 n1 d1 args1 a1 tl =>
  have hil':(i:Int)<(args.len:Int):=by simp only[PL.len] at hil;omega
  have hrest0:=HRS0.out.2.2.resolve_left (by intro h;cases h)
  obtain⟨b,o,rfl,hb,h0,h1,h2,h3,h5,hn,⟨ad1,cap1,h4,hcap1,hcm1,hd1⟩,ht⟩:=HRS.out.2.2.resolve_left (by intro h;cases h)
  obtain⟨b',o',hbo,hb',g0,g1,g2,g3,g5,gn,⟨ad1',cap1',g4,gcap1,gcm1,gd1⟩,gt⟩:=hrest0
  injection hbo with hbo;injection hbo with hbo1 hbo2;subst hbo1;subst hbo2
  have hsub:=HRS0.out.2.1
  simp only[PL.sz] at hsub hrr
  have hee:=(HBW.out.cell (p:=⟨b,o+i*6+4,none⟩) hb').trans g4
  rw[h4] at hee
  injection hee with hee;injection hee with he1 he2 he3
  subst he1;subst he3
  have HE:=hid (show AE W0 ⟨k1,nm1,n1,d1,args1,a1⟩ ad1 cap1 from ⟨gn,⟨gcap1,gcm1⟩,gd1⟩)
  have HC:=hid (fun w' hb hr=>HIH.out ⟨k1,nm1,n1,d1,args1,a1⟩ (by show args1.sz<args.sz;omega) W0 w' ad1 cap1 rb rr HE.out hb hrb hr (by show(args1.sz:Int)+1≤rr;omega) oq)
  unfold zQ at HC
  simp only at HC
  clear hn hd1 ht g0 g1 g2 g3 g5 gn g4 gd1 gt gcap1 gcm1 hb'
  go_wp2_with (go_at_call 88;go_loud (refine(HC.out _ (HBW.out.trans (Below.mono (show Below wr.heap.size wr _ from bq) HBW.out.size)) ((Z5 _ _ hltr).trans HROOM.out)).mono ?_;rintro x w2 ⟨rfl,hrm2,hu2⟩))
  refine⟨⟨i+1,tl,rr-(args1.sz+1),by go_num,HRS0.out.tail,hrm2,by simp only;omega,(HUP.out.alloc _).trans hu2⟩,by simp[intOf];omega⟩
theorem Ex (e:PE):Kl e:=by
 suffices h:∀(N:Nat) (e:PE),e.args.sz<N→Kl e from h _ e (ZW _)
 intro N
 induction N with
 | zero=>intro e h;omega
 | succ N ih=>intro e h;exact qE e (fun e' h'=>ih e' oq)
def Ea:List ND→Nat
 | []=>0
 | n::l=>n.body.args.sz+1+Ea l
def Gl:List FL→Nat
 | []=>0
 | f::l=>f.e.args.sz+1+Gl l
theorem jS {l:List ND} {i:Nat} (h:i<l.length):l.drop i=l[i]::l.drop (i+1):=by rw[ZN h]
theorem KL.cells {w:World} {b o:Nat} {nm nm1:ByteArray} {ps:List ByteArray} {bud k1 n1 d1 a1 fa:Int} {args1:PL} (h:KL w b o ⟨nm,ps,bud,⟨k1,nm1,n1,d1,args1,a1⟩,fa⟩):∃pa pc ad cap,
  w.cell? ⟨b,o,none⟩=some (.string nm)∧w.cell? ⟨b,o+1,none⟩=some (.slice pa ps.length pc)∧w.cell? ⟨b,o+2,none⟩=some (.int .i64 bud)∧w.cell? ⟨b,o+3,none⟩=some (.int .i64 k1)∧w.cell? ⟨b,o+4,none⟩=some (.string nm1) ∧
  w.cell? ⟨b,o+5,none⟩=some (.int .i64 n1)∧w.cell? ⟨b,o+6,none⟩=some (.int .i64 d1)∧w.cell? ⟨b,o+7,none⟩=some (.slice ad args1.len cap)∧w.cell? ⟨b,o+8,none⟩=some (.int .i64 a1)∧w.cell? ⟨b,o+9,none⟩=some (.int .i64 fa) ∧
  AE w ⟨k1,nm1,n1,d1,args1,a1⟩ ad cap∧(ps.length≤pc∧pc≤9223372036854775807∧Row xJ 1 w ps pa)∧(nm.size≤9223372036854775807∧I64 bud∧I64 fa):=by
 obtain⟨x0,⟨pa,pc,x1,p1,p2,p3⟩,x2,⟨ad,cap,x3,x4,x5,x6,x7,x8,hae⟩,x9,hfn⟩:=h
 exact⟨pa,pc,ad,cap,x0,x1,x2,x3,x4,x5,x6,x7,x8,x9,hae,⟨p1,p2,p3⟩,hfn⟩
theorem FlC.later {w wr:World} {b o:Nat} {f:FL} (h:FlC w b o f) (hb:Below w.heap.size w wr) (hlt:b<w.heap.size):FlC wr b o f:=JU w wr b o f hb hlt h
def XS (w:World) (b:Nat) (p:PG) (an ai af ao:Option Addr) (cn ci cf co:Nat):Prop:=w.heap[b]?=some (.cells #[.slice an p.nodes.length cn,.slice ai p.ins.length ci,.slice af p.flows.length cf,.slice ao p.outs.length co] 27 (0,0))
def Zbx (w:World) (p:PG) (an ai af ao:Option Addr) (cn ci cf co:Nat) (len:Nat) (tot:Nat→Nat) (v:Value) (wr:World):Prop :=
 ∃(i:Nat) (r:Int),v=.int .i64 (i:Int)∧i≤len∧Vw wr (w.heap.size+1) r∧(tot i:Int)≤r∧r≤8000∧XS wr w.heap.size p an ai af ao cn ci cf co∧Below w.heap.size w wr
theorem Q4 {w:World} (p:PG) (an ai af ao:Option Addr) (cn ci cf co:Nat) (hp:AP w p an ai af ao cn ci cf co) (hs:Ea p.nodes+Gl p.flows≤8000) :
  Calls Tryz.prog 48 #[pv p an ai af ao cn ci cf co] w fun x w'=>x=.returned (.bool true)∧Below w.heap.size w w':=by
 obtain⟨nodes,ins,flows,outs⟩:=p
 obtain⟨hn,hi,hf,ho,hcap⟩:=hp
 simp only at hn hi hf ho hcap hs
 have HN:=hid hn
 have HF:=hid hf
 have hnl:nodes.length≤9223372036854775807:=oq
 have hfl:flows.length≤9223372036854775807:=oq
 clear hn hi hf ho
 unfold pv
 simp only
 go_enter Tryz.func48,Tryz.ntmps48
 go_wp2
 go_loopw [13] (fun v wr=>Hid (Zbx w ⟨nodes,ins,flows,outs⟩ an ai af ao cn ci cf co nodes.length (fun i=>Ea (nodes.drop i)+Gl flows) v wr)) (fun i _=>nodes.length-(intOf i).toNat)
 case atStart=>exact⟨0,8000,rfl,Zk _,by simpa [Vw] using Yp (w.alloc _) _,by simp only[List.drop_zero];omega,oq,(Z5 _ _ (by simp)).trans (Yp w _),bq⟩
 obtain⟨i,r,rfl,hi,hroom,hr1,hr2,hpb,hbel⟩:=hrel.out
 clear hrel
 simp only at hr1
 unfold XS at hpb
 simp only at hpb
 obtain⟨⟨x0,x1,x2,x3⟩,xf⟩:=Yq hpb
 have HPB:=hid hpb
 have HROOM:=hid hroom
 have HBEL:=hid hbel
 have hltr:=Zb hroom
 have hltp:=Zb hpb
 have hszr:=hbel.size
 clear hpb hroom
 by_cases hlt:i<nodes.length
 ·obtain⟨bb,oo,rfl,hbb0,hnd0⟩:=HN.out.at hlt
  have hnd:=JI w wr bb _ _ hbel hbb0 hnd0
  have hbb:=Zd hbb0 hszr
  rw[jS hlt] at hr1
  obtain⟨n,hn⟩:∃n,nodes[i]=n:=⟨_,rfl⟩
  rw[hn] at hnd hnd0 hr1
  obtain⟨nm,ps,bud,⟨k1,nm1,n1,d1,args1,a1⟩,fa⟩:=n
  simp only[Ea] at hr1
  obtain⟨pa,pc,ad,cap,y0,y1,y2,y3,y4,y5,y6,y7,y8,y9,hae,hps,hfn⟩:=hnd.cells
  obtain⟨_,_,ad',cap',_,_,_,_,_,_,_,y7',_,_,hae',_,_⟩:=hnd0.cells
  have hee:=(hbel.cell (p:=⟨bb,oo+i*10+7,none⟩) hbb0).trans y7'
  rw[y7] at hee
  injection hee with hee;injection hee with he1 he2 he3
  subst he1;subst he3
  have HE:=hid hae'
  have HC:=hid (fun w' hb hr=>Ex ⟨k1,nm1,n1,d1,args1,a1⟩ w w' ad cap (w.heap.size+1) r HE.out hb oq hr (by show(args1.sz:Int)+1≤r;omega) oq)
  unfold zQ at HC
  simp only at HC
  have hie:(i:Int)<(nodes.length:Int):=oq
  clear hbel hnd hnd0 hae hae' y7' hps hfn hbb0
  go_wp2_with (go_at_call 88;go_loud (refine(HC.out _ bq ((Z5 _ _ hltr).trans HROOM.out)).mono ?_;rintro x w2 ⟨rfl,hrm2,hu2⟩))
  refine⟨⟨i+1,r-(args1.sz+1),by go_num,oq,hrm2,by simp only;omega,oq,(hu2.block _ (by simp;omega) oq).trans ((Z5 _ _ hltp).trans HPB.out),(HBEL.out.alloc oq _).trans (hu2.below (by simp;omega) oq)⟩,by simp[intOf];omega⟩
 have hie:i=nodes.length:=oq
 subst hie
 have HR1:=hid (show(Gl flows:Int)≤r by rw[Yo] at hr1;simpa [Ea] using hr1)
 clear hbel hr1
 go_wp2
 go_loopw [26] (fun v wr=>Hid (Zbx w ⟨nodes,ins,flows,outs⟩ an ai af ao cn ci cf co flows.length (fun i=>Gl (flows.drop i)) v wr)) (fun i _=>flows.length-(intOf i).toNat)
 case atStart=>exact⟨0,r,rfl,Zk _,HROOM.out,by simpa using HR1.out,oq,HPB.out,HBEL.out⟩
 clear HROOM HBEL HPB HR1 hltr hltp hszr x0 x1 x2 x3 xf
 obtain⟨i,r,rfl,hi,hroom,hr1,hr2,hpb,hbel⟩:=hrel.out
 clear hrel
 simp only at hr1
 unfold XS at hpb
 simp only at hpb
 obtain⟨⟨x0,x1,x2,x3⟩,xf⟩:=Yq hpb
 have HPB:=hid hpb
 have HROOM:=hid hroom
 have HBEL:=hid hbel
 have hltr:=Zb hroom
 have hltp:=Zb hpb
 have hszr:=hbel.size
 clear hpb hroom
 by_cases hlt:i<flows.length
 ·obtain⟨bb,oo,rfl,hbb0,hfl0⟩:=HF.out.at hlt
  have hfl':=hfl0.later hbel hbb0
  have hbb:=Zd hbb0 hszr
  rw[zO hlt] at hr1
  obtain⟨f,hf⟩:∃f,flows[i]=f:=⟨_,rfl⟩
  rw[hf] at hfl' hfl0 hr1
  obtain⟨nm,⟨k1,nm1,n1,d1,args1,a1⟩,fa⟩:=f
  simp only[Gl] at hr1
  obtain⟨ad,cap,y0,y1,y2,y3,y4,y5,y6,y7,hae,hfn⟩:=hfl'.cells
  obtain⟨ad',cap',_,_,_,_,_,y5',_,_,hae',_⟩:=hfl0.cells
  have hee:=(hbel.cell (p:=⟨bb,oo+i*8+5,none⟩) hbb0).trans y5'
  rw[y5] at hee
  injection hee with hee;injection hee with he1 he2 he3
  subst he1;subst he3
  have HE:=hid hae'
  have HC:=hid (fun w' hb hr=>Ex ⟨k1,nm1,n1,d1,args1,a1⟩ w w' ad cap (w.heap.size+1) r HE.out hb oq hr (by show(args1.sz:Int)+1≤r;omega) oq)
  unfold zQ at HC
  simp only at HC
  have hie:(i:Int)<(flows.length:Int):=oq
  clear hbel hfl' hfl0 hae hae' y5' hfn hbb0
  go_wp2_with (go_at_call 88;go_loud (refine(HC.out _ bq ((Z5 _ _ hltr).trans HROOM.out)).mono ?_;rintro x w2 ⟨rfl,hrm2,hu2⟩))
  refine⟨⟨i+1,r-(args1.sz+1),by go_num,oq,hrm2,by simp only;omega,oq,(hu2.block _ (by simp;omega) oq).trans ((Z5 _ _ hltp).trans HPB.out),(HBEL.out.alloc oq _).trans (hu2.below (by simp;omega) oq)⟩,by simp[intOf];omega⟩
 clear hbel
 go_wp2
 go_ret
 exact⟨rfl,HBEL.out⟩
attribute [local go_sem] ZT
def Xt:PL→List PE
 | .nil=>[]
 | .cons k nm n d args a tl=>⟨k,nm,n,d,args,a⟩::(Xt args++Xt tl)
theorem EE:∀l:PL,(Xt l).length=l.sz:=by
 intro l
 induction l with
 | nil=>rfl
 | cons k nm n d args a tl ih1 ih2=>simp only[Xt,Zp,Zx,ih1,ih2,PL.sz];omega
structure VX (W0:World) where
 e:PE
 ad:Option Addr
 cap:Nat
 ok:AE W0 e ad cap
def VX.vs {W0:World} (x:VX W0):Array Value:=#[.agg #[.int .i64 x.e.k,.string x.e.nm,.int .i64 x.e.n,.int .i64 x.e.d,.slice x.ad x.e.args.len x.cap,.int .i64 x.e.a]]
def vt {W0:World} (n₀:Nat) (J Jx:List (VX W0)→World→Prop) (pre:List (VX W0)) (e:PE) (W:World) (x:Ending) (W':World):Prop :=
 (x=.returned (.bool true)∧(∃ys:List (VX W0),ys.map (·.e)=e::Xt e.args∧J (pre++ys) W')∧KC n₀ W W') ∨
  (x=.returned (.bool false)∧∃q:List (VX W0),q.map (·.e) <+: (e::Xt e.args)∧Jx (pre++q) W')
def Zdc {W0:World} (n₀:Nat) (J:List (VX W0)→World→Prop) (pre:List (VX W0)) (e:PE) (ad:Option Addr) (W:World) (v:Value) (wr:World):Prop :=
 ∃(i:Nat) (rest:PL) (ys:List (VX W0)),v=.int .i64 (i:Int)∧X1 W0 ad e.args rest i∧ys.map (·.e)++Xt rest=e::Xt e.args∧J (pre++ys) wr∧KC n₀ W wr
theorem yF {W0:World} (F:Fence) (hd:F.depth=none) (hF:F.fn 88) (hro:F.round=none) (l B N:Nat) (J Jx:List (VX W0)→World→Prop) (hJ:AbidesFrom B J)
  (hY:∀m pre x W,J pre W→pre.length<N→YieldAt F m Tryz.prog l x.vs W fun e W'=>(e=.returned (.bool true)∧J (pre++[x]) W'∧KC W0.heap.size W W')∨(e=.returned (.bool false)∧Jx (pre++[x]) W')) (e:PE)
  (ih:∀e':PE,e'.args.sz<e.args.sz→∀(n:Nat) (ad:Option Addr) (cap:Nat) (pre:List (VX W0)) (W:World),AE W0 e' ad cap→Below W0.heap.size W0 W→J pre W→pre.length+e'.args.sz+1≤N →
   CallsIn F n Tryz.prog 88 #[.agg #[.int .i64 e'.k,.string e'.nm,.int .i64 e'.n,.int .i64 e'.d,.slice ad e'.args.len cap,.int .i64 e'.a],.func (.yield l) #[] #[]] W (vt W0.heap.size J Jx pre e' W)) :
  ∀(n:Nat) (ad:Option Addr) (cap:Nat) (pre:List (VX W0)) (W:World),AE W0 e ad cap→Below W0.heap.size W0 W→J pre W→pre.length+e.args.sz+1≤N →
   CallsIn F n Tryz.prog 88 #[.agg #[.int .i64 e.k,.string e.nm,.int .i64 e.n,.int .i64 e.d,.slice ad e.args.len cap,.int .i64 e.a],.func (.yield l) #[] #[]] W (vt W0.heap.size J Jx pre e W):=by
 intro n ad cap pre W hae hb hj hN
 obtain⟨k,nm,nn,d,args,a⟩:=e
 have hlen:=hae.len
 simp only at hlen hN ih ⊢
 have hdd:∀k:Nat,(F.depth.isSome=true→1≤k):=fun k h=>by rw[hd] at h;cases h
 have hsz0:=hb.size
 obtain⟨X,hX1,hX2⟩:∃X:VX W0,X.vs=#[.agg #[.int .i64 k,.string nm,.int .i64 nn,.int .i64 d,.slice ad args.len cap,.int .i64 a]]∧X.e=⟨k,nm,nn,d,args,a⟩:=⟨⟨⟨k,nm,nn,d,args,a⟩,ad,cap,hae⟩,rfl,rfl⟩
 obtain⟨fn,tmps,assign,body,hy,hR⟩:=hY (n-1) pre X (W.alloc (Obj.cells #[.int .i64 k,.string nm,.int .i64 nn,.int .i64 d,.slice ad args.len cap,.int .i64 a] 88)) (Jf hJ hj _) oq
 rw[hX1] at hy
 have HX2:=hid hX2
 clear hX1 hX2
 have HA:=hid hae
 have HB:=hid hb
 have HIH:=hid ih
 have HR:=hid hR
 clear hae hb ih hR hj
 refine callsIn_of_wp Tryz.func88 rfl hF ?_ hro
 simp only[Tryz.ntmps88,ZI,Zp,Zw,Nat.reduceAdd,Nat.reduceSub,ZF,ZE,ZL,ZJ,ZM,ZC]
 gi_wp2
 refine HR.out.mono ?_
 rintro e W1 (⟨rfl,hJ1,hk1⟩|⟨rfl,hJx⟩)
 ·have hbox:=hk1.same W.heap.size _ (Yp W _) rfl
  obtain⟨⟨x0,x1,x2,x3,x4,x5⟩,xf⟩:=YZ hbox
  have HJ1:=hid hJ1
  have HK1:=hid ((KC.refl W0.heap.size W).alloc hsz0 _ |>.trans hk1)
  clear hJ1 hk1 hbox
  gi_wp2
  gi_loopw [14] (fun v wr=>Hid (Zdc W0.heap.size J pre ⟨k,nm,nn,d,args,a⟩ ad W v wr)) (fun i _=>args.len-(intOf i).toNat)
  case atStart=>exact⟨0,args,[X],rfl,X1.start HA.out.args,by simp only[List.map_cons,List.map_nil,List.singleton_append,HX2.out],HJ1.out,HK1.out⟩
  obtain⟨i,rest,ys,rfl,hrest,hys,hj2,hk2⟩:=hrel.out
  clear hrel
  simp only at hys
  have HK2:=hid hk2
  have HJ2:=hid hj2
  have hil:=hrest.1
  simp only at hil
  have hbw:Below W0.heap.size W0 wr:=HB.out.trans hk2.below
  have HRS0:=hid hrest
  have HRS:=hid (hrest.below hbw)
  have HBW:=hid hbw
  have hszw:=hbw.size
  clear hk2 hj2 hrest hbw
  cases rest with
  | nil =>
   have hil':(i:Int)=(args.len:Int):=by simp only[PL.len] at hil;omega
   simp only[Xt,List.append_nil] at hys
   have HYS:=hid hys
   clear hys
   gi_wp2
   go_ret
   exact .inl ⟨rfl,⟨ys,HYS.out,HJ2.out⟩,HK2.out⟩
  | cons k1 nm1 n1 d1 args1 a1 tl =>
   have hil':(i:Int)<(args.len:Int):=by simp only[PL.len] at hil;omega
   have hrest0:=HRS0.out.2.2.resolve_left (by intro h;cases h)
   obtain⟨b,o,rfl,hb,h0,h1,h2,h3,h5,hn,⟨ad1,cap1,h4,hcap1,hcm1,hd1⟩,ht⟩:=HRS.out.2.2.resolve_left (by intro h;cases h)
   obtain⟨b',o',hbo,hb',g0,g1,g2,g3,g5,gn,⟨ad1',cap1',g4,gcap1,gcm1,gd1⟩,gt⟩:=hrest0
   injection hbo with hbo;injection hbo with hbo1 hbo2;subst hbo1;subst hbo2
   have hsub:=HRS0.out.2.1
   simp only[PL.sz] at hsub
   have hlys:=Z3 List.length hys
   simp only[Zx,Zo,EE,Zp,PL.sz] at hlys
   have hee:=(HBW.out.cell (p:=⟨b,o+i*6+4,none⟩) hb').trans g4
   rw[h4] at hee
   injection hee with hee;injection hee with he1 he2 he3
   subst he1;subst he3
   have HE:=hid (show AE W0 ⟨k1,nm1,n1,d1,args1,a1⟩ ad1 cap1 from ⟨gn,⟨gcap1,gcm1⟩,gd1⟩)
   have HC:=hid (HIH.out ⟨k1,nm1,n1,d1,args1,a1⟩ (by show args1.sz<args.sz;omega) (n-1) ad1 cap1 (pre++ys) (wr.alloc (Obj.cells #[.int .i64 k1,.string nm1,.int .i64 n1,.int .i64 d1,.slice ad1 args1.len cap1,.int .i64 a1] 88)) HE.out (HBW.out.alloc hszw _) (Jf hJ HJ2.out _) (by simp only[Zx];omega))
   simp only at HC
   have HYS:=hid hys
   clear hn hd1 ht g0 g1 g2 g3 g5 gn g4 gd1 gt gcap1 gcm1 hb' hys hlys
   gi_wp2_with ((try refine⟨hdd _,?_⟩);gi_at_call 88;refine HC.out.mono ?_;rintro x w2 (⟨rfl,⟨zs,hzs,hj3⟩,hk3⟩|⟨rfl,q,hq,hjx⟩))
   ·go_roundw
    case rel=>exact⟨i+1,tl,ys++zs,by go_num,HRS0.out.tail,by rw[ZU,hzs,←HYS.out,Xt];simp,by rw[←List.append_assoc];exact hj3,(HK2.out.alloc hszw _).trans hk3⟩
    simp[intOf];omega
   go_ret
   refine .inr ⟨rfl,ys++q,?_,by rw[←List.append_assoc];exact hjx⟩
   obtain⟨r,hr⟩:=hq
   refine⟨r++Xt tl,?_⟩
   rw[ZU,←HYS.out,Xt,←ZC,←hr]
   simp
 gi_wp2
 go_ret
 exact .inr ⟨rfl,[X],⟨Xt args,by simp only[List.map_cons,List.map_nil,List.singleton_append,HX2.out]⟩,hJx⟩
attribute [local go_sem] ZT
theorem qv {W0:World} (F:Fence) (hd:F.depth=none) (hF:F.fn 88) (hro:F.round=none) (l B N:Nat) (J Jx:List (VX W0)→World→Prop) (hJ:AbidesFrom B J)
  (hY:∀m pre x W,J pre W→pre.length<N→YieldAt F m Tryz.prog l x.vs W fun e W'=>(e=.returned (.bool true)∧J (pre++[x]) W'∧KC W0.heap.size W W')∨(e=.returned (.bool false)∧Jx (pre++[x]) W')) :
  ∀(e:PE) (n:Nat) (ad:Option Addr) (cap:Nat) (pre:List (VX W0)) (W:World),AE W0 e ad cap→Below W0.heap.size W0 W→J pre W→pre.length+e.args.sz+1≤N →
   CallsIn F n Tryz.prog 88 #[.agg #[.int .i64 e.k,.string e.nm,.int .i64 e.n,.int .i64 e.d,.slice ad e.args.len cap,.int .i64 e.a],.func (.yield l) #[] #[]] W (vt W0.heap.size J Jx pre e W):=by
 intro e
 suffices h:∀(M:Nat) (e:PE),e.args.sz<M→∀(n:Nat) (ad:Option Addr) (cap:Nat) (pre:List (VX W0)) (W:World),AE W0 e ad cap→Below W0.heap.size W0 W→J pre W→pre.length+e.args.sz+1≤N →
   CallsIn F n Tryz.prog 88 #[.agg #[.int .i64 e.k,.string e.nm,.int .i64 e.n,.int .i64 e.d,.slice ad e.args.len cap,.int .i64 e.a],.func (.yield l) #[] #[]] W (vt W0.heap.size J Jx pre e W) from h _ e (ZW _)
 intro M
 induction M with
 | zero=>intro e h;omega
 | succ M ih=>intro e h;exact yF F hd hF hro l B N J Jx hJ hY e (fun e' h'=>ih e' oq)
def XG:List FL→List PE
 | []=>[]
 | f::l=>f.e::(Xt f.e.args++XG l)
def ZcX {W0:World} (J:List (VX W0)→World→Prop) (flows:List FL) (W:World) (v:Value) (wr:World):Prop :=
 ∃(i:Nat) (ys:List (VX W0)),v=.int .i64 (i:Int)∧i≤flows.length∧ys.map (·.e)++XG (flows.drop i)=XG flows∧J ys wr∧KC W0.heap.size W wr
theorem jk {W0:World} (F:Fence) (hd:F.depth=none) (hG:F.fn 125) (hF:F.fn 88) (hro:F.round=none) (n l B Bs:Nat) (flows:List FL) (af:Option Addr) (cf:Nat)
  (hr:Row FlC 8 W0 flows af) (hc1:flows.length≤cf) (hc2:cf≤9223372036854775807) (J Jx:List (VX W0)→World→Prop) (hJ:AbidesFrom B J)
  (hY:∀m pre x W,J pre W→pre.length<(XG flows).length→YieldAt F m Tryz.prog l x.vs W fun e W'=>(e=.returned (.bool true)∧J (pre++[x]) W'∧KC W0.heap.size W W')∨(e=.returned (.bool false)∧Jx (pre++[x]) W'))
  (W:World) (hB:Below W0.heap.size W0 W) (hbx:W.cell? ⟨Bs,0,none⟩=some (.slice af flows.length cf)) (h0:J [] W) :
  CallsIn F n Tryz.prog 125 #[.func (.yield l) #[] #[],.pointer (some ⟨Bs,0,none⟩)] W fun e W'=>(∃v,e=.returned v) ∧
   ((∃xs:List (VX W0),xs.map (·.e)=XG flows∧J xs W')∨(∃pre:List (VX W0),pre.map (·.e) <+: XG flows∧Jx pre W')):=by
 have hdd:∀k:Nat,(F.depth.isSome=true→1≤k):=fun k h=>by rw[hd] at h;cases h
 have hfl64:flows.length≤9223372036854775807:=Zm hc1 hc2
 have HV:=hid (qv F hd hF hro l B (XG flows).length J Jx hJ hY)
 have HR:=hid hr
 have HB:=hid hB
 have HJ0:=hid h0
 have hsz0:=hB.size
 clear hr hY hB h0
 refine callsIn_of_wp Tryz.func125 rfl hG ?_ hro
 simp only[Tryz.ntmps125,ZI,Zp,Zw,Nat.reduceAdd,Nat.reduceSub,ZF,ZE,ZL,ZJ,ZM,ZC]
 gi_wp2
 gi_loopw [7] (fun v wr=>Hid (ZcX J flows W v wr)) (fun i _=>flows.length-(intOf i).toNat)
 case atStart=>exact⟨0,[],rfl,Zk _,rfl,HJ0.out,KC.refl _ _⟩
 obtain⟨i,ys,rfl,hi,hys,hj,hk⟩:=hrel.out
 clear hrel
 have hbw:Below W0.heap.size W0 wr:=HB.out.trans hk.below
 have HBW:=hid hbw
 have HK:=hid hk
 have HJY:=hid hj
 have hszw:=hbw.size
 by_cases hlt:i<flows.length
 ·obtain⟨bb,oo,rfl,hbb0,hfl0⟩:=HR.out.at hlt
  have hfl':=hfl0.later hbw hbb0
  have hbb:=Zd hbb0 hszw
  rw[zO hlt] at hys
  obtain⟨f,hf⟩:∃f,flows[i]=f:=⟨_,rfl⟩
  rw[hf] at hfl' hfl0 hys
  obtain⟨nm,⟨k1,nm1,n1,d1,args1,a1⟩,fa⟩:=f
  obtain⟨ad,cap,y0,y1,y2,y3,y4,y5,y6,y7,hae,hfn⟩:=hfl'.cells
  obtain⟨ad',cap',_,_,_,_,_,y5',_,_,hae',_⟩:=hfl0.cells
  have hee:=(hbw.cell (p:=⟨bb,oo+i*8+5,none⟩) hbb0).trans y5'
  rw[y5] at hee
  injection hee with hee;injection hee with he1 he2 he3
  subst he1;subst he3
  have hlys:=Z3 List.length hys
  simp only[Zx,Zo,XG,Zp,EE] at hlys
  have HC:=hid (HV.out ⟨k1,nm1,n1,d1,args1,a1⟩ (n-1) ad cap ys (wr.alloc (Obj.cells #[.string nm,.int .i64 k1,.string nm1,.int .i64 n1,.int .i64 d1,.slice ad args1.len cap,.int .i64 a1,.int .i64 fa] 111)) hae' (hbw.alloc hszw _) (Jf hJ hj _) (by show ys.length+args1.sz+1≤_;omega))
  simp only at HC
  have hie:(i:Int)<(flows.length:Int):=oq
  have HYS:=hid hys
  clear hbw hk hj hfl' hfl0 hae hae' y5' hfn hbb0 hys hlys
  gi_wp2_with ((try refine⟨hdd _,?_⟩);gi_at_call 88;refine HC.out.mono ?_;rintro x w2 (⟨rfl,⟨zs,hzs,hj3⟩,hk3⟩|⟨rfl,q,hq,hjx⟩))
  ·go_roundw
   case rel=>exact⟨i+1,ys++zs,by go_num,oq,by rw[ZU,hzs,←HYS.out,XG];simp,hj3,(HK.out.alloc hszw _).trans hk3⟩
   simp[intOf];omega
  refine Zl (results_none rfl _ _ _) rfl ?_
  refine⟨⟨_,rfl⟩,.inr ⟨ys++q,?_,hjx⟩⟩
  obtain⟨r,hr⟩:=hq
  refine⟨r++XG (flows.drop (i+1)),?_⟩
  rw[ZU,←HYS.out,XG,←ZC,←hr]
  simp
 have hie:i=flows.length:=oq
 subst hie
 have HYS:=hid (show ys.map (·.e)=XG flows by rw[Yo] at hys;simpa [XG] using hys)
 clear hbw hk hj hys
 gi_wp2
 go_end0
 exact⟨⟨_,rfl⟩,.inl ⟨ys,HYS.out,HJY.out⟩⟩
theorem Uo {W0:World} (F:Fence) (hd:F.depth=none) (hG:F.fn 125) (hF:F.fn 88) (hro:F.round=none) (n Bs:Nat) (flows:List FL) (af:Option Addr) (cf:Nat)
  (hr:Row FlC 8 W0 flows af) (hc1:flows.length≤cf) (hc2:cf≤9223372036854775807) (w:World) (hBs:Bs<w.heap.size) (hB:Below W0.heap.size W0 w) (hbx:w.cell? ⟨Bs,0,none⟩=some (.slice af flows.length cf)) :
  SeqStopsK F n Tryz.prog 125 #[.pointer (some ⟨Bs,0,none⟩)] (fun x:VX W0=>x.vs) (KC W0.heap.size) (fun xs=>xs.map (·.e)=XG flows) (fun pre=>pre.map (·.e) <+: XG flows) (XG flows).length w:=fun l J Jx W hW hJ hJx hY h0 =>
 jk F hd hG hF hro n l W.heap.size Bs flows af cf hr hc1 hc2 J Jx hJ (fun m pre x W hj hl=>YieldAt.deep hd m (hY pre x W hj hl)) W (hB.trans (hW.mono hB.size)) ((hW.cell (p:=⟨Bs,0,none⟩) hBs).trans hbx) h0
theorem XW {w:World} (af:Option Addr) (n c:Nat):Calls Tryz.prog 90 #[.slice af n c] w fun e w'=>e=.returned (.func (.func 125) #[] #[.pointer (some ⟨w.heap.size,0,none⟩)])∧w'=w.alloc (.cells #[.slice af n c] 24):=by
 go_enter Tryz.func90,Tryz.ntmps90
 go_wp2
 go_ret
 exact⟨rfl,rfl⟩
end Go.Proofs.YtgigilkpndhddaaGreatDoor.syn
