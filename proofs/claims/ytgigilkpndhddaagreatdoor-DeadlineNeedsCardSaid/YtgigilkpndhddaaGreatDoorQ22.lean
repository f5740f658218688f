/-
  Parts of the proof: Nam4, Flt1, Flt2, Flt3, Flt4.
-/
import Derived.Deep.RegionHeld3
import Derived.Test.YtgigilkpndhddaaGreatDoorQ08
import Derived.Test.YtgigilkpndhddaaGreatDoorQ20
import Derived.Test.YtgigilkpndhddaaGreatDoorQ21
namespace Go.Proofs.YtgigilkpndhddaaGreatDoor.syn
set_option linter.unusedVariables false
set_option linter.unusedSimpArgs false
set_option linter.unnecessarySimpa false
set_option maxRecDepth 100000
set_option maxHeartbeats 16000000
open Go.RowKit
theorem Zba {c:Nat}:∀l:List ND,(∀x∈l,x.body.sz≤c)→Ea l≤l.length*c:=by
 intro l
 induction l with
 | nil=>intro _;simp[Ea]
 | cons x l ih =>
  intro h
  have h1:=h x (by simp)
  have h2:=ih (fun y hy=>h y (by simp[hy]))
  unfold PE.sz at h1
  simp only[Ea,Zp,Nat.succ_mul]
  omega
theorem Zbn {c:Nat}:∀l:List FL,(∀x∈l,x.e.sz≤c)→Gl l≤l.length*c:=by
 intro l
 induction l with
 | nil=>intro _;simp[Gl]
 | cons x l ih =>
  intro h
  have h1:=h x (by simp)
  have h2:=ih (fun y hy=>h y (by simp[hy]))
  unfold PE.sz at h1
  simp only[Gl,Zp,Nat.succ_mul]
  omega
theorem Ew {l:PL} (h:szL l 1 100≤100):l.sz+1≤100:=by
 have:=Zcp l 1 100 oq oq h
 omega
structure Jy (p:PG):Prop where
 nodes:∀x∈p.nodes,Uc x.body∧x.body.sz≤100
 flows:∀x∈p.flows,x.e.sz≤100∧YE x.e=true
 lens:p.nodes.length≤40∧p.ins.length≤40∧p.flows.length≤40∧p.outs.length≤40
 sums:Ea p.nodes+Gl p.flows≤8000
 ins:∀x∈p.ins,clock.Yz x.per x.ph=true
theorem VK.ok {p:PG} (h:VK p):Jy p:=by
 have hl:=h.lens
 have h1:∀x∈p.nodes,Uc x.body∧x.body.sz≤100:=fun x hx=>⟨ua (h.nodes x hx).2.2.2.2,Ew (h.nodes x hx).1⟩
 have h2:∀x∈p.flows,x.e.sz≤100∧YE x.e=true:=fun x hx=>⟨Ew (h.flows x hx).1,(h.flows x hx).2⟩
 refine⟨h1,h2,oq,?_,fun x hx=>?_⟩
 ·have h3:=Zba p.nodes (fun x hx=>(h1 x hx).2)
  have h4:=Zbn p.flows (fun x hx=>(h2 x hx).1)
  omega
 obtain⟨h5,h6⟩:=h.ins x hx
 simp only[inB,ZB,Yj] at h5 h6
 exact clock.XL ⟨oq,oq,oq,oq⟩
def Zdq (W2:World) (v:Value) (wr:World):Prop:=∃j:Nat,v=.int .i64 (j:Int)∧j≤4∧Below W2.heap.size W2 wr
theorem vJ {w:World} (p:PG) (an ai af ao:Option Addr) (cn ci cf co:Nat) (hp:AP w p an ai af ao cn ci cf co) (hz:NZ w p.nodes an) (hok:Jy p) :
  Calls Tryz.prog 126 #[pv p an ai af ao cn ci cf co] w fun x w'=>X4 x∧Below w.heap.size w w':=by
 obtain⟨nodes,ins,flows,outs⟩:=p
 have hnz:∀w',Below w.heap.size w w'→NZ w' nodes an:=fun w' hb=>hz.below hp.nodes hb
 have HFT:=hid (fun(w':World) (hb:Below w.heap.size w w')=>Q4 ⟨nodes,ins,flows,outs⟩ an ai af ao cn ci cf co (hp.below hb) hok.sums)
 have H0:=hid (fun(w':World) (hb:Below w.heap.size w w')=>zG (w:=w') nodes ins flows outs an ai af ao cn ci cf co (hp.below hb) (hnz w' hb) hok.nodes)
 have H1:=hid (fun(w':World) (hb:Below w.heap.size w w')=>K6 (w:=w') nodes ins flows outs an ai af ao cn ci cf co (hp.below hb))
 have H2:=hid (fun(w':World) (hb:Below w.heap.size w w')=>zm (w:=w') nodes ins flows outs an ai af ao cn ci cf co (hp.below hb))
 have H3:=hid (fun(w':World) (hb:Below w.heap.size w w')=>KV (w:=w') nodes ins flows outs an ai af ao cn ci cf co (hp.below hb))
 clear hp hok hz hnz
 unfold pv X4 at *
 simp only at HFT H0 H1 H2 H3 ⊢
 go_enter Tryz.func126,Tryz.ntmps126
 go_wp2_with (go_at_call 48;refine(HFT.out _ bq).mono ?_;rintro x w1 ⟨rfl,hb1⟩;obtain⟨hc1,hf1⟩:=Yu hb1;have b1:w.heap.size<w1.heap.size:=Yr hb1 oq)
 obtain⟨W2,hW2⟩:∃W2,w1.alloc (Obj.cells #[.func (.func 157) #[] #[],.func (.func 158) #[] #[],.func (.func 159) #[] #[],.func (.func 160) #[] #[]] 224)=W2:=⟨_,rfl⟩
 obtain⟨fb,hfb⟩:∃fb,w1.heap.size=fb:=⟨_,rfl⟩
 have HPB:=hid (show W2.heap[w.heap.size]?=some (.cells #[.slice an nodes.length cn,.slice ai ins.length ci,.slice af flows.length cf,.slice ao outs.length co] 27 (0,0)) from by rw[←hW2];exact(Za _ _ _ b1).trans ((hb1.block _ oq).trans (Yp w _)))
 have HFB:=hid (show W2.heap[fb]?=some _ from by rw[←hW2,←hfb];exact Yp w1 _)
 have HB2:=hid (show Below w.heap.size w W2 from by rw[←hW2];exact bq)
 have hsz2:W2.heap.size=fb+1:=by rw[←hW2,←hfb];simp
 rw[hfb] at b1
 try rw[hW2]
 try rw[hfb]
 clear hW2 hfb hb1 hc1 hf1
 go_loopw [13] (fun v wr=>Hid (Zdq W2 v wr)) (fun i _=>4-(intOf i).toNat)
 case atStart=>exact⟨0,rfl,oq,Zg _ _⟩
 obtain⟨j,rfl,hj,hbel⟩:=hrel.out
 clear hrel
 have hszr:=hbel.size
 have hpb:=(hbel.block _ oq).trans HPB.out
 have hfbk:=(hbel.block _ oq).trans HFB.out
 obtain⟨⟨p0,p1,p2,p3⟩,pf⟩:=Yq hpb
 obtain⟨⟨q0,q1,q2,q3⟩,qf⟩:=Yq hfbk
 have HBW:=hid (HB2.out.trans (hbel.mono oq))
 have HB:=hid hbel
 clear hpb hfbk hbel
 match j,hj with
 | 0,_ =>
  go_wp2_with (go_at_call 157;refine(H0.out _ HBW.out).mono ?_;rintro x w3 ⟨⟨ea,ee,rfl⟩,hb3⟩;have HB3:=hid hb3;clear hb3)
  ·go_ret2
   exact⟨⟨_,_,rfl⟩,HBW.out.trans (HB3.out.mono (by have:=HBW.out.size;omega))⟩
  refine⟨⟨1,by go_num,oq,HB.out.trans (HB3.out.mono hszr)⟩,by simp[intOf]⟩
 | 1,_ =>
  go_wp2_with (go_at_call 158;refine(H1.out _ HBW.out).mono ?_;rintro x w3 ⟨⟨ea,ee,rfl⟩,hb3⟩;have HB3:=hid hb3;clear hb3)
  ·go_ret2
   exact⟨⟨_,_,rfl⟩,HBW.out.trans (HB3.out.mono (by have:=HBW.out.size;omega))⟩
  refine⟨⟨2,by go_num,oq,HB.out.trans (HB3.out.mono hszr)⟩,by simp[intOf]⟩
 | 2,_ =>
  go_wp2_with (go_at_call 159;refine(H2.out _ HBW.out).mono ?_;rintro x w3 ⟨⟨ea,ee,rfl⟩,hb3⟩;have HB3:=hid hb3;clear hb3)
  ·go_ret2
   exact⟨⟨_,_,rfl⟩,HBW.out.trans (HB3.out.mono (by have:=HBW.out.size;omega))⟩
  refine⟨⟨3,by go_num,oq,HB.out.trans (HB3.out.mono hszr)⟩,by simp[intOf]⟩
 | 3,_ =>
  go_wp2_with (go_at_call 160;refine(H3.out _ HBW.out).mono ?_;rintro x w3 ⟨⟨ea,ee,rfl⟩,hb3⟩;have HB3:=hid hb3;clear hb3)
  ·go_ret2
   exact⟨⟨_,_,rfl⟩,HBW.out.trans (HB3.out.mono (by have:=HBW.out.size;omega))⟩
  refine⟨⟨4,by go_num,oq,HB.out.trans (HB3.out.mono hszr)⟩,by simp[intOf]⟩
 | 4,_ =>
  go_wp2
  go_ret2
  exact⟨⟨_,_,rfl⟩,HBW.out⟩
 | j+5,h=>exact absurd h oq
theorem uK {w:World} (p:PG) (an ai af ao:Option Addr) (cn ci cf co:Nat) (hp:AP w p an ai af ao cn ci cf co) (hz:NZ w p.nodes an) (hok:Jy p) :
  Calls Tryz.prog 92 #[pv p an ai af ao cn ci cf co] w (Zcm w p):=by
 have HNM:=hid (fun(w':World) (hb:Below w.heap.size w w')=>vJ (w:=w') p an ai af ao cn ci cf co (hp.below hb) (hz.below hp.nodes hb) hok)
 have HCL:=hid (fun(w':World) (hb:Below w.heap.size w w')=>Gj (w:=w') p an ai af ao cn ci cf co (hp.below hb) hok.sums (by have:=hok.lens;omega) hok.ins)
 obtain⟨nodes,ins,flows,outs⟩:=p
 clear hp hz hok
 unfold pv at *
 unfold X4 at HNM
 unfold Zcm at HCL ⊢
 simp only at HNM HCL ⊢
 go_enter Tryz.func92,Tryz.ntmps92
 go_wp2_with (first|(go_at_call 126;refine(HNM.out _ bq).mono ?_;rintro x w1 ⟨⟨ea,ee,rfl⟩,hb1⟩;obtain⟨hc1,hf1⟩:=Yu hb1;have b1:w.heap.size<w1.heap.size:=Yr hb1 oq)|(go_at_call 19;refine(HCL.out _ bq).mono ?_;rintro x w2 ⟨hx2,hb2⟩;rcases hx2 with ⟨a2,e2,he2,rfl⟩|⟨v,env,rfl,hcf,hrow⟩))
 ·have hne:ee≠0:=by rename_i hq;simpa using hq
  go_ret3
  exact⟨.inl ⟨ea,ee,hne,rfl⟩,bq⟩
 ·go_ret3
  exact⟨.inl ⟨a2,e2,he2,rfl⟩,bq⟩
 go_ret3
 exact⟨.inr ⟨v,env,rfl,hcf,hrow⟩,bq⟩
def dg (i:Nat):ByteArray:=⟨(Lib.decDigits i).toArray⟩
theorem JP {i:Nat} (h:i<100):(dg i).size≤2:=by
 unfold dg
 show((Lib.decDigits i).toArray).size≤2
 by_cases h1:i<10
 ·rw[Lib.decDigits_one h1];simp
 rw[Lib.decDigits_two h1 h];simp
theorem yA {i:Nat} (h:i<100) (w:World):Calls Tryz.prog 129 #[.int .i64 i] w fun e w'=>e=.returned (.string (dg i))∧w'=w:=Tryz.strconv_Itoa_small i h w
def spv (e:PE) (ad:Option Addr) (cap:Nat) (way:ByteArray):Value:=.agg #[.int .i64 e.k,.string e.nm,.int .i64 e.n,.int .i64 e.d,.slice ad e.args.len cap,.int .i64 e.a,.string way]
theorem eq {k n d:Int} {nm:ByteArray} {len:Nat} (h:exE k n d nm len=true):(k=1→len=0)∧(k=2→1≤len)∧(k≠1→k≠2→len=1):=by
 unfold exE at h
 refine⟨fun hk=>?_,fun hk=>?_,fun h1 h2=>?_⟩
 ·rw[Z2 hk] at h;simp at h;omega
 ·rw[Z1 oq,Z2 hk] at h;simp at h;omega
 rw[Z1 h1,Z1 h2] at h
 split at h
 ·cases h
 rename_i hn
 have:=not_or.1 hn
 omega
theorem Kv {e:PE} (h:YE e=true):(e.k=1→e.args.len=0)∧(e.k=2→1≤e.args.len)∧(e.k≠1→e.k≠2→e.args.len=1):=by
 unfold YE at h
 rw[ZB] at h
 exact eq h.2
theorem E2:∀(l:PL) (i:Nat) (e:PE),exR l=true→l.at i=some e→YE e=true
 | .cons k nm n d args a tl,0,e,h,he=>by
  injection he with he;subst he
  rw[exR,ZB,ZB] at h
  unfold YE
  rw[ZB]
  exact h.1
 | .cons _ _ _ _ _ _ tl,i+1,e,h,he=>by
  rw[exR,ZB] at h
  exact E2 tl i e h.2 he
theorem JY {e c:PE} {i:Nat} (h:YE e=true) (hc:e.args.at i=some c):YE c=true:=by
 unfold YE at h
 rw[ZB] at h
 exact E2 _ _ _ h.1 hc
theorem jQ:∀(l:PL) {W:World} {b o:Nat},AC W l b o→∀i e,l.at i=some e→∃ad cap,W.cell? ⟨b,o+i*6,none⟩=some (.int .i64 e.k)∧W.cell? ⟨b,o+i*6+1,none⟩=some (.string e.nm)∧W.cell? ⟨b,o+i*6+2,none⟩=some (.int .i64 e.n)∧W.cell? ⟨b,o+i*6+3,none⟩=some (.int .i64 e.d) ∧
  W.cell? ⟨b,o+i*6+4,none⟩=some (.slice ad e.args.len cap)∧W.cell? ⟨b,o+i*6+5,none⟩=some (.int .i64 e.a)∧AE W e ad cap
 | .cons k nm n d args a tl,W,b,o,hac,0,e,he=>by
  injection he with he
  subst he
  obtain⟨h0,h1,h2,h3,h5,hn,⟨ad,cap,h4,hcap,hm,hd⟩,ht⟩:=hac
  rw[Nat.zero_mul,Nat.add_zero]
  exact⟨ad,cap,h0,h1,h2,h3,h4,h5,⟨hn,⟨hcap,hm⟩,hd⟩⟩
 | .cons _ _ _ _ _ _ tl,W,b,o,hac,i+1,e,he=>by
  have:=jQ tl hac.2.2.2.2.2.2.2 i e he
  rw[show o+(i+1)*6=o+6+i*6 by omega]
  exact this
theorem YO {w:World} {b:Nat} {v0 v1 v2 v3 v4 v5 v6:Value} {t:TypeId} (h:w.heap[b]?=some (.cells #[v0,v1,v2,v3,v4,v5,v6] t (0,0))) :
  (w.cell? ⟨b,0,none⟩=some v0∧w.cell? ⟨b,1,none⟩=some v1∧w.cell? ⟨b,2,none⟩=some v2∧w.cell? ⟨b,3,none⟩=some v3∧w.cell? ⟨b,4,none⟩=some v4∧w.cell? ⟨b,5,none⟩=some v5∧w.cell? ⟨b,6,none⟩=some v6)∧∀o,w.frozen? ⟨b,o,none⟩=false:=by
 refine⟨⟨?_,?_,?_,?_,?_,?_,?_⟩,?_⟩
 all_goals first|(intro o;simp[World.frozen?,h])|simp[World.cell?,h]
def SA (sb b o len cap:Nat) (ad:Option Addr) (way:ByteArray) (k2:Int) (nm2:ByteArray) (n2 d2:Int) (len2 cap2:Nat) (ad2:Option Addr) (a2:Int) (w':World):Prop :=
 w'.cell? ⟨sb,4,none⟩=some (.slice ad len cap)∧w'.cell? ⟨sb,6,none⟩=some (.string way)∧w'.cell? ⟨b,o,none⟩=some (.int .i64 k2)∧w'.cell? ⟨b,o+1,none⟩=some (.string nm2)∧w'.cell? ⟨b,o+2,none⟩=some (.int .i64 n2)∧w'.cell? ⟨b,o+3,none⟩=some (.int .i64 d2)∧w'.cell? ⟨b,o+4,none⟩=some (.slice ad2 len2 cap2)∧w'.cell? ⟨b,o+5,none⟩=some (.int .i64 a2)
section
variable {sb b o len cap:Nat} {ad:Option Addr} {way:ByteArray} {k2:Int} {nm2:ByteArray} {n2 d2:Int} {len2 cap2:Nat} {ad2:Option Addr} {a2:Int} {w':World}
theorem SA.drew (h:SA sb b o len cap ad way k2 nm2 n2 d2 len2 cap2 ad2 a2 w'):SA sb b o len cap ad way k2 nm2 n2 d2 len2 cap2 ad2 a2 w'.drew:=h
theorem SA.set (h:SA sb b o len cap ad way k2 nm2 n2 d2 len2 cap2 ad2 a2 w') {g j:Nat} (h1:¬sb=g) (h2:¬b=g) (u:Value):SA sb b o len cap ad way k2 nm2 n2 d2 len2 cap2 ad2 a2 (w'.setCell ⟨g,j,none⟩ u):=by
 have hc:∀o,(w'.setCell ⟨g,j,none⟩ u).cell? ⟨b,o,none⟩=w'.cell? ⟨b,o,none⟩:=fun o=>ZG _ _ _ _ (fun e=>h2 e.symm)
 have hd:∀o,(w'.setCell ⟨g,j,none⟩ u).cell? ⟨sb,o,none⟩=w'.cell? ⟨sb,o,none⟩:=fun o=>ZG _ _ _ _ (fun e=>h1 e.symm)
 obtain⟨x0,x1,x2,x3,x4,x5,x6,x7⟩:=h
 exact⟨(hd _).trans x0,(hd _).trans x1,(hc _).trans x2,(hc _).trans x3,(hc _).trans x4,(hc _).trans x5,(hc _).trans x6,(hc _).trans x7⟩
end
theorem ZaO {W0 w:World} (hl:Below W0.heap.size W0 w) (e c:PE) (ad:Option Addr) (cap:Nat) (way:ByteArray) (i:Nat) (h:AE W0 e ad cap) (hc:e.args.at i=some c) (hi:i<e.args.len) (hi2:i<100) (hw:way.size≤1000) :
  Calls Tryz.prog 100 #[spv e ad cap way,.int .i64 (i:Int)] w fun x w'=>(∃ad2 cap2,x=.returned (spv c ad2 cap2 (way++⟨#[47]⟩++dg i))∧AE W0 c ad2 cap2)∧Below w.heap.size w w':=by
 obtain⟨b,o,rfl,hb,hac⟩:∃b o,ad=some ⟨b,o,none⟩∧b<W0.heap.size∧AC W0 e.args b o:=by
  rcases h.args with h0|h0
  ·rw[h0] at hc;cases hc
  exact h0
 obtain⟨ad2,cap2,y0,y1,y2,y3,y4,y5,hae⟩:=jQ _ hac i c hc
 have HAE:=hid hae
 have hi0:(0:Int)≤(i:Int):=oq
 have hi1:(i:Int)<(e.args.len:Int):=oq
 have hds:=JP hi2
 have hsl:=hl.size
 have HI2:=hid hi2
 obtain⟨k,nm,n,d,args,a⟩:=e
 obtain⟨k2,nm2,n2,d2,args2,a2⟩:=c
 unfold spv
 simp only at *
 clear h hac hae hc hi2
 have HL:=hid hl
 clear hl
 go_enter Tryz.func100,Tryz.ntmps100
 go_wp2
 obtain⟨W2,hW2⟩:∃W2,(w.alloc (.cells #[.int .i64 k,.string nm,.int .i64 n,.int .i64 d,.slice (some ⟨b,o,none⟩) args.len cap,.int .i64 a,.string way] 184)).alloc (.cells #[.int .i64 0,.string ⟨#[]⟩,.int .i64 0,.int .i64 0,.slice none 0 0,.int .i64 0,.string ⟨#[]⟩] 184)=W2:=⟨_,rfl⟩
 rw[hW2]
 have hB:Below w.heap.size w W2:=by rw[←hW2];exact bq
 have hb0:W2.heap[w.heap.size]?=some (.cells #[.int .i64 k,.string nm,.int .i64 n,.int .i64 d,.slice (some ⟨b,o,none⟩) args.len cap,.int .i64 a,.string way] 184 (0,0)):=by rw[←hW2];exact(Za _ _ _ (by simp)).trans (Yp w _)
 have hb1:W2.heap[w.heap.size+1]?=some (.cells #[.int .i64 0,.string ⟨#[]⟩,.int .i64 0,.int .i64 0,.slice none 0 0,.int .i64 0,.string ⟨#[]⟩] 184 (0,0)):=by rw[←hW2];simpa using Yp (w.alloc _) _
 obtain⟨⟨_,_,_,_,s4,_,s6⟩,_⟩:=YO hb0
 obtain⟨⟨z0,z1,z2,z3,z4,z5,z6⟩,zf⟩:=YO hb1
 have hcb:=fun o=>(hB.cell (p:=⟨b,o,none⟩) (Zd hb hsl)).trans (HL.out.cell (p:=⟨b,o,none⟩) hb)
 have HB:=hid hB
 have HB1:=hid hb1
 have KA:=hid (show SA w.heap.size b (o+i*6) args.len cap (some ⟨b,o,none⟩) way k2 nm2 n2 d2 args2.len cap2 ad2 a2 W2 from ⟨s4,s6,(hcb _).trans y0,(hcb _).trans y1,(hcb _).trans y2,(hcb _).trans y3,(hcb _).trans y4,(hcb _).trans y5⟩)
 have hne:¬w.heap.size=w.heap.size+1:=oq
 have hq1:¬9223372036854775807<way.size+1:=oq
 have hq2:¬9223372036854775807<way.size+1+(dg i).size:=oq
 have hne2:¬b=w.heap.size+1:=oq
 clear hW2 hB hb0 hb1 s4 s6 y0 y1 y2 y3 y4 y5 hcb
 go_region_held3 (fun w'=>w'.cell? ⟨w.heap.size,4,none⟩=some (.slice (some ⟨b,o,none⟩) args.len cap)∧w'.cell? ⟨w.heap.size,6,none⟩=some (.string way)∧w'.cell? ⟨b,o+i*6,none⟩=some (.int .i64 k2)∧w'.cell? ⟨b,o+i*6+1,none⟩=some (.string nm2)∧w'.cell? ⟨b,o+i*6+2,none⟩=some (.int .i64 n2)∧w'.cell? ⟨b,o+i*6+3,none⟩=some (.int .i64 d2)∧w'.cell? ⟨b,o+i*6+4,none⟩=some (.slice ad2 args2.len cap2)∧w'.cell? ⟨b,o+i*6+5,none⟩=some (.int .i64 a2)) ((show SA w.heap.size b (o+i*6) args.len cap (some ⟨b,o,none⟩) way k2 nm2 n2 d2 args2.len cap2 ad2 a2 _;repeat (first|with_reducible exact KA.out|with_reducible refine SA.drew ?_|(with_reducible refine SA.set ?_ hne hne2 _)))) (first|(go_at_call 129;refine(yA HI2.out _).mono ?_;rintro x w1 ⟨rfl,rfl⟩))
 all_goals
  go_wp2
  refine Zl (v:=spv ⟨k2,nm2,n2,d2,args2,a2⟩ ad2 cap2 (way++⟨#[47]⟩++dg i)) ?_ rfl ?_
  ·simp only[results,Tryz.results100,spv]
   go_simp
  exact⟨⟨ad2,cap2,rfl,HAE.out⟩,bq⟩
def SF (pb b o:Nat) (v:Value) (k2:Int) (nm2:ByteArray) (n2 d2:Int) (len2 cap2:Nat) (ad2:Option Addr) (a2:Int) (w':World):Prop :=
 w'.cell? ⟨pb,2,none⟩=some v∧w'.cell? ⟨b,o+1,none⟩=some (.int .i64 k2)∧w'.cell? ⟨b,o+2,none⟩=some (.string nm2)∧w'.cell? ⟨b,o+3,none⟩=some (.int .i64 n2)∧w'.cell? ⟨b,o+4,none⟩=some (.int .i64 d2)∧w'.cell? ⟨b,o+5,none⟩=some (.slice ad2 len2 cap2)∧w'.cell? ⟨b,o+6,none⟩=some (.int .i64 a2)
section
variable {pb b o:Nat} {v:Value} {k2:Int} {nm2:ByteArray} {n2 d2:Int} {len2 cap2:Nat} {ad2:Option Addr} {a2:Int} {w':World}
theorem SF.drew (h:SF pb b o v k2 nm2 n2 d2 len2 cap2 ad2 a2 w'):SF pb b o v k2 nm2 n2 d2 len2 cap2 ad2 a2 w'.drew:=h
theorem SF.set (h:SF pb b o v k2 nm2 n2 d2 len2 cap2 ad2 a2 w') {g j:Nat} (h1:¬pb=g) (h2:¬b=g) (u:Value):SF pb b o v k2 nm2 n2 d2 len2 cap2 ad2 a2 (w'.setCell ⟨g,j,none⟩ u):=by
 have hc:∀o,(w'.setCell ⟨g,j,none⟩ u).cell? ⟨b,o,none⟩=w'.cell? ⟨b,o,none⟩:=fun o=>ZG _ _ _ _ (fun e=>h2 e.symm)
 have hd:∀o,(w'.setCell ⟨g,j,none⟩ u).cell? ⟨pb,o,none⟩=w'.cell? ⟨pb,o,none⟩:=fun o=>ZG _ _ _ _ (fun e=>h1 e.symm)
 obtain⟨x0,x1,x2,x3,x4,x5,x6⟩:=h
 exact⟨(hd _).trans x0,(hc _).trans x1,(hc _).trans x2,(hc _).trans x3,(hc _).trans x4,(hc _).trans x5,(hc _).trans x6⟩
end
theorem X5 {W0 w:World} (hl:Below W0.heap.size W0 w) (p:PG) (an ai af ao:Option Addr) (cn ci cf co:Nat) (hp:AP W0 p an ai af ao cn ci cf co) (i:Nat) (hi:i<p.flows.length) (hi2:i<100) :
  Calls Tryz.prog 95 #[pv p an ai af ao cn ci cf co,.int .i64 (i:Int)] w fun x w'=>(∃ad2 cap2,x=.returned (spv p.flows[i].e ad2 cap2 (dg i))∧AE W0 p.flows[i].e ad2 cap2)∧Below w.heap.size w w':=by
 obtain⟨nodes,ins,flows,outs⟩:=p
 obtain⟨b,o,rfl,hb,hfl⟩:=hp.flows.at hi
 simp only at hi hfl ⊢
 obtain⟨f,hf⟩:∃f,flows[i]=f:=⟨_,rfl⟩
 rw[hf] at hfl ⊢
 obtain⟨nm,⟨k2,nm2,n2,d2,args2,a2⟩,fa⟩:=f
 obtain⟨ad2,cap2,y0,y1,y2,y3,y4,y5,y6,y7,hae,hfn⟩:=hfl.cells
 have HAE:=hid hae
 have hi0:(0:Int)≤(i:Int):=oq
 have hi1:(i:Int)<(flows.length:Int):=oq
 have HI2:=hid hi2
 unfold pv spv
 simp only
 clear hp hfl hae hf hi2 hfn y0 y7
 have hsl:=hl.size
 have HL:=hid hl
 clear hl
 go_enter Tryz.func95,Tryz.ntmps95
 go_wp2
 obtain⟨W2,hW2⟩:∃W2,(w.alloc (.cells #[.slice an nodes.length cn,.slice ai ins.length ci,.slice (some ⟨b,o,none⟩) flows.length cf,.slice ao outs.length co] 27)).alloc (.cells #[.int .i64 0,.string ⟨#[]⟩,.int .i64 0,.int .i64 0,.slice none 0 0,.int .i64 0,.string ⟨#[]⟩] 184)=W2:=⟨_,rfl⟩
 rw[hW2]
 have hB:Below w.heap.size w W2:=by rw[←hW2];exact bq
 have hb0:W2.heap[w.heap.size]?=some (.cells #[.slice an nodes.length cn,.slice ai ins.length ci,.slice (some ⟨b,o,none⟩) flows.length cf,.slice ao outs.length co] 27 (0,0)):=by rw[←hW2];exact(Za _ _ _ (by simp)).trans (Yp w _)
 have hb1:W2.heap[w.heap.size+1]?=some (.cells #[.int .i64 0,.string ⟨#[]⟩,.int .i64 0,.int .i64 0,.slice none 0 0,.int .i64 0,.string ⟨#[]⟩] 184 (0,0)):=by rw[←hW2];simpa using Yp (w.alloc _) _
 obtain⟨⟨_,_,s2,_⟩,_⟩:=Yq hb0
 obtain⟨⟨z0,z1,z2,z3,z4,z5,z6⟩,zf⟩:=YO hb1
 have hcb:=fun o=>(hB.cell (p:=⟨b,o,none⟩) (Zd hb hsl)).trans (HL.out.cell (p:=⟨b,o,none⟩) hb)
 have HB:=hid hB
 have KA:=hid (show SF w.heap.size b (o+i*8) (.slice (some ⟨b,o,none⟩) flows.length cf) k2 nm2 n2 d2 args2.len cap2 ad2 a2 W2 from ⟨s2,(hcb _).trans y1,(hcb _).trans y2,(hcb _).trans y3,(hcb _).trans y4,(hcb _).trans y5,(hcb _).trans y6⟩)
 have hne:¬w.heap.size=w.heap.size+1:=oq
 have hne2:¬b=w.heap.size+1:=oq
 clear hW2 hB hb0 hb1 s2 y1 y2 y3 y4 y5 y6 hcb
 go_region_held3 (fun w'=>w'.cell? ⟨w.heap.size,2,none⟩=some (.slice (some ⟨b,o,none⟩) flows.length cf)∧w'.cell? ⟨b,o+i*8+1,none⟩=some (.int .i64 k2)∧w'.cell? ⟨b,o+i*8+2,none⟩=some (.string nm2)∧w'.cell? ⟨b,o+i*8+3,none⟩=some (.int .i64 n2)∧w'.cell? ⟨b,o+i*8+4,none⟩=some (.int .i64 d2)∧w'.cell? ⟨b,o+i*8+5,none⟩=some (.slice ad2 args2.len cap2)∧w'.cell? ⟨b,o+i*8+6,none⟩=some (.int .i64 a2)) ((show SF w.heap.size b (o+i*8) (.slice (some ⟨b,o,none⟩) flows.length cf) k2 nm2 n2 d2 args2.len cap2 ad2 a2 _;repeat (first|with_reducible exact KA.out|with_reducible refine SF.drew ?_|(with_reducible refine SF.set ?_ hne hne2 _)))) (first|(go_at_call 129;refine(yA HI2.out _).mono ?_;rintro x w1 ⟨rfl,rfl⟩))
 all_goals
  go_wp2
  refine Zl (v:=spv ⟨k2,nm2,n2,d2,args2,a2⟩ ad2 cap2 (dg i)) ?_ rfl ?_
  ·simp only[results,Tryz.results95,spv]
   go_simp
  exact⟨⟨ad2,cap2,rfl,HAE.out⟩,bq⟩
theorem qy {w:World} (e:PE) (ad:Option Addr) (cap:Nat) (h:YE e=true):Calls Tryz.prog 96 #[ev e ad cap] w fun x w'=>x=.returned (.bool true)∧Below w.heap.size w w':=by
 obtain⟨h1,h2,h3⟩:=Kv h
 obtain⟨k,nm,n,d,args,a⟩:=e
 unfold ev
 simp only at h1 h2 h3 ⊢
 clear h
 by_cases hk:k=1
 ·subst hk
  have h1:=h1 rfl
  clear h2 h3
  rw[h1]
  go_enter Tryz.func96,Tryz.ntmps96
  go_wp2
  go_ret
  exact⟨rfl,bq⟩
 have hk1:(k == 1)=false:=ZY.2 hk
 by_cases hk2:k=2
 ·subst hk2
  have h2:decide (0<args.len)=true:=Z0 (by have:=h2 rfl;omega)
  clear h1 h3
  go_enter Tryz.func96,Tryz.ntmps96
  go_wp2
  go_ret
  exact⟨rfl,bq⟩
 have hk3:(k == 2)=false:=ZY.2 hk2
 have h3:=h3 hk hk2
 clear h1 h2 hk hk2
 rw[h3]
 go_enter Tryz.func96,Tryz.ntmps96
 go_wp2
 go_ret
 exact⟨rfl,bq⟩
theorem U9 {w:World} (e:PE) (ad:Option Addr) (cap:Nat) (way:ByteArray):Calls Tryz.prog 94 #[spv e ad cap way] w fun x w'=>x=.returned (.func (.func 127) #[] #[.pointer (some ⟨w.heap.size,0,none⟩)])∧w'=w.alloc (.cells #[.int .i64 e.k,.string e.nm,.int .i64 e.n,.int .i64 e.d,.slice ad e.args.len cap,.int .i64 e.a,.string way] 184):=by
 unfold spv
 go_enter Tryz.func94,Tryz.ntmps94
 go_wp2
 go_ret
 exact⟨rfl,rfl⟩
theorem J9 {w:World} (nm:ByteArray) (per ph a:Int):Calls Tryz.prog 97 #[.agg #[.string nm,.int .i64 per,.int .i64 ph,.int .i64 a]] w fun x w'=>x=.returned (.agg #[.int .i64 per,.int .i64 ph])∧Below w.heap.size w w':=by
 go_enter Tryz.func97,Tryz.ntmps97
 go_wp2
 refine Zl (v:=.agg #[.int .i64 per,.int .i64 ph]) ?_ rfl ?_
 ·simp only[results,Tryz.results97]
  go_simp
 exact⟨rfl,bq⟩
theorem Um {w:World} (e:PE) (ad:Option Addr) (cap:Nat):Calls Tryz.prog 133 #[ev e ad cap] w fun x w'=>x=.returned (.agg #[.int .i64 e.k,.int .i64 e.n,.int .i64 e.d])∧Below w.heap.size w w':=by
 unfold ev
 go_enter Tryz.func133,Tryz.ntmps133
 go_wp2
 refine Zl (v:=.agg #[.int .i64 e.k,.int .i64 e.n,.int .i64 e.d]) ?_ rfl ?_
 ·simp only[results,Tryz.results133]
  go_simp
 exact⟨rfl,bq⟩
attribute [local go_sem] ZT
def X6:PL→ByteArray→Nat→List (PE × ByteArray)
 | .nil,_,_=>[]
 | .cons k nm n d args a tl,w,i=>(⟨k,nm,n,d,args,a⟩,w++⟨#[47]⟩++dg i)::(X6 args (w++⟨#[47]⟩++dg i) 0++X6 tl w (i+1))
def Xi (e:PE) (w:ByteArray):List (PE × ByteArray):=(e,w)::X6 e.args w 0
theorem ud:∀(l:PL) (w:ByteArray) (i:Nat),(X6 l w i).length=l.sz:=by
 intro l
 induction l with
 | nil=>intro w i;rfl
 | cons k nm n d args a tl ih1 ih2=>intro w i;simp only[X6,Zp,Zx,ih1,ih2,PL.sz];omega
structure Qe (W0:World) (e:PE) (ad:Option Addr) (cap:Nat) (way:ByteArray):Prop where
 mem:AE W0 e ad cap
 good:YE e=true
 short:way.size+3*e.args.sz≤500
 few:e.args.sz<100
structure VS (W0:World) where
 s:PE × ByteArray
 ad:Option Addr
 cap:Nat
 ok:Qe W0 s.1 ad cap s.2
def VS.vs {W0:World} (x:VS W0):Array Value:=#[.agg #[.int .i64 x.s.1.k,.string x.s.1.nm,.int .i64 x.s.1.n,.int .i64 x.s.1.d,.slice x.ad x.s.1.args.len x.cap,.int .i64 x.s.1.a,.string x.s.2]]
def xM (F:Fence) (W0:World):Prop:=∀(n:Nat) (W:World) (e c:PE) (ad:Option Addr) (cap:Nat) (way:ByteArray) (i:Nat),Below W0.heap.size W0 W→Qe W0 e ad cap way→e.args.at i=some c →
 CallsIn F n Tryz.prog 100 #[spv e ad cap way,.int .i64 (i:Int)] W fun x w'=>(∃ad2 cap2,x=.returned (spv c ad2 cap2 (way++⟨#[47]⟩++dg i))∧Qe W0 c ad2 cap2 (way++⟨#[47]⟩++dg i))∧Below W.heap.size W w'
theorem UW:∀(l:PL) (i:Nat) (e:PE),l.at i=some e→i<l.len∧e.args.sz+1≤l.sz
 | .cons k nm n d args a tl,0,e,h=>by
  injection h with h;subst h
  simp only[PL.len,PL.sz]
  omega
 | .cons _ _ _ _ args _ tl,i+1,e,h=>by
  have:=UW tl i e h
  simp only[PL.len,PL.sz]
  omega
theorem Jh {W0 w:World} (hl:Below W0.heap.size W0 w) (e c:PE) (ad:Option Addr) (cap:Nat) (way:ByteArray) (i:Nat) (h:Qe W0 e ad cap way) (hc:e.args.at i=some c) :
  Calls Tryz.prog 100 #[spv e ad cap way,.int .i64 (i:Int)] w fun x w'=>(∃ad2 cap2,x=.returned (spv c ad2 cap2 (way++⟨#[47]⟩++dg i))∧Qe W0 c ad2 cap2 (way++⟨#[47]⟩++dg i))∧Below w.heap.size w w':=by
 obtain⟨h1,h2⟩:=UW _ _ _ hc
 have h3:=Qt e.args
 have h4:=h.few
 have h5:=h.short
 have h6:=JP (i:=i) oq
 refine(ZaO hl e c ad cap way i h.mem hc h1 oq oq).mono ?_
 rintro x w' ⟨⟨ad2,cap2,hx,hae⟩,hb⟩
 refine⟨⟨ad2,cap2,hx,⟨hae,JY h.good hc,?_,oq⟩⟩,hb⟩
 have h7:(way++(⟨#[47]⟩:ByteArray)++dg i).size=way.size+1+(dg i).size:=by
  rw[ByteArray.size_append,ByteArray.size_append];rfl
 omega
theorem GN (W0:World):xM Fence.wide W0:=fun n W e c ad cap way i hl h hc=>Zt.2 (Jh hl e c ad cap way i h hc)
theorem yh {β:Type} {B:Nat} {J:β→World→Prop} (h:AbidesFrom B J) {s:β} {W W':World} (hs:J s W) (hb:Below W.heap.size W W'):J s W' :=
 h s W _ none hs ⟨hb.os,hb.tape,hb.output,hb.size,fun k hk _=>hb.block k hk⟩ (fun r e=>by cases e)
def kept (o:Obj):Bool:=match o with
 | .cells _ t _=>t != 65
 | _=>false
theorem K7 {o:Obj} (h:kept o=true):o.isCells=true:=by
 cases o<;>first|rfl|exact Bool.noConfusion h
structure KF (n₀ Bk:Nat) (W W':World):Prop where
 below:Below n₀ W W'
 same:∀(k:Nat) (o:Obj),Bk≤k→W.heap[k]?=some o→kept o=true→W'.heap[k]?=some o
theorem KF.refl (n₀ Bk:Nat) (W:World):KF n₀ Bk W W:=⟨Zg _ _,fun _ _ _ h _=>h⟩
theorem KF.trans {n₀ Bk:Nat} {A B C:World} (h:KF n₀ Bk A B) (k:KF n₀ Bk B C):KF n₀ Bk A C:=⟨h.below.trans k.below,fun i o hb hi ho=>k.same i o hb (h.same i o hb hi ho) ho⟩
theorem KF.of_below {n₀ Bk:Nat} {A W W':World} (h:KF n₀ Bk A W) (hb:Below W.heap.size W W') (hn:n₀≤W.heap.size):KF n₀ Bk A W' :=
 h.trans ⟨hb.mono hn,fun k o _ hk _=>(hb.block k (Zb hk)).trans hk⟩
theorem KF.alloc {n₀ Bk:Nat} {A W:World} (h:KF n₀ Bk A W) (hn:n₀≤W.heap.size) (o:Obj):KF n₀ Bk A (W.alloc o):=h.of_below ((Zg _ _).alloc (Zc _) _) hn
theorem KC.kf {n₀:Nat} {A B:World} (h:KC n₀ A B) (Bk:Nat):KF n₀ Bk A B:=⟨h.below,fun k o _ hk ho=>h.same k o hk (K7 ho)⟩
theorem KF.putObj {n₀ Bk:Nat} (W:World) (l:Nat) (o o':Obj) (hl:n₀≤l) (h:W.heap[l]?=some o) (hc:o.isCells=false):KF n₀ Bk W (W.putObj l o'):=(KC.putObj W l o o' hl h hc).kf Bk
def jZ {W0:World} (n₀ Bk:Nat) (J Jx:List (VS W0)→World→Prop) (pre:List (VS W0)) (e:PE) (way:ByteArray) (W:World) (x:Ending) (W':World):Prop :=
 (x=.returned (.bool true)∧(∃ys:List (VS W0),ys.map (·.s)=Xi e way∧J (pre++ys) W')∧KF n₀ Bk W W') ∨
  (x=.returned (.bool false)∧∃q:List (VS W0),q.map (·.s) <+: Xi e way∧Jx (pre++q) W')
def Zdb {W0:World} (n₀ Bk:Nat) (J:List (VS W0)→World→Prop) (pre:List (VS W0)) (e:PE) (way:ByteArray) (W:World) (v:Value) (wr:World):Prop :=
 ∃(i:Nat) (rest:PL) (ys:List (VS W0)),v=.int .i64 (i:Int)∧i+rest.len=e.args.len∧(∀j,rest.at j=e.args.at (i+j))∧rest.sz≤e.args.sz∧ys.map (·.s)++X6 rest way i=Xi e way∧J (pre++ys) wr∧KF n₀ Bk W wr
theorem Zbm {k n d a:Int} {nm:ByteArray} {args tl l:PL} {i:Nat} (h:∀j,(PL.cons k nm n d args a tl).at j=l.at (i+j)):∀j,tl.at j=l.at (i+1+j):=fun j=>by
 have:=h (j+1)
 rw[show i+1+j=i+(j+1) by omega,←this]
 rfl
theorem xv {W0:World} (F:Fence) (hd:F.depth=none) (hF:F.fn 128) (hA:F.fn 100) (hro:F.round=none) (hAI:xM F W0) (l B Bk N:Nat) (J Jx:List (VS W0)→World→Prop) (hJ:AbidesFrom B J)
  (hY:∀m pre x W,J pre W→pre.length<N→YieldAt F m Tryz.prog l x.vs W fun e W'=>(e=.returned (.bool true)∧J (pre++[x]) W'∧KF W0.heap.size Bk W W')∨(e=.returned (.bool false)∧Jx (pre++[x]) W')) (e:PE)
  (ih:∀e':PE,e'.args.sz<e.args.sz→∀(n:Nat) (ad:Option Addr) (cap:Nat) (way:ByteArray) (pre:List (VS W0)) (W:World),Qe W0 e' ad cap way→Below W0.heap.size W0 W→Bk≤W.heap.size→J pre W→pre.length+e'.args.sz+1≤N →
   CallsIn F n Tryz.prog 128 #[spv e' ad cap way,.func (.yield l) #[] #[]] W (jZ W0.heap.size Bk J Jx pre e' way W)) :
  ∀(n:Nat) (ad:Option Addr) (cap:Nat) (way:ByteArray) (pre:List (VS W0)) (W:World),Qe W0 e ad cap way→Below W0.heap.size W0 W→Bk≤W.heap.size→J pre W→pre.length+e.args.sz+1≤N →
   CallsIn F n Tryz.prog 128 #[spv e ad cap way,.func (.yield l) #[] #[]] W (jZ W0.heap.size Bk J Jx pre e way W):=by
 intro n ad cap way pre W hae hb hBk hj hN
 obtain⟨k,nm,nn,d,args,a⟩:=e
 have hlen:=hae.mem.len
 simp only at hlen hN ih ⊢
 have hdd:∀k:Nat,(F.depth.isSome=true→1≤k):=fun k h=>by rw[hd] at h;cases h
 have hsz0:=hb.size
 obtain⟨X,hX1,hX2⟩:∃X:VS W0,X.vs=#[.agg #[.int .i64 k,.string nm,.int .i64 nn,.int .i64 d,.slice ad args.len cap,.int .i64 a,.string way]]∧X.s=(⟨k,nm,nn,d,args,a⟩,way):=⟨⟨(⟨k,nm,nn,d,args,a⟩,way),ad,cap,hae⟩,rfl,rfl⟩
 obtain⟨fn,tmps,assign,body,hy,hR⟩:=hY (n-1) pre X (W.alloc (Obj.cells #[.int .i64 k,.string nm,.int .i64 nn,.int .i64 d,.slice ad args.len cap,.int .i64 a,.string way] 184)) (Jf hJ hj _) oq
 rw[hX1] at hy
 have HX2:=hid hX2
 have HA:=hid hae
 have HB:=hid hb
 have HIH:=hid ih
 have HR:=hid hR
 have HAI:=hid hAI
 clear hX1 hX2 hae hb ih hR hj hAI
 unfold spv at *
 simp only at *
 refine callsIn_of_wp Tryz.func128 rfl hF ?_ hro
 simp only[Tryz.ntmps128,ZI,Zp,Zw,Nat.reduceAdd,Nat.reduceSub,ZF,ZE,ZL,ZJ,ZM,ZC]
 gi_wp2
 refine HR.out.mono ?_
 rintro e W1 (⟨rfl,hJ1,hk1⟩|⟨rfl,hJx⟩)
 ·have hbox:=hk1.same W.heap.size _ hBk (Yp W _) rfl
  obtain⟨⟨x0,x1,x2,x3,x4,x5,x6⟩,xf⟩:=YO hbox
  have HJ1:=hid hJ1
  have HK1:=hid ((KF.refl W0.heap.size Bk W).alloc hsz0 _ |>.trans hk1)
  have HBX:=hid hbox
  clear hJ1 hk1 hbox
  gi_wp2
  gi_loopw [14] (fun v wr=>Hid (Zdb W0.heap.size Bk J pre ⟨k,nm,nn,d,args,a⟩ way W1 v wr)) (fun i _=>args.len-(intOf i).toNat)
  case atStart=>exact⟨0,args,[X],rfl,by simp,by simp,Zc _,by simp only[List.map_cons,List.map_nil,List.singleton_append,HX2.out,Xi],HJ1.out,KF.refl _ _ _⟩
  obtain⟨i,rest,ys,rfl,hil,hat,hsub,hys,hj2,hk2⟩:=hrel.out
  clear hrel
  have HK2:=hid hk2
  have HJ2:=hid hj2
  simp only at hil hat hsub
  have hbw:Below W0.heap.size W0 wr:=HB.out.trans (HK1.out.below.trans hk2.below)
  have hbox:=hk2.same W.heap.size _ hBk HBX.out rfl
  have hBr:Bk≤wr.heap.size:=Zm hBk (HK1.out.below.trans hk2.below).size
  have HBW:=hid hbw
  have HAT:=hid hat
  have hszw:=hbw.size
  clear hk2 hj2 hbw hat
  cases rest with
  | nil =>
   have hil':(i:Int)=(args.len:Int):=by simp only[PL.len] at hil;omega
   simp only[X6,List.append_nil] at hys
   have HYS:=hid hys
   clear hys
   gi_wp2
   go_ret
   exact .inl ⟨rfl,⟨ys,HYS.out,HJ2.out⟩,HK1.out.trans HK2.out⟩
  | cons k1 nm1 n1 d1 args1 a1 tl =>
   have hil':(i:Int)<(args.len:Int):=by simp only[PL.len] at hil;omega
   obtain⟨⟨x0,x1,x2,x3,x4,x5,x6⟩,xf⟩:=YO hbox
   have h0:=HAT.out 0
   have hlys:=Z3 List.length hys
   simp only[Zx,Zo,ud,Zp,PL.sz,Xi] at hlys hsub
   have HARG:=hid (HAI.out (n-1) wr ⟨k,nm,nn,d,args,a⟩ ⟨k1,nm1,n1,d1,args1,a1⟩ ad cap way i HBW.out HA.out h0.symm)
   have HC:=hid (fun w1 (hb1:Below wr.heap.size wr w1) ad1 cap1 (hsp:Qe W0 ⟨k1,nm1,n1,d1,args1,a1⟩ ad1 cap1 (way++⟨#[47]⟩++dg i))=>HIH.out ⟨k1,nm1,n1,d1,args1,a1⟩ (by show args1.sz<args.sz;omega) (n-1) ad1 cap1 (way++⟨#[47]⟩++dg i) (pre++ys) w1 hsp (HBW.out.trans (hb1.mono hszw)) (Zm hBr hb1.size) (yh hJ HJ2.out hb1) (by simp only[Zx];omega))
   have HYS:=hid hys
   clear h0 hys hlys hbox
   gi_wp2_with ((try refine⟨hdd _,?_⟩);first|(gi_at_call 100;refine HARG.out.mono ?_;rintro x w1 ⟨⟨ad1,cap1,rfl,hsp⟩,hb1⟩;unfold spv;simp only)|(gi_at_call 128;refine(HC.out _ hb1 _ _ hsp).mono ?_;rintro x w2 (⟨rfl,⟨zs,hzs,hj3⟩,hk3⟩|⟨rfl,q,hq,hjx⟩)))
   ·go_roundw
    case rel=>exact⟨i+1,tl,ys++zs,by go_num,by simp only[PL.len] at hil;show i+1+tl.len=args.len;omega,Zbm HAT.out,by show tl.sz≤args.sz;omega,by rw[ZU,hzs,←HYS.out,X6,Xi];simp,by rw[←List.append_assoc];exact hj3,(HK2.out.of_below hb1 hszw).trans hk3⟩
    simp[intOf];omega
   go_ret
   refine .inr ⟨rfl,ys++q,?_,by rw[←List.append_assoc];exact hjx⟩
   obtain⟨r,hr⟩:=hq
   refine⟨r++X6 tl way (i+1),?_⟩
   rw[ZU,←HYS.out,X6,←ZC]
   unfold Xi at hr
   rw[←hr]
   simp
 gi_wp2
 go_ret
 exact .inr ⟨rfl,[X],⟨X6 args way 0,by simp only[List.map_cons,List.map_nil,List.singleton_append,HX2.out,Xi]⟩,hJx⟩
theorem qB {W0:World} (F:Fence) (hd:F.depth=none) (hF:F.fn 128) (hA:F.fn 100) (hro:F.round=none) (hAI:xM F W0) (l B Bk N:Nat) (J Jx:List (VS W0)→World→Prop) (hJ:AbidesFrom B J)
  (hY:∀m pre x W,J pre W→pre.length<N→YieldAt F m Tryz.prog l x.vs W fun e W'=>(e=.returned (.bool true)∧J (pre++[x]) W'∧KF W0.heap.size Bk W W')∨(e=.returned (.bool false)∧Jx (pre++[x]) W')) :
  ∀(e:PE) (n:Nat) (ad:Option Addr) (cap:Nat) (way:ByteArray) (pre:List (VS W0)) (W:World),Qe W0 e ad cap way→Below W0.heap.size W0 W→Bk≤W.heap.size→J pre W→pre.length+e.args.sz+1≤N →
   CallsIn F n Tryz.prog 128 #[spv e ad cap way,.func (.yield l) #[] #[]] W (jZ W0.heap.size Bk J Jx pre e way W):=by
 intro e
 suffices h:∀(M:Nat) (e:PE),e.args.sz<M→∀(n:Nat) (ad:Option Addr) (cap:Nat) (way:ByteArray) (pre:List (VS W0)) (W:World),Qe W0 e ad cap way→Below W0.heap.size W0 W→Bk≤W.heap.size→J pre W→pre.length+e.args.sz+1≤N →
   CallsIn F n Tryz.prog 128 #[spv e ad cap way,.func (.yield l) #[] #[]] W (jZ W0.heap.size Bk J Jx pre e way W) from h _ e (ZW _)
 intro M
 induction M with
 | zero=>intro e h;omega
 | succ M ih=>intro e h;exact xv F hd hF hA hro hAI l B Bk N J Jx hJ hY e (fun e' h'=>ih e' oq)
theorem yU {W0:World} (F:Fence) (hd:F.depth=none) (hG:F.fn 127) (hF:F.fn 128) (hA:F.fn 100) (hro:F.round=none) (hAI:xM F W0) (n l B Bk Bs:Nat) (e:PE) (ad:Option Addr) (cap:Nat) (way:ByteArray)
  (hs:Qe W0 e ad cap way) (J Jx:List (VS W0)→World→Prop) (hJ:AbidesFrom B J)
  (hY:∀m pre x W,J pre W→pre.length<e.args.sz+1→YieldAt F m Tryz.prog l x.vs W fun e W'=>(e=.returned (.bool true)∧J (pre++[x]) W'∧KF W0.heap.size Bk W W')∨(e=.returned (.bool false)∧Jx (pre++[x]) W'))
  (W:World) (hB:Below W0.heap.size W0 W) (hBk:Bk≤W.heap.size) (hbx:W.heap[Bs]?=some (.cells #[.int .i64 e.k,.string e.nm,.int .i64 e.n,.int .i64 e.d,.slice ad e.args.len cap,.int .i64 e.a,.string way] 184 (0,0))) (h0:J [] W) :
  CallsIn F n Tryz.prog 127 #[.func (.yield l) #[] #[],.pointer (some ⟨Bs,0,none⟩)] W fun x W'=>(∃v,x=.returned v) ∧
   ((∃xs:List (VS W0),xs.map (·.s)=Xi e way∧J xs W')∨(∃pre:List (VS W0),pre.map (·.s) <+: Xi e way∧Jx pre W')):=by
 have hdd:∀k:Nat,(F.depth.isSome=true→1≤k):=fun k h=>by rw[hd] at h;cases h
 have HC:=hid (qB F hd hF hA hro hAI l B Bk (e.args.sz+1) J Jx hJ hY e (n-1) ad cap way [] W hs hB hBk h0 (by simp))
 obtain⟨⟨x0,x1,x2,x3,x4,x5,x6⟩,xf⟩:=YO hbx
 clear hY hB h0 hAI hs hbx
 unfold spv at HC
 refine callsIn_of_wp Tryz.func127 rfl hG ?_ hro
 simp only[Tryz.ntmps127,ZI,Zp,Zw,Nat.reduceAdd,Nat.reduceSub,ZF,ZE,ZL,ZJ,ZM,ZC]
 gi_wp2_with ((try refine⟨hdd _,?_⟩);gi_at_call 128;refine HC.out.mono ?_;rintro x w2 (⟨rfl,⟨zs,hzs,hj3⟩,hk3⟩|⟨rfl,q,hq,hjx⟩))
 ·go_end0
  exact⟨⟨_,rfl⟩,.inl ⟨zs,hzs,by simpa using hj3⟩⟩
 go_end0
 exact⟨⟨_,rfl⟩,.inr ⟨q,hq,by simpa using hjx⟩⟩
theorem Vr {W0:World} (F:Fence) (hd:F.depth=none) (hG:F.fn 127) (hF:F.fn 128) (hA:F.fn 100) (hro:F.round=none) (hAI:xM F W0) (n Bs:Nat) (e:PE) (ad:Option Addr) (cap:Nat) (way:ByteArray)
  (hs:Qe W0 e ad cap way) (w:World) (Bk:Nat) (hBk:Bk≤w.heap.size) (hB:Below W0.heap.size W0 w) (hbx:w.heap[Bs]?=some (.cells #[.int .i64 e.k,.string e.nm,.int .i64 e.n,.int .i64 e.d,.slice ad e.args.len cap,.int .i64 e.a,.string way] 184 (0,0))) :
  SeqStopsK F n Tryz.prog 127 #[.pointer (some ⟨Bs,0,none⟩)] (fun x:VS W0=>x.vs) (KF W0.heap.size Bk) (fun xs=>xs.map (·.s)=Xi e way) (fun pre=>pre.map (·.s) <+: Xi e way) (e.args.sz+1) w:=fun l J Jx W hW hJ hJx hY h0 =>
 yU F hd hG hF hA hro hAI n l W.heap.size Bk Bs e ad cap way hs J Jx hJ (fun m pre x W hj hl=>YieldAt.deep hd m (hY pre x W hj hl)) W (hB.trans (hW.mono hB.size)) (Zm hBk hW.size) ((hW.block Bs (Zb hbx)).trans hbx) h0
def zl (w:World) (b:Nat) (l:List (Int × Int)):Prop:=∀i (h:i<l.length),w.cell? ⟨b,i*2,none⟩=some (.int .i64 l[i].1)∧w.cell? ⟨b,i*2+1,none⟩=some (.int .i64 l[i].2)
def ZcH (w W:World) (l1 l2:List (Int × Int)) (v:Value) (wr:World):Prop :=
 ∃i:Nat,v=.int .i64 (i:Int)∧i≤l1.length∧l1.take i=l2.take i∧Below w.heap.size w wr
theorem Kc {w:World} (l1 l2:List (Int × Int)) (b1 b2:Nat) (hb1:b1<w.heap.size) (hb2:b2<w.heap.size) (h1:zl w b1 l1) (h2:zl w b2 l2) (hl:l1.length≤1000) (hl2:l2.length≤1000) :
  Calls Tryz.prog 93 #[.slice (some ⟨b1,0,none⟩) l1.length l1.length,.slice (some ⟨b2,0,none⟩) l2.length l2.length] w fun x w'=>x=.returned (.bool (decide (l1=l2)))∧Below w.heap.size w w':=by
 have H1:=hid h1
 have H2:=hid h2
 clear h1 h2
 go_enter Tryz.func93,Tryz.ntmps93
 by_cases hne:l1.length=l2.length
 ·have hq:((l1.length:Int) != (l2.length:Int))=false:=by simp[hne]
  go_wp2
  go_loopw [13] (fun v wr=>Hid (ZcH w w l1 l2 v wr)) (fun i _=>l1.length-(intOf i).toNat)
  case atStart=>exact⟨0,rfl,Zk _,rfl,Zg _ _⟩
  obtain⟨i,rfl,hi,htk,hB⟩:=hrel.out
  clear hrel
  by_cases hlt:i<l1.length
  ·have hlt':(i:Int)<(l1.length:Int):=oq
   have hlt2:(i:Int)<(l2.length:Int):=oq
   have hi2:i<l2.length:=oq
   obtain⟨c1,d1⟩:=H1.out i hlt
   obtain⟨c2,d2⟩:=H2.out i hi2
   have g1:wr.cell? ⟨b1,i*2,none⟩=_:=(hB.cell (p:=⟨b1,i*2,none⟩) hb1).trans c1
   have g2:wr.cell? ⟨b1,i*2+1,none⟩=_:=(hB.cell (p:=⟨b1,i*2+1,none⟩) hb1).trans d1
   have g3:wr.cell? ⟨b2,i*2,none⟩=_:=(hB.cell (p:=⟨b2,i*2,none⟩) hb2).trans c2
   have g4:wr.cell? ⟨b2,i*2+1,none⟩=_:=(hB.cell (p:=⟨b2,i*2+1,none⟩) hb2).trans d2
   obtain⟨⟨p1,q1⟩,hp1⟩:∃c,l1[i]=c:=⟨_,rfl⟩
   obtain⟨⟨p2,q2⟩,hp2⟩:∃c,l2[i]=c:=⟨_,rfl⟩
   rw[hp1] at g1 g2
   rw[hp2] at g3 g4
   simp only at g1 g2 g3 g4
   have HP1:=hid hp1
   have HP2:=hid hp2
   have HTK:=hid htk
   have HB:=hid hB
   clear c1 d1 c2 d2 hp1 hp2 htk hB
   by_cases hcc:p1=p2∧q1=q2
   ·obtain⟨e1,e2⟩:=hcc
    subst e1 e2
    have hq2:=fun w=>JA p1 q1 p1 q1 w
    simp only[and_self,decide_true] at hq2
    have HT2:=hid (show l1.take (i+1)=l2.take (i+1) by
     rw[Zv hlt,Zv hi2,HTK.out,HP1.out,HP2.out])
    go_wp2
    go_quiet (fail)
    go_wp2
    exact⟨⟨i+1,by go_num,oq,HT2.out,bq⟩,by simp[intOf];omega⟩
   have HD:=hid (show decide (l1=l2)=false from ZZ (fun e=>hcc (by
    subst e
    have:=HP1.out.symm.trans HP2.out
    injection this with h1 h2
    exact⟨h1,h2⟩)))
   by_cases he:p1=p2
   ·subst he
    have he2:¬q1=q2:=fun e=>hcc ⟨rfl,e⟩
    have hq2:=fun w=>JA p1 q1 p1 q2 w
    simp only[true_and,ZZ he2] at hq2
    clear hcc
    go_wp2
    go_quiet (fail)
    go_wp2
    go_ret
    exact⟨by rw[HD.out];rfl,bq⟩
   have hq2:=fun w=>JA p1 q1 p2 q2 w
   simp only[he,false_and,decide_false] at hq2
   clear hcc
   go_wp2
   go_quiet (fail)
   go_wp2
   go_ret
   exact⟨by rw[HD.out];rfl,bq⟩
  have hi':i=l1.length:=oq
  have heq:l1=l2:=by
   subst hi'
   rw[ZS,hne,ZS] at htk
   exact htk
  have hlt':¬(i:Int)<(l1.length:Int):=oq
  have HE:=hid heq
  have HB:=hid hB
  clear heq hB htk
  go_wp2
  go_ret
  exact⟨by rw[Z0 HE.out];rfl,HB.out⟩
 have hq:((l1.length:Int) != (l2.length:Int))=true:=by
  rw[bne_iff_ne];omega
 have hd:decide (l1=l2)=false:=ZZ (fun e=>hne (by rw[e]))
 rw[hd]
 go_wp2
 go_ret
 exact⟨rfl,bq⟩
end Go.Proofs.YtgigilkpndhddaaGreatDoor.syn
