/- Parts of the proof. -/
import Derived.Test.YtlhlcdjiafdoeaaGreatDoorV11
set_option linter.all false
set_option maxRecDepth 100000
set_option maxHeartbeats 16000000
namespace Go.Proofs.YtlhlcdjiafdoeaaGreatDoor.syn
open Go.RowKit
def XN {α:Type} (f:α→ByteArray) (nm:ByteArray):List α→Nat→Option Nat
 | [],_=>none
 | x::l,i=>if f x=nm then some i else XN f nm l (i+1)
theorem Vx {α:Type} (f:α→ByteArray) (nm:ByteArray):∀(l:List α) (i k:Nat),XN f nm l i=some k→∃j,k=i+j∧∃x,l[j]?=some x∧f x=nm:=by
 intro l
 induction l with
 | nil=>intro i k h;cases h
 | cons x l ih =>
  intro i k h
  unfold XN at h
  by_cases hx:f x=nm
  ·rw[Z0 hx] at h;injection h with h;exact⟨0,oq,x,rfl,hx⟩
  rw[ZZ hx] at h
  obtain⟨j,h1,y,h2,h3⟩:=ih (i+1) k h
  exact⟨j+1,oq,y,by simpa using h2,h3⟩
def YK (p:PG) (nm:ByteArray):Int:=match XN IN.nm nm p.ins 0 with
 | some i=>(i:Int)
 | none=>match XN FL.nm nm p.flows 0 with
  | some i=>(p.ins.length:Int)+(i:Int)
  | none=>-1
def XZ (p:PG) (nm:ByteArray):Int:=match XN ND.nm nm p.nodes 0 with
 | some i=>(i:Int)
 | none=>-1
def uG (w:World) (p:PG) (an ai af ao:Option Addr) (cn ci cf co:Nat) (len:Nat) (S:Nat→Prop) (v:Value) (wr:World):Prop :=
 ∃i:Nat,v=.int .i64 (i:Int)∧i≤len∧XS wr w.heap.size p an ai af ao cn ci cf co∧Below w.heap.size w wr∧S i
theorem V4 {w:World} (p:PG) (an ai af ao:Option Addr) (cn ci cf co:Nat) (nm:ByteArray) (hp:AP w p an ai af ao cn ci cf co) (h1:p.ins.length≤1000) (h2:p.flows.length≤1000) :
  Calls Tryz.prog 38 #[pv p an ai af ao cn ci cf co,.string nm] w fun x w'=>x=.returned (.int .i64 (YK p nm))∧Below w.heap.size w w':=by
 obtain⟨nodes,ins,flows,outs⟩:=p
 have HI:=hid hp.ins
 have HF:=hid hp.flows
 clear hp
 simp only at h1 h2
 unfold pv
 simp only
 obtain⟨r,hr⟩:∃r,YK ⟨nodes,ins,flows,outs⟩ nm=r:=⟨_,rfl⟩
 rw[hr]
 have HR:=hid hr
 clear hr
 go_enter Tryz.func38,Tryz.ntmps38
 go_wp2
 go_loopw [5] (fun v wr=>Hid (uG w ⟨nodes,ins,flows,outs⟩ an ai af ao cn ci cf co ins.length (fun i=>XN IN.nm nm (ins.drop i) i=XN IN.nm nm ins 0) v wr)) (fun i _=>ins.length-(intOf i).toNat)
 case atStart=>exact⟨0,rfl,Zk _,Yt w _,bq,rfl⟩
 obtain⟨i,rfl,hi,hpb,hbel,hS⟩:=hrel.out
 clear hrel
 try simp only at hS
 unfold XS at hpb
 simp only at hpb
 obtain⟨⟨x0,x1,x2,x3⟩,xf⟩:=Yu hpb
 have HPB:=hid hpb
 have HBEL:=hid hbel
 have hszr:=hbel.size
 by_cases hlt:i<ins.length
 ·obtain⟨bb,oo,rfl,hbb0,hin0⟩:=HI.out.at hlt
  have hin:=KM w wr bb _ _ hbel hbb0 hin0
  have hbb:=Zd hbb0 hszr
  obtain⟨y0,_⟩:=hin
  rw[ZM hlt,XN] at hS
  obtain⟨x,hx⟩:∃x,ins[i]=x:=⟨_,rfl⟩
  rw[hx] at y0 hS
  obtain⟨nmx,per,ph,fa⟩:=x
  simp only at y0 hS
  have hq:=QL nmx nm
  have hie:(i:Int)<(ins.length:Int):=oq
  clear hbel hpb hin0 hx hbb0
  by_cases he:nmx=nm
  ·rw[Z0 he] at hS
   rw[ZY he] at hq
   have h3:r=(i:Int):=by rw[←HR.out];unfold YK;simp only;rw[←hS]
   subst h3
   clear hS he
   go_wp2
   go_ret
   exact⟨rfl,HBEL.out⟩
  rw[ZZ he] at hS
  rw[ZX he] at hq
  have HS:=hid hS
  clear hS he
  go_wp2
  refine⟨⟨i+1,by go_num,oq,HPB.out,HBEL.out,HS.out⟩,by simp[intOf];omega⟩
 have hie:i=ins.length:=oq
 subst hie
 have HS:=hid (show none=XN IN.nm nm ins 0 by rw[Ym] at hS;exact hS)
 clear hS hbel hpb
 go_wp2
 go_loopw [6] (fun v wr=>Hid (uG w ⟨nodes,ins,flows,outs⟩ an ai af ao cn ci cf co flows.length (fun i=>XN FL.nm nm (flows.drop i) i=XN FL.nm nm flows 0) v wr)) (fun i _=>flows.length-(intOf i).toNat)
 case atStart=>exact⟨0,rfl,Zk _,HPB.out,HBEL.out,rfl⟩
 clear HPB HBEL hszr x0 x1 x2 x3 xf
 obtain⟨i,rfl,hi,hpb,hbel,hS⟩:=hrel.out
 clear hrel
 try simp only at hS
 unfold XS at hpb
 simp only at hpb
 obtain⟨⟨x0,x1,x2,x3⟩,xf⟩:=Yu hpb
 have HPB:=hid hpb
 have HBEL:=hid hbel
 have hszr:=hbel.size
 by_cases hlt:i<flows.length
 ·obtain⟨bb,oo,rfl,hbb0,hfl0⟩:=HF.out.at hlt
  have hfl:=JI w wr bb _ _ hbel hbb0 hfl0
  have hbb:=Zd hbb0 hszr
  obtain⟨y0,_⟩:=hfl
  rw[ZM hlt,XN] at hS
  obtain⟨x,hx⟩:∃x,flows[i]=x:=⟨_,rfl⟩
  rw[hx] at y0 hS
  obtain⟨nmx,ex,fa⟩:=x
  simp only at y0 hS
  have hq:=QL nmx nm
  have hie:(i:Int)<(flows.length:Int):=oq
  clear hbel hpb hfl0 hx hbb0
  by_cases he:nmx=nm
  ·rw[Z0 he] at hS
   rw[ZY he] at hq
   have h3:r=(ins.length:Int)+(i:Int):=by rw[←HR.out];unfold YK;simp only;rw[←HS.out];simp only;rw[←hS]
   subst h3
   clear hS he
   go_wp2
   go_ret
   exact⟨rfl,HBEL.out⟩
  rw[ZZ he] at hS
  rw[ZX he] at hq
  have HS2:=hid hS
  clear hS he
  go_wp2
  refine⟨⟨i+1,by go_num,oq,HPB.out,HBEL.out,HS2.out⟩,by simp[intOf];omega⟩
 have hie:i=flows.length:=oq
 subst hie
 have h4:none=XN FL.nm nm flows 0:=by rw[Ym] at hS;exact hS
 have h3:r=-1:=by rw[←HR.out];unfold YK;simp only;rw[←HS.out];simp only;rw[←h4]
 subst h3
 clear hS hbel hpb h4
 go_wp2
 go_ret
 exact⟨rfl,HBEL.out⟩
theorem yz {w:World} (p:PG) (an ai af ao:Option Addr) (cn ci cf co:Nat) (nm:ByteArray) (hp:AP w p an ai af ao cn ci cf co) (h1:p.nodes.length≤1000) :
  Calls Tryz.prog 36 #[pv p an ai af ao cn ci cf co,.string nm] w fun x w'=>x=.returned (.int .i64 (XZ p nm))∧Below w.heap.size w w':=by
 obtain⟨nodes,ins,flows,outs⟩:=p
 have HN:=hid hp.nodes
 clear hp
 simp only at h1
 unfold pv
 simp only
 obtain⟨r,hr⟩:∃r,XZ ⟨nodes,ins,flows,outs⟩ nm=r:=⟨_,rfl⟩
 rw[hr]
 have HR:=hid hr
 clear hr
 go_enter Tryz.func36,Tryz.ntmps36
 go_wp2
 go_loopw [5] (fun v wr=>Hid (uG w ⟨nodes,ins,flows,outs⟩ an ai af ao cn ci cf co nodes.length (fun i=>XN ND.nm nm (nodes.drop i) i=XN ND.nm nm nodes 0) v wr)) (fun i _=>nodes.length-(intOf i).toNat)
 case atStart=>exact⟨0,rfl,Zk _,Yt w _,bq,rfl⟩
 obtain⟨i,rfl,hi,hpb,hbel,hS⟩:=hrel.out
 clear hrel
 try simp only at hS
 unfold XS at hpb
 simp only at hpb
 obtain⟨⟨x0,x1,x2,x3⟩,xf⟩:=Yu hpb
 have HPB:=hid hpb
 have HBEL:=hid hbel
 have hszr:=hbel.size
 by_cases hlt:i<nodes.length
 ·obtain⟨bb,oo,rfl,hbb0,hin0⟩:=HN.out.at hlt
  have hin:=Jw w wr bb _ _ hbel hbb0 hin0
  have hbb:=Zd hbb0 hszr
  obtain⟨y0,_⟩:=hin
  rw[ZM hlt,XN] at hS
  obtain⟨x,hx⟩:∃x,nodes[i]=x:=⟨_,rfl⟩
  rw[hx] at y0 hS
  obtain⟨nmx,ps,bud,bd,fa⟩:=x
  simp only at y0 hS
  have hq:=QL nmx nm
  have hie:(i:Int)<(nodes.length:Int):=oq
  clear hbel hpb hin0 hx hbb0
  by_cases he:nmx=nm
  ·rw[Z0 he] at hS
   rw[ZY he] at hq
   have h3:r=(i:Int):=by rw[←HR.out];unfold XZ;simp only;rw[←hS]
   subst h3
   clear hS he
   go_wp2
   go_ret
   exact⟨rfl,HBEL.out⟩
  rw[ZZ he] at hS
  rw[ZX he] at hq
  have HS:=hid hS
  clear hS he
  go_wp2
  refine⟨⟨i+1,by go_num,oq,HPB.out,HBEL.out,HS.out⟩,by simp[intOf];omega⟩
 have hie:i=nodes.length:=oq
 subst hie
 have h4:none=XN ND.nm nm nodes 0:=by rw[Ym] at hS;exact hS
 have h3:r=-1:=by rw[←HR.out];unfold XZ;simp only;rw[←h4]
 subst h3
 clear hS hbel hpb h4
 go_wp2
 go_ret
 exact⟨rfl,HBEL.out⟩
def zt (x:Ending):Prop:=∃b:Bool,x=.returned (.bool b)
def K7 (nm nm1:ByteArray) (ps:List ByteArray) (pa:Option Addr) (pc:Nat) (bud k1 n1 d1 a1 fa:Int) (ad:Option Addr) (len cap:Nat):Value :=
 .agg #[.string nm,.slice pa ps.length pc,.int .i64 bud,.int .i64 k1,.string nm1,.int .i64 n1,.int .i64 d1,.slice ad len cap,.int .i64 a1,.int .i64 fa]
theorem Qy {w:World} {b:Nat} {v0 v1 v2 v3 v4 v5 v6 v7 v8 v9:Value} {t:TypeId} (h:w.heap[b]?=some (.cells #[v0,v1,v2,v3,v4,v5,v6,v7,v8,v9] t (0,0))) :
  (w.cell? ⟨b,0,none⟩=some v0∧w.cell? ⟨b,1,none⟩=some v1∧w.cell? ⟨b,2,none⟩=some v2∧w.cell? ⟨b,3,none⟩=some v3∧w.cell? ⟨b,4,none⟩=some v4∧w.cell? ⟨b,5,none⟩=some v5∧w.cell? ⟨b,6,none⟩=some v6∧w.cell? ⟨b,7,none⟩=some v7∧w.cell? ⟨b,8,none⟩=some v8∧w.cell? ⟨b,9,none⟩=some v9)∧∀o,w.frozen? ⟨b,o,none⟩=false:=by
 refine⟨⟨?_,?_,?_,?_,?_,?_,?_,?_,?_,?_⟩,?_⟩
 all_goals first|(intro o;simp[World.frozen?,h])|simp[World.cell?,h]
def Zbd (w:World) (v0 v1 v2 v3 v4 v5 v6 v7 v8 v9:Value) (len:Nat) (v:Value) (wr:World):Prop :=
 ∃i:Nat,v=.int .i64 (i:Int)∧i≤len∧wr.heap[w.heap.size]?=some (.cells #[v0,v1,v2,v3,v4,v5,v6,v7,v8,v9] 94 (0,0))∧Below w.heap.size w wr
theorem vU {w:World} (nm nm1 q:ByteArray) (ps:List ByteArray) (pa:Option Addr) (pc:Nat) (bud k1 n1 d1 a1 fa:Int) (ad:Option Addr) (len cap:Nat) (hps:Row zu 1 w ps pa) (hl:ps.length≤1000) :
  Calls Tryz.prog 67 #[K7 nm nm1 ps pa pc bud k1 n1 d1 a1 fa ad len cap,.string q] w fun x w'=>zt x∧Below w.heap.size w w':=by
 have HPS:=hid hps
 clear hps
 unfold K7
 go_enter Tryz.func67,Tryz.ntmps67
 go_wp2
 go_loopw [5] (fun v wr=>Hid (Zbd w (.string nm) (.slice pa ps.length pc) (.int .i64 bud) (.int .i64 k1) (.string nm1) (.int .i64 n1) (.int .i64 d1) (.slice ad len cap) (.int .i64 a1) (.int .i64 fa) ps.length v wr)) (fun i _=>ps.length-(intOf i).toNat)
 case atStart=>exact⟨0,rfl,Zk _,Yt w _,bq⟩
 obtain⟨i,rfl,hi,hnb,hbel⟩:=hrel.out
 clear hrel
 obtain⟨⟨x0,x1,x2,x3,x4,x5,x6,x7,x8,x9⟩,xf⟩:=Qy hnb
 have HNB:=hid hnb
 have HBEL:=hid hbel
 by_cases hlt:i<ps.length
 ·have hps':=HPS.out.below Qu hbel
  obtain⟨pb,po,hpa,hpb,hpc0,hpsz⟩:=hps'.at hlt
  rw[hpa] at x1
  rw[Z6] at hpc0
  generalize ps[i]=s at hpc0 hpsz
  have hie:(i:Int)<(ps.length:Int):=oq
  have hq:=QL s q
  clear hbel hnb hps' hpsz
  by_cases he:s=q
  ·rw[ZY he] at hq
   clear he
   go_wp2
   go_ret
   exact⟨⟨_,rfl⟩,HBEL.out⟩
  rw[ZX he] at hq
  clear he
  go_wp2
  exact⟨⟨i+1,by go_num,oq,HNB.out,HBEL.out⟩,by simp[intOf];omega⟩
 have hie:(i:Int)=(ps.length:Int):=oq
 clear hbel hnb
 go_wp2
 go_ret
 exact⟨⟨_,rfl⟩,HBEL.out⟩
def QK (e:PE):Prop:=∀(w:World) (nm nm1:ByteArray) (ps:List ByteArray) (pa:Option Addr) (pc:Nat) (bud k1 n1 d1 a1 fa:Int) (ad':Option Addr) (len cap':Nat) (ad:Option Addr) (cap:Nat),Row zu 1 w ps pa→ps.length≤1000→AE w e ad cap →
 Calls Tryz.prog 37 #[K7 nm nm1 ps pa pc bud k1 n1 d1 a1 fa ad' len cap',.agg #[.int .i64 e.k,.string e.nm,.int .i64 e.n,.int .i64 e.d,.slice ad e.args.len cap,.int .i64 e.a]] w fun x w'=>zt x∧Below w.heap.size w w'
def uE (w:World) (e:PE) (ad:Option Addr) (cap:Nat) (v0 v1 v2 v3 v4 v5 v6 v7 v8 v9:Value) (v:Value) (wr:World):Prop :=
 ∃(i:Nat) (rest:PL),v=.int .i64 (i:Int)∧X3 wr ad e.args rest i∧wr.heap[w.heap.size]?=some (.cells #[v0,v1,v2,v3,v4,v5,v6,v7,v8,v9] 94 (0,0)) ∧
  wr.heap[w.heap.size+1]?=some (.cells #[.int .i64 e.k,.string e.nm,.int .i64 e.n,.int .i64 e.d,.slice ad e.args.len cap,.int .i64 e.a] 92 (0,0))∧Below w.heap.size w wr
theorem xN (e:PE) (ih:∀e':PE,e'.args.sz<e.args.sz→QK e'):QK e:=by
 intro w nm nm1 ps pa pc bud k1 n1 d1 a1 fa ad' len cap' ad cap hps hpl hae
 obtain⟨k,nmE,n,d,args,a⟩:=e
 have hlen:=hae.len
 simp only at hlen ⊢
 have HA:=hid hae
 have HIH:=hid ih
 have HPS:=hid hps
 have HPM:=hid (fun(w':World) (h:Row zu 1 w' ps pa)=>vU (w:=w') nm nm1 nmE ps pa pc bud k1 n1 d1 a1 fa ad' len cap' h hpl)
 unfold K7 at HPM ⊢
 clear hae ih hps
 have main:∀(W:World),W.heap[w.heap.size]?=some (.cells #[.string nm,.slice pa ps.length pc,.int .i64 bud,.int .i64 k1,.string nm1,.int .i64 n1,.int .i64 d1,.slice ad' len cap',.int .i64 a1,.int .i64 fa] 94 (0,0)) →
   W.heap[w.heap.size+1]?=some (.cells #[.int .i64 k,.string nmE,.int .i64 n,.int .i64 d,.slice ad args.len cap,.int .i64 a] 92 (0,0))→Below w.heap.size w W→uE w ⟨k,nmE,n,d,args,a⟩ ad cap (.string nm) (.slice pa ps.length pc) (.int .i64 bud) (.int .i64 k1) (.string nm1) (.int .i64 n1) (.int .i64 d1) (.slice ad' len cap') (.int .i64 a1) (.int .i64 fa) (.int .i64 0) W:=fun W h1 h2 h3 =>
  ⟨0,args,rfl,(X3.start HA.out.args).below h3,h1,h2,h3⟩
 have HMAIN:=hid main
 clear main
 by_cases hk:k=11
 ·subst hk
  go_enter Tryz.func37,Tryz.ntmps37
  go_wp2_with (go_at_call 67;go_loud (refine(HPM.out _ (HPS.out.below Qu bq)).mono ?_;rintro x w1 ⟨⟨b,rfl⟩,hb1⟩;obtain⟨hc1,hf1⟩:=Yx hb1;cases b))
  all_goals (try (go_ret;exact⟨⟨_,rfl⟩,bq⟩))
  go_loopw [5] (fun v wr=>Hid (uE w ⟨11,nmE,n,d,args,a⟩ ad cap (.string nm) (.slice pa ps.length pc) (.int .i64 bud) (.int .i64 k1) (.string nm1) (.int .i64 n1) (.int .i64 d1) (.slice ad' len cap') (.int .i64 a1) (.int .i64 fa) v wr)) (fun i _=>args.len-(intOf i).toNat)
  case atStart=>exact HMAIN.out _ ((hb1.block _ oq).trans ((Za _ _ _ (by simp)).trans (Yt w _))) ((hb1.block _ oq).trans (by simpa using Yt (w.alloc _) _)) bq
  obtain⟨i,rest,rfl,hrest,hnb,heb,hbel⟩:=hrel.out
  clear hrel
  simp only at heb
  obtain⟨⟨x0,x1,x2,x3,x4,x5,x6,x7,x8,x9⟩,xf⟩:=Qy hnb
  obtain⟨⟨e0,e1,e2,e3,e4,e5⟩,ef⟩:=Y0 heb
  have HNB:=hid hnb
  have HEB:=hid heb
  have HBEL:=hid hbel
  have hil:=hrest.1
  simp only at hil
  have HRS:=hid hrest
  have hnlt:=Zb hnb
  have helt:=Zb heb
  clear hnb heb hrest
  cases rest with
  | nil =>
   have hil':(i:Int)=(args.len:Int):=by simp only[PL.len] at hil;omega
   clear hbel
   go_wp2
   go_ret
   exact⟨⟨_,rfl⟩,HBEL.out⟩
  | cons k9 nm9 n9 d9 args9 a9 tl =>
   have hil':(i:Int)<(args.len:Int):=by simp only[PL.len] at hil;omega
   obtain⟨b,o,rfl,hb,h0,h1,h2,h3,h5,hn,⟨ad1,cap1,h4,hcap1,hcm1,hd1⟩,ht⟩:=HRS.out.2.2.resolve_left (by intro h;cases h)
   have hsub:=HRS.out.2.1
   simp only[PL.sz] at hsub
   have HAX:=hid (show AE wr ⟨k9,nm9,n9,d9,args9,a9⟩ ad1 cap1 from ⟨hn,⟨hcap1,hcm1⟩,hd1⟩)
   have HC:=hid (fun(W':World) (hW:Below wr.heap.size wr W')=>HIH.out ⟨k9,nm9,n9,d9,args9,a9⟩ (by show args9.sz<args.sz;omega) W' nm nm1 ps pa pc bud k1 n1 d1 a1 fa ad' len cap' ad1 cap1 ((HPS.out.below Qu HBEL.out).below Qu hW) hpl (HAX.out.below hW))
   unfold K7 at HC
   simp only at HC
   clear hbel hn hd1 ht
   go_wp2
   go_region_with (go_at_call 37;refine(HC.out _ bq).mono ?_;rintro x w2 ⟨⟨b2,rfl⟩,hb2⟩)
   all_goals go_wp2
   all_goals first
    | (go_ret;exact⟨⟨_,rfl⟩,bq⟩)
    | (go_roundw;(case rel=>first|exact⟨i+1,tl,by go_num,HRS.out.tail.below bq,(hb2.block _ hnlt).trans HNB.out,(hb2.block _ helt).trans HEB.out,bq⟩|((repeat apply Ye);exact⟨⟨i+1,tl,by go_num,HRS.out.tail.below bq,(hb2.block _ hnlt).trans HNB.out,(hb2.block _ helt).trans HEB.out,bq⟩,rfl⟩));(case measure=>simp[intOf];omega))
 have hk':(k == 11)=false:=ZW.2 hk
 clear hk
 go_enter Tryz.func37,Tryz.ntmps37
 go_wp2
 go_loopw [5] (fun v wr=>Hid (uE w ⟨k,nmE,n,d,args,a⟩ ad cap (.string nm) (.slice pa ps.length pc) (.int .i64 bud) (.int .i64 k1) (.string nm1) (.int .i64 n1) (.int .i64 d1) (.slice ad' len cap') (.int .i64 a1) (.int .i64 fa) v wr)) (fun i _=>args.len-(intOf i).toNat)
 case atStart=>exact HMAIN.out _ ((Za _ _ _ (by simp)).trans (Yt w _)) (by simpa using Yt (w.alloc _) _) bq
 obtain⟨i,rest,rfl,hrest,hnb,heb,hbel⟩:=hrel.out
 clear hrel
 simp only at heb
 obtain⟨⟨x0,x1,x2,x3,x4,x5,x6,x7,x8,x9⟩,xf⟩:=Qy hnb
 obtain⟨⟨e0,e1,e2,e3,e4,e5⟩,ef⟩:=Y0 heb
 have HNB:=hid hnb
 have HEB:=hid heb
 have HBEL:=hid hbel
 have hil:=hrest.1
 simp only at hil
 have HRS:=hid hrest
 have hnlt:=Zb hnb
 have helt:=Zb heb
 clear hnb heb hrest
 cases rest with
 | nil =>
  have hil':(i:Int)=(args.len:Int):=by simp only[PL.len] at hil;omega
  clear hbel
  go_wp2
  go_ret
  exact⟨⟨_,rfl⟩,HBEL.out⟩
 | cons k9 nm9 n9 d9 args9 a9 tl =>
  have hil':(i:Int)<(args.len:Int):=by simp only[PL.len] at hil;omega
  obtain⟨b,o,rfl,hb,h0,h1,h2,h3,h5,hn,⟨ad1,cap1,h4,hcap1,hcm1,hd1⟩,ht⟩:=HRS.out.2.2.resolve_left (by intro h;cases h)
  have hsub:=HRS.out.2.1
  simp only[PL.sz] at hsub
  have HAX:=hid (show AE wr ⟨k9,nm9,n9,d9,args9,a9⟩ ad1 cap1 from ⟨hn,⟨hcap1,hcm1⟩,hd1⟩)
  have HC:=hid (fun(W':World) (hW:Below wr.heap.size wr W')=>HIH.out ⟨k9,nm9,n9,d9,args9,a9⟩ (by show args9.sz<args.sz;omega) W' nm nm1 ps pa pc bud k1 n1 d1 a1 fa ad' len cap' ad1 cap1 ((HPS.out.below Qu HBEL.out).below Qu hW) hpl (HAX.out.below hW))
  unfold K7 at HC
  simp only at HC
  clear hbel hn hd1 ht
  go_wp2
  go_region_with (go_at_call 37;refine(HC.out _ bq).mono ?_;rintro x w2 ⟨⟨b2,rfl⟩,hb2⟩)
  all_goals go_wp2
  all_goals first
   | (go_ret;exact⟨⟨_,rfl⟩,bq⟩)
   | (go_roundw;(case rel=>first|exact⟨i+1,tl,by go_num,HRS.out.tail.below bq,(hb2.block _ hnlt).trans HNB.out,(hb2.block _ helt).trans HEB.out,bq⟩|((repeat apply Ye);exact⟨⟨i+1,tl,by go_num,HRS.out.tail.below bq,(hb2.block _ hnlt).trans HNB.out,(hb2.block _ helt).trans HEB.out,bq⟩,rfl⟩));(case measure=>simp[intOf];omega))
theorem j3 (e:PE):QK e:=by
 suffices h:∀(N:Nat) (e:PE),e.args.sz<N→QK e from h _ e (ZU _)
 intro N
 induction N with
 | zero=>intro e h;omega
 | succ N ih=>intro e h;exact xN e (fun e' h'=>ih e' oq)
def nm1 (p:PG) (k:Int) (nm:ByteArray):Bool:=decide (k≠1)||decide (0≤YK p nm)
def nd1 (p:PG) (k:Int) (nm:ByteArray) (len:Nat):Bool:=decide (k≠2)||(match XN ND.nm nm p.nodes 0 with
 | some i=>decide ((p.nodes[i]?).map (fun x=>x.ps.length)=some len)
 | none=>false)
def nq1 (p:PG) (k:Int) (nm:ByteArray) (len:Nat):Bool:=nm1 p k nm&&nd1 p k nm len
def nqL (p:PG):PL→Bool
 | .nil=>true
 | .cons k nm n d args a tl=>(nq1 p k nm args.len&&nqL p args)&&nqL p tl
def Kj (p:PG) (e:PE) (x:Ending):Prop:=∃b:Bool,x=.returned (.bool b)∧(b=true→nq1 p e.k e.nm e.args.len=true∧nqL p e.args=true)
def J3 (p:PG) (an ai af ao:Option Addr) (cn ci cf co:Nat) (e:PE):Prop:=∀(w:World) (ad:Option Addr) (cap:Nat),AP w p an ai af ao cn ci cf co→AE w e ad cap →
 Calls Tryz.prog 39 #[pv p an ai af ao cn ci cf co,.agg #[.int .i64 e.k,.string e.nm,.int .i64 e.n,.int .i64 e.d,.slice ad e.args.len cap,.int .i64 e.a]] w fun x w'=>Kj p e x∧Below w.heap.size w w'
def jb (w:World) (p:PG) (an ai af ao:Option Addr) (cn ci cf co:Nat) (e:PE) (ad:Option Addr) (cap:Nat) (v:Value) (wr:World):Prop :=
 ∃(i:Nat) (rest:PL),v=.int .i64 (i:Int)∧X3 wr ad e.args rest i∧(nqL p rest=true→nqL p e.args=true)∧XS wr w.heap.size p an ai af ao cn ci cf co ∧
  wr.heap[w.heap.size+1]?=some (.cells #[.int .i64 e.k,.string e.nm,.int .i64 e.n,.int .i64 e.d,.slice ad e.args.len cap,.int .i64 e.a] 92 (0,0))∧Below w.heap.size w wr
theorem qg (p:PG) (an ai af ao:Option Addr) (cn ci cf co:Nat) (hl1:p.nodes.length≤1000) (hl2:p.ins.length≤1000) (hl3:p.flows.length≤1000) (e:PE) (ih:∀e':PE,e'.args.sz<e.args.sz→J3 p an ai af ao cn ci cf co e'):J3 p an ai af ao cn ci cf co e:=by
 intro w ad cap hp hae
 obtain⟨k,nmE,n,d,args,a⟩:=e
 have hlen:=hae.len
 simp only at hlen ⊢
 have HA:=hid hae
 have HIH:=hid ih
 have HP:=hid hp
 have HFL:=hid (fun(w':World) (h:Below w.heap.size w w')=>V4 (w:=w') p an ai af ao cn ci cf co nmE (HP.out.below h) hl2 hl3)
 have HND:=hid (fun(w':World) (h:Below w.heap.size w w')=>yz (w:=w') p an ai af ao cn ci cf co nmE (HP.out.below h) hl1)
 unfold pv at HFL HND ⊢
 have main:∀(W:World),XS W w.heap.size p an ai af ao cn ci cf co→W.heap[w.heap.size+1]?=some (.cells #[.int .i64 k,.string nmE,.int .i64 n,.int .i64 d,.slice ad args.len cap,.int .i64 a] 92 (0,0))→Below w.heap.size w W →
   jb w p an ai af ao cn ci cf co ⟨k,nmE,n,d,args,a⟩ ad cap (.int .i64 0) W:=fun W h1 h2 h3=>⟨0,args,rfl,(X3.start HA.out.args).below h3,fun h=>h,h1,h2,h3⟩
 have HMAIN:=hid main
 clear main hae ih hp
 by_cases hk:k=1
 ·subst hk
  by_cases hfx:YK p nmE<0
  ·have hfx':decide (YK p nmE<0)=true:=ZY hfx
   generalize hfi:YK p nmE=fi at HFL hfx hfx'
   clear hfi
   go_enter Tryz.func39,Tryz.ntmps39
   go_wp2_with (go_at_call 38;go_loud (refine(HFL.out _ bq).mono ?_;rintro x w1 ⟨rfl,hb1⟩;obtain⟨hc1,hf1⟩:=Yx hb1;have q1:w.heap.size<w1.heap.size:=Yv hb1 oq;have q2:w.heap.size+1<w1.heap.size:=Yv hb1 oq))
   go_ret
   exact⟨⟨false,rfl,fun h=>by cases h⟩,bq⟩
  have hfx0:0≤YK p nmE:=oq
  have HFX:=hid hfx0
  have hfx':decide (YK p nmE<0)=false:=ZX hfx
  generalize hfi:YK p nmE=fi at HFL hfx0 hfx hfx'
  clear hfi
  go_enter Tryz.func39,Tryz.ntmps39
  go_wp2_with (go_at_call 38;go_loud (refine(HFL.out _ bq).mono ?_;rintro x w1 ⟨rfl,hb1⟩;obtain⟨hc1,hf1⟩:=Yx hb1;have q1:w.heap.size<w1.heap.size:=Yv hb1 oq;have q2:w.heap.size+1<w1.heap.size:=Yv hb1 oq))
  have HK1:=hid (show nq1 p 1 nmE args.len=true from by unfold nq1 nm1 nd1;simp;exact HFX.out)
  go_loopw [6] (fun v wr=>Hid (jb w p an ai af ao cn ci cf co ⟨1,nmE,n,d,args,a⟩ ad cap v wr)) (fun i _=>args.len-(intOf i).toNat)
  case atStart=>exact HMAIN.out _ ((hb1.block _ oq).trans ((Za _ _ _ (by simp)).trans (Yt w _))) ((hb1.block _ oq).trans (by simpa using Yt (w.alloc _) _)) bq
  obtain⟨i,rest,rfl,hrest,hnmr,hpb,heb,hbel⟩:=hrel.out
  clear hrel
  simp only at heb hnmr
  unfold XS at hpb
  obtain⟨⟨z0,z1,z2,z3⟩,zf⟩:=Yu hpb
  obtain⟨⟨e0,e1,e2,e3,e4,e5⟩,ef⟩:=Y0 heb
  have HPB:=hid hpb
  have HEB:=hid heb
  have HBEL:=hid hbel
  have HNR:=hid hnmr
  have hil:=hrest.1
  simp only at hil
  have HRS:=hid hrest
  have hplt:=Zb hpb
  have helt:=Zb heb
  clear hpb heb hrest hnmr
  cases rest with
  | nil =>
   have hil':(i:Int)=(args.len:Int):=by simp only[PL.len] at hil;omega
   clear hbel
   go_wp2
   go_ret
   exact⟨⟨true,rfl,fun _=>⟨HK1.out,HNR.out rfl⟩⟩,HBEL.out⟩
  | cons k9 nm9 n9 d9 args9 a9 tl =>
   have hil':(i:Int)<(args.len:Int):=by simp only[PL.len] at hil;omega
   obtain⟨b,o,rfl,hb,h0,h1,h2,h3,h5,hn,⟨ad1,cap1,h4,hcap1,hcm1,hd1⟩,ht⟩:=HRS.out.2.2.resolve_left (by intro h;cases h)
   have hsub:=HRS.out.2.1
   simp only[PL.sz] at hsub
   have HAX:=hid (show AE wr ⟨k9,nm9,n9,d9,args9,a9⟩ ad1 cap1 from ⟨hn,⟨hcap1,hcm1⟩,hd1⟩)
   have HC:=hid (fun(W':World) (hW:Below wr.heap.size wr W')=>HIH.out ⟨k9,nm9,n9,d9,args9,a9⟩ (by show args9.sz<args.sz;omega) W' ad1 cap1 ((HP.out.below HBEL.out).below hW) (HAX.out.below hW))
   unfold pv Kj at HC
   simp only at HC
   clear hbel hn hd1 ht
   go_wp2
   go_region_with (go_at_call 39;refine(HC.out _ bq).mono ?_;rintro x w2 ⟨⟨b2,rfl,hb2t⟩,hb2⟩)
   all_goals cases b2
   all_goals go_wp2
   all_goals first
    | (go_ret;exact⟨⟨false,rfl,fun h=>by cases h⟩,bq⟩)
    | (go_roundw;(case rel=>first|exact⟨i+1,tl,by go_num,HRS.out.tail.below bq,fun h=>HNR.out (by rw[nqL,(hb2t rfl).1,(hb2t rfl).2,h];rfl),(hb2.block _ hplt).trans HPB.out,(hb2.block _ helt).trans HEB.out,bq⟩|((repeat apply Ye);exact⟨⟨i+1,tl,by go_num,HRS.out.tail.below bq,fun h=>HNR.out (by rw[nqL,(hb2t rfl).1,(hb2t rfl).2,h];rfl),(hb2.block _ hplt).trans HPB.out,(hb2.block _ helt).trans HEB.out,bq⟩,rfl⟩));(case measure=>simp[intOf];omega))
 have hk':(k == 1)=false:=ZW.2 hk
 have HKN:=hid hk
 by_cases hk2:k=2
 ·subst hk2
  clear hk
  cases hfs:XN ND.nm nmE p.nodes 0 with
  | none =>
   have hnx:XZ p nmE=-1:=by unfold XZ;rw[hfs]
   rw[hnx] at HND
   clear hfs hnx
   go_enter Tryz.func39,Tryz.ntmps39
   go_wp2_with (go_at_call 36;go_loud (refine(HND.out _ bq).mono ?_;rintro x w1 ⟨rfl,hb1⟩;obtain⟨hc1,hf1⟩:=Yx hb1;have q1:w.heap.size<w1.heap.size:=Yv hb1 oq;have q2:w.heap.size+1<w1.heap.size:=Yv hb1 oq))
   go_quiet (fail)
   go_wp2
   go_ret
   exact⟨⟨false,rfl,fun h=>by cases h⟩,bq⟩
  | some ni =>
   have hnx:XZ p nmE=(ni:Int):=by unfold XZ;rw[hfs]
   rw[hnx] at HND
   obtain⟨j,hj,xx,hxx,_⟩:=Vx _ _ _ _ _ hfs
   obtain rfl:ni=j:=oq
   clear hj
   have hnl:ni<p.nodes.length:=(Zz.1 hxx).1
   obtain⟨bb,oo,rfl,hbb0,hnd0⟩:=HP.out.nodes.at hnl
   obtain⟨_,⟨pa,pc,y1,hpl,hpc,_⟩,_⟩:=hnd0
   have hnl':(ni:Int)<(p.nodes.length:Int):=oq
   have HFS:=hid hfs
   generalize hplq:p.nodes[ni].ps.length=pl at y1 hpl
   have HPL:=hid hplq
   clear hfs hnx hxx hplq
   by_cases hll:pl=args.len
   ·have hll':((pl:Int) == (args.len:Int))=true:=by rw[beq_iff_eq];omega
    subst hll
    go_enter Tryz.func39,Tryz.ntmps39
    go_wp2_with (go_at_call 36;go_loud (refine(HND.out _ bq).mono ?_;rintro x w1 ⟨rfl,hb1⟩;obtain⟨hc1,hf1⟩:=Yx hb1;have q1:w.heap.size<w1.heap.size:=Yv hb1 oq;have q2:w.heap.size+1<w1.heap.size:=Yv hb1 oq;have y1':w1.cell? ⟨bb,oo+ni*10+1,none⟩=_:=(show Below w.heap.size w w1 from bq).cell (p:=⟨bb,oo+ni*10+1,none⟩) hbb0 |>.trans y1))
    go_quiet (fail)
    go_wp2
    have HK1:=hid (show nq1 p 2 nmE args.len=true from by unfold nq1 nm1 nd1;rw[HFS.out];simp[HPL.out,Ze hnl])
    go_loopw [6] (fun v wr=>Hid (jb w p (some ⟨bb,oo,none⟩) ai af ao cn ci cf co ⟨2,nmE,n,d,args,a⟩ ad cap v wr)) (fun i _=>args.len-(intOf i).toNat)
    case atStart=>exact HMAIN.out _ ((hb1.block _ oq).trans ((Za _ _ _ (by simp)).trans (Yt w _))) ((hb1.block _ oq).trans (by simpa using Yt (w.alloc _) _)) bq
    obtain⟨i,rest,rfl,hrest,hnmr,hpb,heb,hbel⟩:=hrel.out
    clear hrel
    simp only at heb hnmr
    unfold XS at hpb
    obtain⟨⟨z0,z1,z2,z3⟩,zf⟩:=Yu hpb
    obtain⟨⟨e0,e1,e2,e3,e4,e5⟩,ef⟩:=Y0 heb
    have HPB:=hid hpb
    have HEB:=hid heb
    have HBEL:=hid hbel
    have HNR:=hid hnmr
    have hil:=hrest.1
    simp only at hil
    have HRS:=hid hrest
    have hplt:=Zb hpb
    have helt:=Zb heb
    clear hpb heb hrest hnmr
    cases rest with
    | nil =>
     have hil':(i:Int)=(args.len:Int):=by simp only[PL.len] at hil;omega
     clear hbel
     go_wp2
     go_ret
     exact⟨⟨true,rfl,fun _=>⟨HK1.out,HNR.out rfl⟩⟩,HBEL.out⟩
    | cons k9 nm9 n9 d9 args9 a9 tl =>
     have hil':(i:Int)<(args.len:Int):=by simp only[PL.len] at hil;omega
     obtain⟨b,o,rfl,hb,h0,h1,h2,h3,h5,hn,⟨ad1,cap1,h4,hcap1,hcm1,hd1⟩,ht⟩:=HRS.out.2.2.resolve_left (by intro h;cases h)
     have hsub:=HRS.out.2.1
     simp only[PL.sz] at hsub
     have HAX:=hid (show AE wr ⟨k9,nm9,n9,d9,args9,a9⟩ ad1 cap1 from ⟨hn,⟨hcap1,hcm1⟩,hd1⟩)
     have HC:=hid (fun(W':World) (hW:Below wr.heap.size wr W')=>HIH.out ⟨k9,nm9,n9,d9,args9,a9⟩ (by show args9.sz<args.sz;omega) W' ad1 cap1 ((HP.out.below HBEL.out).below hW) (HAX.out.below hW))
     unfold pv Kj at HC
     simp only at HC
     clear hbel hn hd1 ht
     go_wp2
     go_region_with (go_at_call 39;refine(HC.out _ bq).mono ?_;rintro x w2 ⟨⟨b2,rfl,hb2t⟩,hb2⟩)
     all_goals cases b2
     all_goals go_wp2
     all_goals first
      | (go_ret;exact⟨⟨false,rfl,fun h=>by cases h⟩,bq⟩)
      | (go_roundw;(case rel=>first|exact⟨i+1,tl,by go_num,HRS.out.tail.below bq,fun h=>HNR.out (by rw[nqL,(hb2t rfl).1,(hb2t rfl).2,h];rfl),(hb2.block _ hplt).trans HPB.out,(hb2.block _ helt).trans HEB.out,bq⟩|((repeat apply Ye);exact⟨⟨i+1,tl,by go_num,HRS.out.tail.below bq,fun h=>HNR.out (by rw[nqL,(hb2t rfl).1,(hb2t rfl).2,h];rfl),(hb2.block _ hplt).trans HPB.out,(hb2.block _ helt).trans HEB.out,bq⟩,rfl⟩));(case measure=>simp[intOf];omega))
   have hll':((pl:Int) == (args.len:Int))=false:=by rw[ZW];omega
   have hlln:((pl:Int) != (args.len:Int))=true:=by rw[bne,hll'];rfl
   have hni0:decide ((ni:Int)<0)=false:=ZX oq
   have hlli:¬(pl:Int)=(args.len:Int):=oq
   go_enter Tryz.func39,Tryz.ntmps39
   go_wp2_with (go_at_call 36;go_loud (refine(HND.out _ bq).mono ?_;rintro x w1 ⟨rfl,hb1⟩;obtain⟨hc1,hf1⟩:=Yx hb1;have q1:w.heap.size<w1.heap.size:=Yv hb1 oq;have q2:w.heap.size+1<w1.heap.size:=Yv hb1 oq;have y1':w1.cell? ⟨bb,oo+ni*10+1,none⟩=_:=(show Below w.heap.size w w1 from bq).cell (p:=⟨bb,oo+ni*10+1,none⟩) hbb0 |>.trans y1))
   go_quiet (fail)
   go_wp2
   all_goals first|(go_ret;exact⟨⟨false,rfl,fun h=>by cases h⟩,bq⟩)|(exfalso;omega)
 have hk2':(k == 2)=false:=ZW.2 hk2
 have HKN2:=hid hk2
 clear hk hk2
 go_enter Tryz.func39,Tryz.ntmps39
 go_wp2
 have HK1:=hid (show nq1 p k nmE args.len=true from by unfold nq1 nm1 nd1;simp[HKN.out,HKN2.out])
 go_loopw [6] (fun v wr=>Hid (jb w p an ai af ao cn ci cf co ⟨k,nmE,n,d,args,a⟩ ad cap v wr)) (fun i _=>args.len-(intOf i).toNat)
 case atStart=>exact HMAIN.out _ ((Za _ _ _ (by simp)).trans (Yt w _)) (by simpa using Yt (w.alloc _) _) bq
 obtain⟨i,rest,rfl,hrest,hnmr,hpb,heb,hbel⟩:=hrel.out
 clear hrel
 simp only at heb hnmr
 unfold XS at hpb
 obtain⟨⟨z0,z1,z2,z3⟩,zf⟩:=Yu hpb
 obtain⟨⟨e0,e1,e2,e3,e4,e5⟩,ef⟩:=Y0 heb
 have HPB:=hid hpb
 have HEB:=hid heb
 have HBEL:=hid hbel
 have HNR:=hid hnmr
 have hil:=hrest.1
 simp only at hil
 have HRS:=hid hrest
 have hplt:=Zb hpb
 have helt:=Zb heb
 clear hpb heb hrest hnmr
 cases rest with
 | nil =>
  have hil':(i:Int)=(args.len:Int):=by simp only[PL.len] at hil;omega
  clear hbel
  go_wp2
  go_ret
  exact⟨⟨true,rfl,fun _=>⟨HK1.out,HNR.out rfl⟩⟩,HBEL.out⟩
 | cons k9 nm9 n9 d9 args9 a9 tl =>
  have hil':(i:Int)<(args.len:Int):=by simp only[PL.len] at hil;omega
  obtain⟨b,o,rfl,hb,h0,h1,h2,h3,h5,hn,⟨ad1,cap1,h4,hcap1,hcm1,hd1⟩,ht⟩:=HRS.out.2.2.resolve_left (by intro h;cases h)
  have hsub:=HRS.out.2.1
  simp only[PL.sz] at hsub
  have HAX:=hid (show AE wr ⟨k9,nm9,n9,d9,args9,a9⟩ ad1 cap1 from ⟨hn,⟨hcap1,hcm1⟩,hd1⟩)
  have HC:=hid (fun(W':World) (hW:Below wr.heap.size wr W')=>HIH.out ⟨k9,nm9,n9,d9,args9,a9⟩ (by show args9.sz<args.sz;omega) W' ad1 cap1 ((HP.out.below HBEL.out).below hW) (HAX.out.below hW))
  unfold pv Kj at HC
  simp only at HC
  clear hbel hn hd1 ht
  go_wp2
  go_region_with (go_at_call 39;refine(HC.out _ bq).mono ?_;rintro x w2 ⟨⟨b2,rfl,hb2t⟩,hb2⟩)
  all_goals cases b2
  all_goals go_wp2
  all_goals first
   | (go_ret;exact⟨⟨false,rfl,fun h=>by cases h⟩,bq⟩)
   | (go_roundw;(case rel=>first|exact⟨i+1,tl,by go_num,HRS.out.tail.below bq,fun h=>HNR.out (by rw[nqL,(hb2t rfl).1,(hb2t rfl).2,h];rfl),(hb2.block _ hplt).trans HPB.out,(hb2.block _ helt).trans HEB.out,bq⟩|((repeat apply Ye);exact⟨⟨i+1,tl,by go_num,HRS.out.tail.below bq,fun h=>HNR.out (by rw[nqL,(hb2t rfl).1,(hb2t rfl).2,h];rfl),(hb2.block _ hplt).trans HPB.out,(hb2.block _ helt).trans HEB.out,bq⟩,rfl⟩));(case measure=>simp[intOf];omega))
theorem vh (p:PG) (an ai af ao:Option Addr) (cn ci cf co:Nat) (hl1:p.nodes.length≤1000) (hl2:p.ins.length≤1000) (hl3:p.flows.length≤1000) (e:PE):J3 p an ai af ao cn ci cf co e:=by
 suffices h:∀(N:Nat) (e:PE),e.args.sz<N→J3 p an ai af ao cn ci cf co e from h _ e (ZU _)
 intro N
 induction N with
 | zero=>intro e h;omega
 | succ N ih=>intro e h;exact qg p an ai af ao cn ci cf co hl1 hl2 hl3 e (fun e' h'=>ih e' oq)
end Go.Proofs.YtlhlcdjiafdoeaaGreatDoor.syn
