/-
  Parts of the proof: DlR, Dl12, Dl13, Dl14.
-/
import Derived.Test.YtgigilkpndhddaaGreatDoorQ36
import Derived.Test.YtgigilkpndhddaaGreatDoorQ37
namespace Go.Proofs.YtgigilkpndhddaaGreatDoor.syn
set_option linter.unusedVariables false
set_option linter.unusedSimpArgs false
set_option linter.unnecessarySimpa false
set_option maxRecDepth 100000
set_option maxHeartbeats 16000000
open Go.RowKit Go.Sort
def X8 (d d':Array YA):Prop:=d'.size=d.size∧∀k:Nat,d'[k]!.t=d[k]!.t∧d'[k]!.n=d[k]!.n∧d'[k]!.r=d[k]!.r∧d'[k]!.na=d[k]!.na∧d'[k]!.nl=d[k]!.nl∧d'[k]!.nc=d[k]!.nc
theorem X8.refl (d:Array YA):X8 d d:=⟨rfl,fun k=>⟨rfl,rfl,rfl,rfl,rfl,rfl⟩⟩
theorem X8.trans {a b c:Array YA} (h:X8 a b) (k:X8 b c):X8 a c:=⟨k.1.trans h.1,fun i=>by
 obtain⟨h1,h2,h3,h4,h5,h6⟩:=h.2 i
 obtain⟨k1,k2,k3,k4,k5,k6⟩:=k.2 i
 exact⟨k1.trans h1,k2.trans h2,k3.trans h3,k4.trans h4,k5.trans h5,k6.trans h6⟩⟩
theorem U4 (d:Array YA) (p:Nat) (x:Int):X8 d (Xr d p x):=by
 refine⟨Jg d p x,fun k=>?_⟩
 by_cases hp:p<d.size
 ·unfold Xr
  rw[VV hp]
  by_cases e:k=p
  ·subst e;rw[Z2 rfl];exact⟨rfl,rfl,rfl,rfl,rfl,rfl⟩
  rw[Z1 e];exact⟨rfl,rfl,rfl,rfl,rfl,rfl⟩
 have:Xr d p x=d:=by unfold Xr;exact Array.setIfInBounds_eq_of_size_le oq
 rw[this]
 exact⟨rfl,rfl,rfl,rfl,rfl,rfl⟩
theorem yE {d:Array YA} {p:Nat} (hp:p<d.size) (x:Int) (k:Nat):(Xr d p x)[k]!.d=if k=p then min d[k]!.d x else d[k]!.d:=by
 unfold Xr
 rw[VV hp]
 by_cases e:k=p
 ·subst e;rw[Z2 rfl,Z2 rfl]
 rw[Z1 e,Z1 e]
theorem zZ (d:Array YA) (o:Option Int) (x:Int):X8 d (UI d o x):=by
 cases o with
 | none=>exact X8.refl d
 | some p=>exact U4 _ _ _
theorem GX (f:FD) (B:List (Nat × Nat)) (t:LD) (d:Array YA):∀n,X8 d (tellN f B t d n)
 | 0=>X8.refl d
 | n+1=>by rw[Vv];exact(GX f B t d n).trans (zZ _ _ _)
theorem QF (f:FD) (B:List (Nat × Nat)) (u:Int):∀(l:List LD) (d:Array YA),X8 d (QO f B u d l)
 | [],d=>X8.refl d
 | t::l,d=>(GX f B t d _).trans (QF f B u l _)
def DB (c:Nat) (d:Array YA):Prop:=∀p,p<d.size→-(1000*(c:Int))≤d[p]!.d∧d[p]!.d≤30000
theorem DB.bring {c:Nat} {d:Array YA} (h:DB c d) {p:Nat} {x:Int} (hx:-(1000*(c:Int))≤x):DB c (Xr d p x):=by
 intro k hk
 rw[Jg] at hk
 by_cases hp:p<d.size
 ·rw[yE hp]
  have:=h k hk
  split<;>omega
 have:Xr d p x=d:=by unfold Xr;exact Array.setIfInBounds_eq_of_size_le oq
 rw[this]
 exact h k hk
theorem DB.mono {c c':Nat} {d:Array YA} (h:DB c d) (hc:c≤c'):DB c' d:=fun p hp=>by have:=h p hp;omega
theorem DB.tellN {f:FD} {B:List (Nat × Nat)} {t:LD} (hr:1≤t.per∧0≤t.ph∧1≤t.dl) {d:Array YA} (h:DB 0 d):∀n,DB 0 (tellN f B t d n)
 | 0=>h
 | n+1=>by
  rw[Vv]
  have ih:=DB.tellN (f:=f) (B:=B) hr h n
  cases ho:Qa f B t.arg (n:Int) with
  | none=>exact ih
  | some p =>
   refine ih.bring ?_
   have:=Int.mul_nonneg (show 0≤(n:Int) by omega) (show 0≤t.per by omega)
   omega
theorem DB.tells {f:FD} {B:List (Nat × Nat)} {u:Int}:∀(l:List LD),(∀t∈l,1≤t.per∧0≤t.ph∧1≤t.dl)→∀{d:Array YA},DB 0 d→DB 0 (QO f B u d l)
 | [],_,d,h=>h
 | t::l,hl,d,h=>DB.tells l (fun x hx=>hl x (by simp[hx])) (DB.tellN (hl t (by simp)) h _)
def Vx (f:FD) (B:List (Nat × Nat)) (i:Nat):Int:=(f.nods.getD (tkO f (B.getD i (0,0)).1).node.toNat ⟨0,0⟩).bud
def bringL (x:Int) (d:Array YA) (l:List Int):Array YA:=l.foldl (fun d p=>Xr d p.toNat x) d
theorem xO {x:Int} {d:Array YA} {l:List Int} {m:Nat} (h:m<l.length):bringL x d (l.take (m+1))=Xr (bringL x d (l.take m)) l[m].toNat x:=by
 unfold bringL
 rw[Zv h,List.foldl_append]
 rfl
theorem Jj (x:Int):∀(l:List Int) (d:Array YA),X8 d (bringL x d l)
 | [],d=>X8.refl d
 | p::l,d=>(U4 d p.toNat x).trans (Jj x l _)
theorem DB.bringL {c:Nat} {x:Int} (hx:-(1000*(c:Int))≤x):∀(l:List Int) {d:Array YA},DB c d→DB c (bringL x d l)
 | [],d,h=>h
 | p::l,d,h=>DB.bringL hx l (h.bring hx)
theorem yg {x:Int}:∀(l:List Int) (d:Array YA),(∀p∈l,0≤p∧p.toNat<d.size)→∀k:Nat,(bringL x d l)[k]!.d≤d[k]!.d∧((k:Int)∈l→(bringL x d l)[k]!.d≤x)∧((k:Int)∉l→(bringL x d l)[k]!.d=d[k]!.d)
 | [],d,_,k=>⟨Int.le_refl _,(fun h=>by cases h),fun _=>rfl⟩
 | p::l,d,hl,k=>by
  have hp:=hl p (by simp)
  have ih:=yg (x:=x) l (Xr d p.toNat x) (fun q hq=>by rw[Jg];exact hl q (by simp[hq])) k
  have hd:=yE hp.2 x k
  have e:bringL x d (p::l)=bringL x (Xr d p.toNat x) l:=rfl
  rw[e]
  by_cases hk:k=p.toNat
  ·rw[Z2 hk] at hd
   have hkp:(k:Int)=p:=oq
   refine⟨oq,fun _=>oq,fun hn=>absurd (by rw[hkp];simp) hn⟩
  rw[Z1 hk] at hd
  have hkp:(k:Int)≠p:=oq
  refine⟨oq,fun hm=>ih.2.1 ((ZR.1 hm).resolve_left hkp),fun hn=>by rw[ih.2.2 (fun h=>hn (by simp[h])),hd]⟩
def Zav (f:FD) (B:List (Nat × Nat)) (d:Array YA) (i:Nat):Array YA:=bringL (d[i]!.d-Vx f B i) d (YT f B i)
def adjN (f:FD) (B:List (Nat × Nat)) (d:Array YA):Nat→Array YA
 | 0=>d
 | k+1=>Zav f B (adjN f B d k) (B.length-1-k)
theorem Q0 (f:FD) (B:List (Nat × Nat)) (d:Array YA):∀k,X8 d (adjN f B d k)
 | 0=>X8.refl d
 | k+1=>(Q0 f B d k).trans (Jj _ _ _)
theorem zL {f:FD} {order:List Int} {u:Int} {B:List (Nat × Nat)} (hB:Xv f order u B) (ho:YN f order) (hr:RgF f) {i:Nat} (hi:i<B.length):1≤Vx f B i∧Vx f B i≤1000:=by
 have hb:B[i]?=some (B.getD i (0,0)):=by rw[Zf,Ze hi];rfl
 obtain⟨⟨t,n⟩,hbb⟩:∃b,B.getD i (0,0)=b:=⟨_,rfl⟩
 unfold Vx
 rw[hbb] at hb ⊢
 have hm:=(hB.mem ho).1 (Ya hb)
 obtain⟨k,h1,h2,h3,h4⟩:=hr.node t hm.1
 rw[h1,ZQ,Zf,Ze h2]
 exact⟨h3,h4⟩
theorem DB.adjN {f:FD} {order:List Int} {u:Int} {B:List (Nat × Nat)} (hB:Xv f order u B) (ho:YN f order) (hr:RgF f) {d:Array YA} (hd:d.size=B.length) (h:DB 0 d):∀k,k≤B.length→DB k (adjN f B d k)
 | 0,_=>h
 | k+1,hk=>by
  have ih:=DB.adjN hB ho hr hd h k oq
  have hs:=(Q0 f B d k).1
  have h1:=ih (B.length-1-k) oq
  have h2:=zL hB ho hr (i:=B.length-1-k) oq
  show DB (k+1) (syn.bringL _ _ _)
  exact DB.bringL oq _ (ih.mono (Nat.le_succ k))
theorem Et {f:FD} {order:List Int} {u:Int} {B:List (Nat × Nat)} (hB:Xv f order u B) (ho:YN f order) (hr:RgF f) {d:Array YA} (hd:d.size=B.length):∀k,k≤B.length→∀i,B.length-k≤i→i<B.length→∀p:Nat,(p:Int)∈YT f B i→(adjN f B d k)[p]!.d≤(adjN f B d k)[i]!.d-Vx f B i
 | 0,_,i,h1,h2,_,_=>oq
 | k+1,hk,i,h1,h2,p,hp=>by
  have hs:=(Q0 f B d k).1
  obtain⟨i0,hi0⟩:∃i0,B.length-1-k=i0:=⟨_,rfl⟩
  have hb:i0<B.length:=oq
  have hin:∀q∈YT f B i0,0≤q∧q.toNat<(adjN f B d k).size:=fun q hq=>by
   obtain⟨q',rfl,hlt⟩:=Kj hB ho hr hb hq
   rw[hs,hd]
   omega
  have e:adjN f B d (k+1)=bringL ((adjN f B d k)[i0]!.d-Vx f B i0) (adjN f B d k) (YT f B i0):=by show Zav f B _ (B.length-1-k)=_;rw[hi0];rfl
  have hnot:∀j:Nat,i0≤j→(j:Int)∉YT f B i0:=fun j hj hm=>by
   obtain⟨q',hq,hlt⟩:=Kj hB ho hr hb hm
   omega
  have hL:=fun j=>yg (x:=(adjN f B d k)[i0]!.d-Vx f B i0) (YT f B i0) (adjN f B d k) hin j
  rw[e]
  by_cases hi:i=i0
  ·subst hi
   have h3:=(hL i).2.2 (hnot i (Zc _))
   have h4:=(hL p).2.1 hp
   rw[h3]
   exact h4
  have h3:=(hL i).2.2 (hnot i oq)
  have h4:=(hL p).1
  have ih:=Et hB ho hr hd k oq i oq h2 p hp
  rw[h3]
  omega
theorem JH.inj {W:World} {g:Nat} {d d':Array YA} (h:JH W g 0 d) (h':JH W g 0 d') {i:Nat} (hi:i<d.size) (hi':i<d'.size):d[i]! = d'[i]!:=by
 obtain⟨⟨a0,a1,a2,a3,a4⟩,_⟩:=h.cell hi
 obtain⟨⟨b0,b1,b2,b3,b4⟩,_⟩:=h'.cell hi'
 rw[a0] at b0;rw[a1] at b1;rw[a2] at b2;rw[a3] at b3;rw[a4] at b4
 obtain⟨x,hx⟩:∃x,d[i]! = x:=⟨_,rfl⟩
 obtain⟨y,hy⟩:∃y,d'[i]! = y:=⟨_,rfl⟩
 rw[hx,hy] at b0 b1 b2 b3 b4 ⊢
 obtain⟨x0,x1,x2,x3,x4,x5,x6⟩:=x
 obtain⟨y0,y1,y2,y3,y4,y5,y6⟩:=y
 simp only[Option.some.injEq,Value.int.injEq,Value.slice.injEq,true_and] at b0 b1 b2 b3 b4
 obtain⟨e4,e5,e6⟩:=b4
 subst b0;subst b1;subst b2;subst b3;subst e4;subst e5;subst e6
 rfl
open Go.RowKit Go.Sort Go.Shelf
attribute [local go_sem] ZT
def RB' (ja:Option Addr) (N:Nat) (W:World):Prop:=N=0∨∃g d,ja=some ⟨g,0,none⟩∧JH W g 0 d∧d.size=N
def Zcs (ja:Option Addr) (N:Nat) (pre:List (Nat × YA)) (x:Nat × YA) (W:World):Prop:=pre.length<N∧x.1=N-1-pre.length∧∃g d,ja=some ⟨g,0,none⟩∧JH W g 0 d∧d.size=N∧x.2=d[x.1]!
def jvs (x:Nat × YA):Array Value:=#[.int .i64 (x.1:Int),.agg #[.int .i64 x.2.t,.int .i64 x.2.n,.int .i64 x.2.r,.int .i64 x.2.d,.slice x.2.na x.2.nl x.2.nc]]
theorem Zai (ja:Option Addr) (cj N:Nat) (hN:N≤1000000) (b1 n l:Nat) (J:List (Nat × YA)→World→Prop) (W:World) (hJ:OwnFrom W.heap.size J) (hR:∀pre W1,J pre W1→RB' ja N W1)
  (hY:∀m pre x W1,J pre W1→Zcs ja N pre x W1→YieldAt Fence.wide m Tryz.prog l (jvs x) W1 fun e W'=>e=.returned (.bool true)∧J (pre++[x]) W'∧KD b1 b1 W1 W')
  (hb1:Boxed W b1 37 (.slice ja N cj)) (h0:J [] W) :
  CallsIn Fence.wide n Tryz.prog 115 #[.func (.yield l) #[] #[],.pointer (some ⟨b1,0,none⟩)] W fun e W'=>(∃v,e=.returned v)∧∃xs,xs.length=N∧J xs W':=by
 have HY:=hid hY
 have HR:=hid hR
 have HB1:=hid hb1
 have HJ0:=hid h0
 have hcx:=hb1.cell
 have v0:IntKind.i64.wrap ((N:Int)-1)=(N:Int)-1:=ZK _ oq
 clear hY hR hb1 h0 hJ
 refine callsIn_of_wp Tryz.func115 rfl trivial ?_ rfl
 simp only[Tryz.ntmps115,ZI,Zp,Zw,Nat.reduceAdd,Nat.reduceSub,ZF,ZE,ZL,ZJ,ZM,ZC]
 gi_wp2
 clear hcx
 gi_loopw [3] (fun v wr=>Hid (∃(k:Nat) (ys:List (Nat × YA)),v=.int .i64 ((k:Int)-1)∧k≤N∧ys.length+k=N∧J ys wr∧KD b1 b1 W wr)) (fun i _=>(intOf i+1).toNat)
 case atStart=>exact⟨N,[],by first|rfl|(rw[v0])|(go_num;rw[v0]),Zc _,by simp,HJ0.out,KD.refl _ _ _⟩
 obtain⟨k,ys,hv,hk,hys,hj,hkd⟩:=hrel.out
 clear hrel
 have hbx:Boxed wr b1 37 (.slice ja N cj):=hkd b1 (.inl rfl) _ HB1.out rfl
 have hcx:=hbx.cell
 have HK:=hid hkd
 have HJY:=hid hj
 have HYS:=hid hys
 have hrb:=HR.out _ _ hj
 clear hkd hj hys hbx
 cases k with
 | zero =>
  obtain rfl:=hv
  have e1:((0:Nat):Int)-1=-1:=rfl
  try rw[e1]
  clear hrb
  gi_wp2
  go_end0
  exact⟨⟨_,rfl⟩,ys,by have:=HYS.out;omega,HJY.out⟩
 | succ j =>
  have e1:((j+1:Nat):Int)-1=(j:Int):=oq
  rw[e1] at hv
  obtain rfl:=hv
  clear e1
  obtain⟨g,d,hja,hjh,hds⟩:=hrb.resolve_left oq
  obtain⟨⟨y0,y1,y2,y3,y4⟩,_⟩:=hjh.cell (i:=j) oq
  have hyl:=HYS.out
  have HOK:=hid (show Zcs ja N ys (j,d[j]!) wr from ⟨oq,by show j=_;omega,g,d,hja,hjh,hds,rfl⟩)
  obtain⟨z,hz⟩:∃z,d[j]! = z:=⟨_,rfl⟩
  rw[hz] at y0 y1 y2 y3 y4 HOK
  obtain⟨z0,z1,z2,z3,z4,z5,z6⟩:=z
  simp only[ZD] at y0 y1 y2 y3 y4
  obtain⟨fn,tmps,assign,body,hy,hRR⟩:=HY.out (n-1) ys _ wr HJY.out HOK.out
  unfold jvs at hy
  simp only at hy
  have HRR:=hid hRR
  have j0:(0:Int)≤(j:Int):=oq
  have j1:(j:Int)<(N:Int):=oq
  subst hja
  clear hjh hds hz hRR hyl
  gi_wp2
  refine⟨(fun h=>by cases h),HRR.out.mono ?_⟩
  rintro e W1 ⟨rfl,hJ1,hk1⟩
  have HJ1:=hid hJ1
  have HK1:=hid (HK.out.trans hk1)
  clear hJ1 hk1
  gi_wp2
  go_roundw
  case rel=>exact⟨j,ys++[_],by go_num,oq,by have:=HYS.out;simp;omega,HJ1.out,HK1.out⟩
  first|(simp[intOf];done)|(simp[intOf];omega)
theorem vw (ja:Option Addr) (cj N:Nat) (hN:N≤1000000) (b1 n:Nat) (w:World) (hb1:Boxed w b1 37 (.slice ja N cj)) :
  Zbl Fence.wide n Tryz.prog 115 #[.pointer (some ⟨b1,0,none⟩)] jvs (RB' ja N) (Zcs ja N) (KD b1 b1) (fun xs=>xs.length=N) w:=fun l J W hW hJ hR hY h0 =>
 Zai ja cj N hN b1 n l J W hJ hR (fun m pre x W1 hj ho=>YieldAt.deep rfl m (hY pre x W1 hj ho)) ((hW.block _ hb1.lt).trans hb1) h0
theorem vE {w:World} (a:Option Addr) (n c:Nat):Calls Tryz.prog 73 #[.slice a n c] w fun e w'=>e=.returned (.func (.func 115) #[] #[.pointer (some ⟨w.heap.size,0,none⟩)])∧w'=w.alloc (.cells #[.slice a n c] 37):=by
 go_enter Tryz.func73,Tryz.ntmps73
 go_wp2
 go_ret
 exact⟨rfl,rfl⟩
attribute [local go_sem] ZT
theorem Zcc {t:Array Value} (h:t.size=47):t=#[slt t 0,slt t 1,slt t 2,slt t 3,slt t 4,slt t 5,slt t 6,slt t 7,slt t 8,slt t 9,slt t 10,slt t 11,slt t 12,slt t 13,slt t 14,slt t 15,slt t 16,slt t 17,slt t 18,slt t 19,slt t 20,slt t 21,slt t 22,slt t 23,slt t 24,slt t 25,slt t 26,slt t 27,slt t 28,slt t 29,slt t 30,slt t 31,slt t 32,slt t 33,slt t 34,slt t 35,slt t 36,slt t 37,slt t 38,slt t 39,slt t 40,slt t 41,slt t 42,slt t 43,slt t 44,slt t 45,slt t 46]:=Jn h
theorem ed {f:FD} {w:World} {an:Option Addr} (h:Row NdR 10 w f.nods an) {k:Nat} (hk:k<f.nods.length):∃b o,an=some ⟨b,o,none⟩∧b<w.heap.size∧w.cell? ⟨b,o+k*10+2,none⟩=some (.int .i64 f.nods[k].bud):=by
 obtain⟨b,o,rfl,hb,nm,pa,pc,k1,nm2,n2,d2,ea,el,ec,a2,a,h0,h1,h2,_⟩:=h.at hk
 exact⟨b,o,rfl,hb,h2⟩
def S3 (bw wb b3 bt ot t bn on k:Nat) (nN cn T ct:Nat) (bud:Int) (w':World):Prop:=w'.cell? ⟨bw,0,none⟩=some (.pointer (some ⟨wb,0,none⟩))∧w'.cell? ⟨wb,1,none⟩=some (.slice (some ⟨bn,on,none⟩) nN cn)∧w'.cell? ⟨wb,2,none⟩=some (.slice (some ⟨bt,ot,none⟩) T ct)∧w'.cell? ⟨b3,0,none⟩=some (.int .i64 (t:Int))∧w'.cell? ⟨bt,ot+t*4,none⟩=some (.int .i64 (k:Int))∧w'.cell? ⟨bn,on+k*10+2,none⟩=some (.int .i64 bud)
theorem yV (f:FD) (B:List (Nat × Nat)) (i:Nat):(YT f B i).length≤(tkO f (B.getD i (0,0)).1).args.length:=by
 unfold YT
 have h:=QB ((Vo f B i).mergeSort (fun x y=>decide (x≤y)))
 rw[List.length_mergeSort] at h
 have h2:(Vo f B i).length≤(tkO f (B.getD i (0,0)).1).args.length:=List.length_filterMap_le _ _
 omega
def Zch (w:World) (f:FD) (ai an aT al:Option Addr) (ci cn ct cl:Nat) (u:Int) (wb pb cp:Nat) (ja:Option Addr) (cj:Nat) (B:List (Nat × Nat)) (d:Array YA) (e:Ending) (w':World):Prop :=
 e=.returned (.tuple #[])∧Qs w' f ai an aT al ci cn ct cl u wb pb cp ja cj B (adjN f B d B.length)∧But (fun b=>jaB ja=some b) w w'
def Zdt (W:World) (b:Nat) (x:YA):Prop:=W.heap[b]?=some (.cells #[.int .i64 x.t,.int .i64 x.n,.int .i64 x.r,.int .i64 x.d,.slice x.na x.nl x.nc] 43 (0,0))
theorem yJ {wS w:World} (f:FD) (ai an aT al:Option Addr) (ci cn ct cl:Nat) (hf:FAP wS f ai an aT al) (hlow:RowKit.Below wS.heap.size wS w) (hr:RgF f) (order:List Int) (ho:YN f order) (u:Int) (B:List (Nat × Nat)) (hB:Xv f order u B) (wb pb cp:Nat) (ja:Option Addr) (cj:Nat)
  (hge:∀b,jaB ja=some b→wS.heap.size≤b) (d:Array YA) (hw:Qs w f ai an aT al ci cn ct cl u wb pb cp ja cj B d) (hN:B.length≤1000000)
  (hbase:∀k,k<B.length→d[k]!.t=((B.getD k (0,0)).1:Int)) (hnd:∀k,k<B.length→d[k]!.nl=(YT f B k).length∧∀W',BC (fun b=>jaB ja=some b) w W'→Row Uz 1 W' (YT f B k) d[k]!.na) (hdb:DB 0 d) :
  Calls Tryz.prog 27 #[.pointer (some ⟨wb,0,none⟩)] w (Zch w f ai an aT al ci cn ct cl u wb pb cp ja cj B d):=by
 have hlens:=hf.lens
 have hds:=hw.sz
 have HTK:=hid (fun(W:World) (h1:RowKit.Below wS.heap.size wS W)=>hf.tasks.below Gq h1)
 have HNK:=hid (fun(W:World) (h1:RowKit.Below wS.heap.size wS W)=>hf.nods.below ZbF h1)
 have HDBN:=hid (DB.adjN hB ho hr hds hdb)
 have HND:=hid hnd
 have HLT:=hid (fun i (hi:i<B.length) (x:Int) (hx:x∈YT f B i)=>Kj hB ho hr hi hx)
 have HBU:=hid (fun i (hi:i<B.length)=>zL hB ho hr hi)
 have HTN:=hid (fun i (hi:i<B.length)=>(show ∃t k:Nat,(B.getD i (0,0)).1=t∧d[i]!.t=(t:Int)∧t<f.tasks.length∧(tkO f t).node=(k:Int)∧∃h:k<f.nods.length,Vx f B i=f.nods[k].bud from by
  have hb:B[i]?=some (B.getD i (0,0)):=by rw[Zf,Ze hi];rfl
  have ht:=hbase i hi
  have hbu:Vx f B i=(f.nods.getD (tkO f (B.getD i (0,0)).1).node.toNat ⟨0,0⟩).bud:=rfl
  obtain⟨⟨t,n⟩,hbb⟩:∃b,B.getD i (0,0)=b:=⟨_,rfl⟩
  rw[hbb] at hb ht hbu
  rw[hbb]
  have hm:=(hB.mem ho).1 (Ya hb)
  obtain⟨k,h1,h2,_⟩:=hr.node t hm.1
  refine⟨t,k,rfl,ht,hm.1,h1,h2,?_⟩
  rw[hbu,h1,ZQ,Zf,Ze h2]
  rfl))
 have HAL:=hid (fun t (ht:t<f.tasks.length)=>(show(tkO f t).args.length≤1000 from by rw[←VL ht];exact(hf.args _ (Zi ht)).1))
 have HGL:=hid (show 0<B.length→∀b,jaB ja=some b→b<w.heap.size from fun h0 b e=>by
  obtain⟨g,e2,hj⟩:=hw.jobs.resolve_left oq
  subst e2
  injection e with e
  subst e
  exact hj.lt)
 have HSM:=hid (fun k=>Q0 f B d k)
 have HGE:=hid hge
 have HLOW:=hid hlow
 have HW:=hid hw
 have hszw:=hlow.size
 obtain⟨N,hNN⟩:∃N,B.length=N:=⟨_,rfl⟩
 have HNN:=hid hNN
 rw[hNN] at hN hds HDBN HND HLT HBU HTN HGL
 clear hf hlow hr ho hB hge hw hlens hNN hbase hnd hdb
 refine(Zt (n:=6)).1 ?_
 refine callsIn_of_wp_marks Tryz.func27 rfl trivial ?_ rfl
 simp only[Tryz.ntmps27,ZI,Zp,Zw,Nat.reduceAdd,Nat.reduceSub,ZF,ZE,ZL,ZJ,ZM,ZC]
 gi_upto_region 1 with fail
 obtain⟨W0,hW0⟩:∃W0,w.alloc (.cells #[.pointer (some ⟨wb,0,none⟩)] 80)=W0:=⟨_,rfl⟩
 have hb0:RowKit.Below w.heap.size w W0:=by rw[←hW0];exact bq
 have hs0:w.heap.size<W0.heap.size:=by rw[←hW0];simp
 have hx0:Boxed W0 w.heap.size 80 (.pointer (some ⟨wb,0,none⟩)):=by rw[←hW0];exact Boxed.new _ _ _
 rw[hW0]
 clear hW0
 have HW0:=hid (HW.out.below hb0)
 obtain⟨⟨c0,c1,c2,c3,c4,c5,c6⟩,cf⟩:=YS HW0.out.box
 rw[hds] at c5
 have cx:=hx0.cell
 have HX0:=hid hx0
 have HBT0:=hid (But.of_below (S:=fun b=>jaB ja=some b) hb0)
 clear c0 c1 c2 c3 c4 c6 cf hx0 hb0
 gi_wp2_with (refine⟨trivial,?_⟩;gi_at_call 73;refine(Zt.2 (vE _ _ _)).mono ?_;rintro e w' ⟨rfl,rfl⟩)
 clear c5 cx
 obtain⟨W2,hW2⟩:∃W2,W0.alloc (.cells #[.slice ja N cj] 37)=W2:=⟨_,rfl⟩
 have hb2:RowKit.Below W0.heap.size W0 W2:=by rw[←hW2];exact bq
 have hs2:W0.heap.size<W2.heap.size:=by rw[←hW2];simp
 have hx2:Boxed W2 W0.heap.size 37 (.slice ja N cj):=by rw[←hW2];exact Boxed.new _ _ _
 rw[hW2]
 clear hW2
 have HI2:=hid (Zh (HW0.out.below hb2) (Zh ((hb2.block _ HX0.out.lt).trans HX0.out) (HBT0.out.then (But.of_below (S:=fun _=>False) hb2) (fun _ _ e=>e.elim))))
 have HX2:=hid hx2
 clear hb2 hx2 HW0 HX0 HBT0
 refine GT (F:=Fence.wide) (gf:=115) (lb:=#[.pointer (some ⟨W0.heap.size,0,none⟩)]) rfl oq rfl trivial (enters_of Tryz.func115 kq rfl)
  (vw ja cj N hN W0.heap.size _ W2 HX2.out) (fun h k=>h.trans k) (fun W l o o' _ h hc=>KD.putObj W l o o' h hc) (fun W W' h=>KD.of_below h) (fun _=>rfl)
  (fun pre W=>Qs W f ai an aT al ci cn ct cl u wb pb cp ja cj B (adjN f B d pre.length)∧Boxed W w.heap.size 80 (.pointer (some ⟨wb,0,none⟩))∧But (fun b=>jaB ja=some b) w W)
  (fun s A C row hs hg hrw=>by
   obtain⟨g1,g2,g3⟩:=hs
   exact⟨g1.bcE (Gg hg (fun r e=>(hrw r e).2)),boxed_own _ _ (fun(_:Unit)=>Value.pointer (some ⟨wb,0,none⟩)) () A C row g2 hg (fun r e=>(hrw r e).2),g3.then (But.of_grown hg) (fun k hk e=>by have:=(hrw k e).1;omega)⟩)
  (fun pre W h=>by
   by_cases h0:N=0
   ·exact .inl h0
   have hz:=h.1.sz
   rw[HNN.out] at hz
   obtain⟨g,h1,h2⟩:=h.1.jobs.resolve_left oq
   exact .inr ⟨g,_,h1,h2,hz⟩) HI2.out
  (fun pre y a' W=>(pre.length<N∧y.1=N-1-pre.length∧y.2=(adjN f B d pre.length)[N-1-pre.length]!)∧∃b3,w.heap.size≤b3∧Zdt W b3 y.2∧a'.tmps.size=47∧slt a'.tmps 1=.pointer (some ⟨w.heap.size,0,none⟩)∧slt a'.tmps 3=.pointer (some ⟨b3,0,none⟩)∧a'.defers=[])
  (fun pre y a' s A C row hs hg hrw=>by
   obtain⟨h1,b3,h2,h3,h4⟩:=hs
   exact⟨h1,b3,h2,Xf h3 hg (fun r e=>(hrw r e).2),h4⟩) ?assign ?body ?done
 case assign =>
  rintro l pre ⟨i,y⟩ W K hi ⟨hx,hyi,g,d',hja,hjh,hdz,hy⟩ hK
  simp only at hyi hy
  have hzz:=hi.1.sz
  rw[HNN.out] at hzz
  obtain⟨g2,hja2,hjh2⟩:=hi.1.jobs.resolve_left oq
  rw[hja] at hja2
  injection hja2 with hja2
  injection hja2 with hja2
  subst hja2
  have hyy:y=(adjN f B d pre.length)[N-1-pre.length]!:=by rw[hy,←hyi];exact hjh.inj hjh2 oq oq
  have HYY:=hid hyy
  have HIN:=hid hi
  have hwl:=hi.2.2.size
  clear hy hyy hjh hjh2 hi hja
  obtain⟨y0,y1,y2,y3,y4,y5,y6⟩:=y
  unfold jvs
  simp only
  gi_wp2
  exact hK _ _ ((RowKit.Below.refl _ _).alloc (Zc _) _) ⟨HIN.out.1.below ((RowKit.Below.refl _ _).alloc (Zc _) _),HIN.out.2.1.alloc _,HIN.out.2.2.then (But.of_below (S:=fun _=>False) ((RowKit.Below.refl _ _).alloc (Zc _) _)) (fun _ _ e=>e.elim)⟩ ⟨⟨hx,hyi,HYY.out⟩,W.heap.size,hwl,Yp W _,by simp,by simp[slt],by simp[slt],rfl⟩
 case body =>
  rintro l pre ⟨i,y⟩ ⟨t,dd⟩ W hl hr ⟨g1,g2,g3⟩ ⟨⟨hx,hyi,hyy⟩,b3,hb3,hjb,hsz,s1,s3,hd⟩
  simp only at hsz s1 s3 hd hyi hyy
  subst hd
  rw[Zcc hsz,s1,s3]
  generalize slt t 0=u0,slt t 2=u2,slt t 4=u4,slt t 5=u5,slt t 6=u6,slt t 7=u7,slt t 8=u8,slt t 9=u9,slt t 10=u10,slt t 11=u11,slt t 12=u12,slt t 13=u13,slt t 14=u14,slt t 15=u15,slt t 16=u16,slt t 17=u17,slt t 18=u18,slt t 19=u19,slt t 20=u20,slt t 21=u21,slt t 22=u22,slt t 23=u23,slt t 24=u24,slt t 25=u25,slt t 26=u26,slt t 27=u27,slt t 28=u28,slt t 29=u29,slt t 30=u30,slt t 31=u31,slt t 32=u32,slt t 33=u33,slt t 34=u34,slt t 35=u35,slt t 36=u36,slt t 37=u37,slt t 38=u38,slt t 39=u39,slt t 40=u40,slt t 41=u41,slt t 42=u42,slt t 43=u43,slt t 44=u44,slt t 45=u45,slt t 46=u46
  clear hsz s1 s3 t
  have hiN:i<N:=oq
  obtain⟨t,k,hbt,htd,htT,hnk,hkn,hbud⟩:=HTN.out i hiN
  have hbb:=HBU.out i hiN
  rw[hbud] at hbb
  obtain⟨dk,hdk⟩:∃dk,adjN f B d pre.length=dk:=⟨_,rfl⟩
  rw[hdk] at g1 hyy
  have hsm:X8 d dk:=by rw[←hdk];exact HSM.out pre.length
  have hdbk:DB pre.length dk:=by rw[←hdk];exact HDBN.out pre.length oq
  have hdks:dk.size=N:=by rw[hsm.1];exact hds
  rw[←hyi] at hyy
  obtain⟨y0,y1,y2,y3,y4,y5,y6⟩:=y
  obtain⟨m0,m1,m2,m3,m4,m5⟩:=hsm.2 i
  have hnd:=HND.out i hiN
  have hyd:=hdbk i oq
  rw[←hyy] at m0 m1 m2 m3 m4 m5 hyd
  simp only at m0 m3 m4 hyd
  rw[htd] at m0
  rw[hnd.1] at m4
  have hrowN:=hnd.2
  rw[←m3] at hrowN
  subst m0
  have hml:=yV f B i
  rw[hbt] at hml
  have hal:=HAL.out t htT
  obtain⟨nds,hnds⟩:∃nds,YT f B i=nds:=⟨_,rfl⟩
  rw[hnds] at hml
  have hltN:=HLT.out i hiN
  rw[hnds] at m4 hrowN hltN
  obtain⟨M,hM⟩:∃M,nds.length=M:=⟨_,rfl⟩
  rw[hM] at m4 hml
  have hM1:M≤1000:=oq
  clear hml hal
  replace m4:=m4.symm
  subst m4
  obtain⟨bud,hbd⟩:∃bud,f.nods[k].bud=bud:=⟨_,rfl⟩
  rw[hbd] at hbb hbud
  have HADJ:=hid (show adjN f B d (pre++[(i,(⟨(t:Int),y1,y2,y3,y4,M,y6⟩:YA))]).length=bringL (y3-bud) dk nds from by
   have e1:(pre++[(i,(⟨(t:Int),y1,y2,y3,y4,M,y6⟩:YA))]).length=pre.length+1:=by simp
   rw[e1]
   show Zav f B (adjN f B d pre.length) (B.length-1-pre.length)=_
   rw[hdk,HNN.out,←hyi]
   unfold Zav
   rw[←hyy,hnds,hbud])
  have HROWN:=hid hrowN
  have HLTN:=hid hltN
  have HMM:=hid hM
  clear hdk hyy hsm m1 m2 m3 m5 hnd hnds hrowN hltN hbt htd hdbk hM
  have hlowW:RowKit.Below wS.heap.size wS W:=HLOW.out.trans (g3.below hszw (fun b e=>HGE.out b e))
  obtain⟨bt,ot,ta,tc,haT,hbtl,z0,_⟩:=GM (HTK.out W hlowW) htT
  obtain⟨bn,on,han,hbnl,zb⟩:=ed (HNK.out W hlowW) hkn
  rw[hnk] at z0
  rw[hbd] at zb
  obtain⟨⟨c0,c1,c2,c3,c4,c5,c6⟩,cf⟩:=YS g1.box
  rw[haT] at c2
  rw[han] at c1
  have KS1:=hid (show S3 w.heap.size wb b3 bt ot t bn on k f.nods.length cn f.tasks.length ct bud W.drew from ⟨g2.cell,c1,c2,Z7 W.drew b3 0 _ _ _ hjb,z0,zb⟩)
  have HJB:=hid hjb
  obtain⟨g,hja,hjh⟩:=g1.jobs.resolve_left oq
  have hgl:=HGL.out oq g (by rw[hja];rfl)
  have HJA:=hid hja
  have HJS:=hid (show jaB ja=some g by rw[hja];rfl)
  have HJH:=hid hjh
  have HG1:=hid g1
  have HG2:=hid g2
  have HG3:=hid g3
  have hlW:=g3.size
  have hwbn:wb≠g:=fun e=>g1.ne (by rw[HJS.out,e])
  rw[hja,hdks] at c5
  have HC5:=hid c5
  have hlb3:=Zb hjb
  have hg2l:=g2.lt
  have hwbl:=Zb g1.box
  have hcells:=hjh.cells oq
  have HCE:=hid hcells
  have t0:(0:Int)≤(t:Int):=oq
  have t1:(t:Int)<(f.tasks.length:Int):=oq
  have k0:(0:Int)≤(k:Int):=oq
  have k1:(k:Int)<(f.nods.length:Int):=oq
  have HW64:=hid (show IntKind.i64.wrap (y3-bud)=y3-bud from ZK _ oq)
  have HDKS:=hid hdks
  clear hdks hyi hx hyd hja hjh g1 g2 g3 haT han z0 zb c0 c1 c2 c3 c4 c5 c6 cf hjb hcells hlowW hr HTK HNK HTN HBU HLT HND HSM HDBN hnk hbd hbud
  gi_upto_region 3 with fail
  refine Qn (S:=S3 w.heap.size wb b3 bt ot t bn on k f.nods.length cn f.tasks.length ct bud) kq kq (by rintro⟨_,_,h⟩;exact h) KS1.out (fun hHeld=>?_)
  refine tk 0 hHeld ?_
  refine tk 1 hHeld ?_
  refine tk 2 hHeld ?_
  refine tk 3 hHeld ?_
  refine tk 4 hHeld ?_
  refine tk 5 hHeld ?_
  refine tk 6 hHeld ?_
  refine tk 7 hHeld ?_
  refine tk 8 hHeld ?_
  refine tk 9 hHeld ?_
  refine tk 10 hHeld ?_
  refine tk 11 hHeld ?_
  refine tk 12 hHeld ?_
  refine tk 13 hHeld ?_
  refine tk 14 hHeld ?_
  refine tk 15 hHeld ?_
  refine tk 16 hHeld ?_
  refine tk 17 hHeld ?_
  refine ry 18 fun K hK=>?_
  go_simp
  refine hK.out _ _ (fun hHeld=>?_) (by exact KS1.out)
  clear hK K
  refine Zy kq ?_ _
  obtain⟨⟨x0,x1,x2,x3,x4⟩,xf⟩:=Vb (show W.heap[b3]?=_ from HJB.out)
  simp only at x0 x1 x2 x3 x4
  clear x0 x1 x2 x3
  gi_wp2
  clear x4 xf
  gi_loopw [35] (fun s35 wr=>Hid (∃m:Nat,s35=.int .i64 (m:Int)∧m≤M∧JH wr g 0 (bringL (y3-bud) dk (nds.take m))∧But (fun k=>k=g) W wr)) (fun s _=>M-(intOf s).toNat)
  case atStart=>exact⟨0,rfl,Zk _,HJH.out.but rfl,(But.refl _ W).drew⟩
  obtain⟨m,rfl,hm,hjm,hbm⟩:=hrel.out
  clear hrel
  have hjbm:=(hbm.block b3 hlb3 oq).trans HJB.out
  obtain⟨⟨x0,x1,x2,x3,x4⟩,xf⟩:=Vb (show wr.heap[b3]?=_ from hjbm)
  simp only at x0 x1 x2 x3 x4
  have cb:=Boxed.cell ((hbm.block _ hg2l oq).trans HG2.out)
  have HJM:=hid hjm
  have HBM:=hid hbm
  have hsz:(bringL (y3-bud) dk (nds.take m)).size=N:=by rw[(Jj _ _ _).1];exact HDKS.out
  clear x0 x1 x2 hjbm
  by_cases hlt:m<M
  ·have hml:m<nds.length:=by rw[HMM.out];exact hlt
   obtain⟨bq,oq,hq,hql,hqc⟩:=(HROWN.out wr ((BC.of_but HG3.out).then (BC.of_but (HBM.out.imp (fun k _ e=>by rw[e];exact HJS.out))))).at hml
   unfold Uz at hqc
   rw[Z8] at hqc
   have hbs:=xO (x:=y3-bud) (d:=dk) hml
   obtain⟨p,hp,hpi⟩:=HLTN.out nds[m] (Zi hml)
   rw[hp] at hqc hbs
   rw[ZQ] at hbs
   have HBS:=hid hbs
   have hc5:wr.cell? ⟨wb,5,none⟩=some (.slice (some ⟨g,0,none⟩) (bringL (y3-bud) dk (nds.take m)).size cj):=by rw[hsz];exact(Zn (w:=W) (a:=⟨wb,5,none⟩) (hbm.block wb hwbl hwbn)).trans HC5.out
   have HBR:=hid (Ez (W:=wr) wb g 0 cj _ hc5 hjm p (by rw[hsz];omega) (y3-bud))
   have i0:(0:Int)≤(m:Int):=by omega
   have i1:(m:Int)<(M:Int):=by omega
   subst hq
   have hw64:=HW64.out
   clear hjm hbm hbs hp hc5
   gi_wp2_with (refine⟨trivial,?_⟩;gi_at_call 72;refine(CallsIn.inRound l (Zt.2 HBR.out)).mono ?_;rintro e w4 ⟨rfl,hj4,hb4⟩;have HJ4:=hid hj4;have HB4:=hid hb4;clear hj4 hb4)
   clear hw64
   exact⟨hid ⟨m+1,by go_num,hlt,by rw[HBS.out];exact HJ4.out,HBM.out.then HB4.out (fun _ _ e=>e)⟩,by simp[intOf];omega⟩
  obtain rfl:m=M:=oq
  have i1:¬(m:Int)<(m:Int):=oq
  have htk:nds.take m=nds:=by rw[←HMM.out];exact ZS
  rw[htk] at HJM hsz
  have HTKE:=hid htk
  clear hjm hbm htk
  gi_wp2
  have hbw:But (fun b=>jaB ja=some b) W wr:=HBM.out.imp (fun k _ e=>by rw[e];exact HJS.out)
  exact⟨Eo HBM.out HCE.out,KD.of_but HBM.out oq oq,(by rw[HADJ.out];exact HG1.out.but hbw (Jj _ _ _).1 (.inr ⟨g,HJA.out,HJM.out⟩)),(HBM.out.block _ hg2l oq).trans HG2.out,HG3.out.then hbw (fun _ _ e=>e)⟩
 rintro D xs W hD hxl ⟨g1,g2,g3⟩ hk
 rw[hxl,←HNN.out] at g1
 have HG1:=hid g1
 have HG3:=hid g3
 have HMK:=hid ((Mk.nil w.heap.size 0 W).cons oq (Zk _) hk)
 clear g1 g3
 gi_wp2
 refine HMK.out.leaves (fun W' hW'=>⟨.tuple #[],?_,?_⟩)
 ·exact results_none rfl _ _ _
 exact⟨rfl,HG1.out.mk' hW',HG3.out.then (show But (fun k=>w.heap.size≤k) W W' from ⟨hW'.os,hW'.tape,hW'.output,Nat.le_of_eq hW'.size.symm,fun k _ hk=>hW'.low k oq⟩) (fun k hk e=>oq)⟩
structure jR (W:World) (f:FD) (order:List Int) (u:Int) (B:List (Nat × Nat)) (ja:Option Addr) (d:Array YA):Prop where
 win:Xv f order u B
 ord:YN f order
 rgf:RgF f
 sz:d.size=B.length
 jobs:JR W ja d
 from_:∃dN,(∀k,k<B.length→dN[k]!.t=((B.getD k (0,0)).1:Int)∧dN[k]!.n=((B.getD k (0,0)).2:Int)∧dN[k]!.r=Ql f (B.getD k (0,0))∧dN[k]!.d=Ql f (B.getD k (0,0))+(tkO f (B.getD k (0,0)).1).per)∧dN.size=B.length∧d=adjN f B (QO f B u dN f.tells) B.length
 needs:∀k,k<B.length→d[k]!.nl=(YT f B k).length∧Row Uz 1 W (YT f B k) d[k]!.na
def Kn (f:FD) (u:Int) (x:Ending) (w':World):Prop :=
 if Xj f=true∧(0≤u∧u≤20000) then match ofP f with
  | none=>x=.returned (.tuple #[.slice none 0 0,.int .i64 6])
  | some l=>if 4000<QJ f u f.tasks.length then x=.returned (.tuple #[.slice none 0 0,.int .i64 8]) else ∃B ja cj d,x=.returned (.tuple #[.slice ja d.size cj,.int .i64 0])∧jR w' f l u B ja d
 else x=.returned (.tuple #[.slice none 0 0,.int .i64 12])
theorem Zco {W:World} {f:FD} {order:List Int} {u:Int} {B:List (Nat × Nat)} (hB:Xv f order u B) (ho:YN f order) (hc:Ec f) (hu:u≤20000) {ja:Option Addr} {d:Array YA} {i:Nat} (h:NdS W f B ja d i) (hs:d.size=B.length):DB 0 d:=by
 intro p hp
 rw[hs] at hp
 have h1:=(h.base p hp).2.2.2
 have hb:B[p]?=some (B.getD p (0,0)):=by rw[Zf,Ze hp];rfl
 obtain⟨⟨t,n⟩,hbb⟩:∃b,B.getD p (0,0)=b:=⟨_,rfl⟩
 rw[hbb] at hb h1
 have hm:=(hB.mem ho).1 (Ya hb)
 have hcc:=hc t hm.1
 have h2:=(Qz hcc.1 n).1 hm.2
 have h3:=Int.mul_nonneg (show 0≤(n:Int) by omega) (show 0≤(tkO f t).per by omega)
 have h4:Ql f (t,n)=(tkO f t).ph+(n:Int)*(tkO f t).per:=rfl
 simp only at h1
 omega
theorem ze {f:FD} {order:List Int} {u:Int} {B:List (Nat × Nat)} (hB:Xv f order u B) (ho:YN f order) (hc:Ec f) (hT:f.tasks.length≤30) (hu:u≤20000):B.length≤1000000:=by
 have h1:=qz hc hu ho.rng order.length (Zc _)
 rw[ZS] at h1
 have h2:=hB.perm.length_eq
 have h3:order.length≤30:=by
  have:=List.Nodup.length_le_of_subset (l₂:=(List.range f.tasks.length).map (fun k:Nat=>(k:Int))) ho.nd (by
   intro y hy
   have:=ho.rng y hy
   exact Ye.2 ⟨y.toNat,List.mem_range.2 oq,oq⟩)
  rw[Zo,List.length_range] at this
  omega
 omega
theorem vY {w:World} (f:FD) (ai an aT al:Option Addr) (ci cn ct cl:Nat) (hf:FAP w f ai an aT al) (u:Int) :
  Calls Tryz.prog 8 #[fv f ai an aT al ci cn ct cl,.int .i64 u] w fun x w'=>Kn f u x w'∧RowKit.Below w.heap.size w w':=by
 have HRI:=hid (fun W (hb:RowKit.Below w.heap.size w W)=>Vn (w:=W) f ai an aT al ci cn ct cl (hf.below hb))
 have HOF:=hid (fun W (hb:RowKit.Below w.heap.size w W)=>ZcC (w:=W) f ai an aT al ci cn ct cl (hf.below hb))
 have HTM:=hid (fun W (hb:RowKit.Below w.heap.size w W) (hr:RgF f) (hu:u≤20000)=>xH (w:=W) f ai an aT al ci cn ct cl (hf.below hb) hr.clk hr.few u hu)
 have HNW:=hid (fun W (hb:RowKit.Below w.heap.size w W) (hr:RgF f) (hu:u≤20000) (order:List Int) (ao:Option Addr) (co:Nat) (hro:Row Uz 1 W order ao) (ho:YN f order)=>(Zt (n:=6)).1 (G8 (w:=W) f ai an aT al ci cn ct cl (hf.below hb) hr.clk hr.few order ao co hro ho u hu))
 have HF:=hid hf
 clear hf
 unfold Kn
 unfold fv at *
 obtain⟨ri,hri⟩:∃ri,Xj f=ri:=⟨_,rfl⟩
 rw[hri] at HRI
 obtain⟨W1,hW1⟩:∃W1,w.alloc (.cells #[.slice ai f.ins.length ci,.slice an f.nods.length cn,.slice aT f.tasks.length ct,.slice al f.tells.length cl] 34)=W1:=⟨_,rfl⟩
 have hB:RowKit.Below w.heap.size w W1:=by rw[←hW1];exact bq
 have hq0:W1.heap[w.heap.size]?=some (.cells #[.slice ai f.ins.length ci,.slice an f.nods.length cn,.slice aT f.tasks.length ct,.slice al f.tells.length cl] 34 (0,0)):=by rw[←hW1];exact Yp w _
 have HB:=hid hB
 have HQ0:=hid hq0
 obtain⟨⟨x0,x1,x2,x3⟩,xf⟩:=Yq hq0
 have hl0:w.heap.size<W1.heap.size:=Zb hq0
 clear hB hq0
 cases ri with
 | false =>
  have hcc:¬(Xj f=true∧(0≤u∧u≤20000)):=fun h=>by rw[hri] at h;cases h.1
  simp only[Z1 hcc]
  clear hcc hri
  go_enter Tryz.func8,Tryz.ntmps8
  go_upto_region 1 with fail
  first|rw[hW1]|skip
  clear hW1
  go_wp2_with (go_at_call 21;refine(HRI.out _ HB.out).mono ?_;rintro x w2 ⟨rfl,hb2⟩;have HB2:=hid hb2;clear hb2)
  go_ret2
  exact⟨rfl,HB.out.trans (HB2.out.mono oq)⟩
 | true =>
  by_cases hu0:0≤u
  ·by_cases hu1:u≤20000
   ·have hcc:Xj f=true∧(0≤u∧u≤20000):=⟨hri,hu0,hu1⟩
    simp only[Z2 hcc]
    have HRG:=hid (vF hri)
    clear hcc hri
    have u0:¬u<0:=oq
    have u1:¬u > 20000:=oq
    cases ho:ofP f with
    | none =>
     rw[ho] at HOF
     simp only[Zal] at HOF
     simp only
     go_enter Tryz.func8,Tryz.ntmps8
     go_upto_region 1 with fail
     first|rw[hW1]|skip
     clear hW1
     go_wp2_with (first|(go_at_call 21;refine(HRI.out _ HB.out).mono ?_;rintro x w2 ⟨rfl,hb2⟩;have HB2:=hid (HB.out.trans (hb2.mono oq));obtain⟨⟨y0,y1,y2,y3⟩,yf⟩:=Yq ((hb2.block _ hl0).trans HQ0.out);clear hb2)|(go_at_call 22;refine(HOF.out _ HB2.out).mono ?_;rintro x w4 ⟨rfl,hb4⟩;have HB4:=hid (HB2.out.trans (hb4.mono HB2.out.size));clear hb4))
     go_ret2
     exact⟨rfl,HB4.out⟩
    | some l =>
     rw[ho] at HOF
     simp only[Zal] at HOF
     simp only
     have HO:=hid (yw ho)
     clear ho
     obtain⟨mt,hmt⟩:∃mt,QJ f u f.tasks.length=mt:=⟨_,rfl⟩
     rw[hmt] at HTM
     simp only[hmt]
     by_cases hmany:4000<mt
     ·rw[Z0 hmany] at HTM
      simp only[Z2 hmany]
      clear hmany hmt
      go_enter Tryz.func8,Tryz.ntmps8
      go_upto_region 1 with fail
      first|rw[hW1]|skip
      clear hW1
      go_wp2_with (first|(go_at_call 21;refine(HRI.out _ HB.out).mono ?_;rintro x w2 ⟨rfl,hb2⟩;have HB2:=hid (HB.out.trans (hb2.mono oq));have hl2:w.heap.size<w2.heap.size:=Zd hl0 hb2.size;have HQ2:=hid ((hb2.block _ hl0).trans HQ0.out);obtain⟨⟨y0,y1,y2,y3⟩,yf⟩:=Yq HQ2.out;clear hb2)|(go_at_call 22;refine(HOF.out _ HB2.out).mono ?_;rintro x w4 ⟨⟨v4,rfl,hq4⟩,hb4⟩;have HB4:=hid (HB2.out.trans (hb4.mono HB2.out.size));obtain⟨⟨z0,z1,z2,z3⟩,zf⟩:=Yq ((hb4.block _ hl2).trans HQ2.out);clear hb4 hq4)|(go_at_call 23;refine(HTM.out _ HB4.out HRG.out hu1).mono ?_;rintro x w5 ⟨rfl,hb5⟩;have HB5:=hid (HB4.out.trans (hb5.mono HB4.out.size));clear hb5))
      go_ret2
      exact⟨rfl,HB5.out⟩
     rw[ZZ hmany] at HTM
     simp only[Z1 hmany]
     clear hmany hmt
     go_enter Tryz.func8,Tryz.ntmps8
     go_upto_region 1 with fail
     first|rw[hW1]|skip
     clear hW1
     go_wp2_with (first|(go_at_call 21;refine(HRI.out _ HB.out).mono ?_;rintro x w2 ⟨rfl,hb2⟩;have HB2:=hid (HB.out.trans (hb2.mono oq));have hl2:w.heap.size<w2.heap.size:=Zd hl0 hb2.size;have HQ2:=hid ((hb2.block _ hl0).trans HQ0.out);obtain⟨⟨y0,y1,y2,y3⟩,yf⟩:=Yq HQ2.out;clear hb2)|(go_at_call 22;refine(HOF.out _ HB2.out).mono ?_;rintro x w4 ⟨⟨v4,rfl,hq4⟩,hb4⟩;obtain⟨a4,c4,rfl⟩:=Yy hq4;have HRW:=hid (gW hq4 (S:=fun _=>False) (fun _ h=>h.elim) (BC.of_but (But.refl _ w4))).2;have HB4:=hid (HB2.out.trans (hb4.mono HB2.out.size));have hl4:w.heap.size<w4.heap.size:=Zd hl2 hb4.size;have HQ4:=hid ((hb4.block _ hl2).trans HQ2.out);obtain⟨⟨z0,z1,z2,z3⟩,zf⟩:=Yq HQ4.out;clear hb4 hq4)|(go_at_call 23;refine(HTM.out _ HB4.out HRG.out hu1).mono ?_;rintro x w5 ⟨rfl,hb5⟩;have HB5:=hid (HB4.out.trans (hb5.mono HB4.out.size));have HRW5:=hid (HRW.out.below zI hb5);obtain⟨⟨q0,q1,q2,q3⟩,qf⟩:=Yq ((hb5.block _ hl4).trans HQ4.out);clear hb5)|(go_at_call 24;refine(HNW.out _ HB5.out HRG.out hu1 l a4 c4 HRW5.out HO.out).mono ?_;rintro x w6 hnw;obtain⟨wb,pb,ja,cj,B,rfl,hwin,hwm,hb6,hge⟩:=hnw;have HWIN:=hid hwin;have HB6:=hid hb6;have HGE:=hid hge;have HLEN:=hid (ze hwin HO.out HRG.out.clk HRG.out.few hu1);have HND:=hid (uJ (wS:=w5) (w:=w6) f ai an aT al ci cn ct cl (HF.out.below HB5.out) hb6 HRG.out l HO.out u B hwin wb pb f.tasks.length ja cj hge hwm HLEN.out);clear hwin hwm hb6 hge)|(go_at_call 25;refine HND.out.mono ?_;rintro x w7 ⟨rfl,dN,hwm7,hnd7,hbt7⟩;have HND7:=hid hnd7;have HLO7:=hid (HB6.out.trans (hbt7.below HB6.out.size (fun b e=>HGE.out b e)));have HDZ:=hid hwm7.sz;have HTL:=hid (ka (wS:=w5) (w:=w7) f ai an aT al ci cn ct cl (HF.out.below HB5.out) HLO7.out HRG.out l HO.out u hu1 B HWIN.out wb pb f.tasks.length ja cj HGE.out dN hwm7 HLEN.out);clear hwm7 hnd7 hbt7)|(go_at_call 26;refine HTL.out.mono ?_;rintro x w8 ⟨rfl,hwm8,hbt8⟩;have HBT8:=hid hbt8;have HLO8:=hid (HLO7.out.trans (hbt8.below HLO7.out.size (fun b e=>HGE.out b e)));have hsm:=QF f B u f.tells dN;have HAD:=hid (yJ (wS:=w5) (w:=w8) f ai an aT al ci cn ct cl (HF.out.below HB5.out) HLO8.out HRG.out l HO.out u B HWIN.out wb pb f.tasks.length ja cj HGE.out (QO f B u dN f.tells) hwm8 HLEN.out (fun k hk=>by rw[(hsm.2 k).1];exact(HND7.out.base k hk).1) (fun k hk=>⟨by rw[(hsm.2 k).2.2.2.2.1];exact(HND7.out.nd k hk).1,fun W' hW'=>by rw[(hsm.2 k).2.2.2.1];exact(HND7.out.nd k hk).2 W' ((BC.of_but hbt8).then hW')⟩) (DB.tells f.tells (fun t ht=>by have h1:=HRG.out.tel t ht;have h2:=clock.Xd.1 (XZ h1.2).1;exact⟨h2.1,h2.2.2.1,h1.1.1⟩) (Zco HWIN.out HO.out HRG.out.clk hu1 HND7.out HDZ.out)));clear hwm8 hbt8 hsm)|(go_at_call 27;refine HAD.out.mono ?_;rintro x w9 ⟨rfl,hwm9,hbt9⟩;have HWM9:=hid hwm9;have HBT9:=hid hbt9;obtain⟨⟨p0,p1,p2,p3,p4,p5,p6⟩,pf⟩:=YS hwm9.box;clear hwm9 hbt9))
     go_ret2
     refine⟨⟨B,ja,cj,_,rfl,HWIN.out,HO.out,HRG.out,HWM9.out.sz,HWM9.out.jobs,⟨dN,HND7.out.base,HDZ.out,rfl⟩,fun k hk=>?_⟩,?_⟩
     ·have hsm:=(QF f B u f.tells dN).trans (Q0 f B (QO f B u dN f.tells) B.length)
      rw[(hsm.2 k).2.2.2.2.1,(hsm.2 k).2.2.2.1]
      exact⟨(HND7.out.nd k hk).1,(HND7.out.nd k hk).2 w9 ((BC.of_but HBT8.out).then (BC.of_but HBT9.out))⟩
     exact HB5.out.trans ((HLO8.out.trans (HBT9.out.below HLO8.out.size (fun b e=>HGE.out b e))).mono HB5.out.size)
   have hcc:¬(Xj f=true∧(0≤u∧u≤20000)):=fun h=>hu1 h.2.2
   simp only[Z1 hcc]
   have u0:¬u<0:=oq
   have u1:u > 20000:=oq
   clear hcc hri hu1
   go_enter Tryz.func8,Tryz.ntmps8
   go_upto_region 1 with fail
   first|rw[hW1]|skip
   clear hW1
   go_wp2_with (go_at_call 21;refine(HRI.out _ HB.out).mono ?_;rintro x w2 ⟨rfl,hb2⟩;have HB2:=hid hb2;clear hb2)
   go_ret2
   exact⟨rfl,HB.out.trans (HB2.out.mono oq)⟩
  have hcc:¬(Xj f=true∧(0≤u∧u≤20000)):=fun h=>hu0 h.2.1
  simp only[Z1 hcc]
  have u0:u<0:=oq
  clear hcc hri hu0
  go_enter Tryz.func8,Tryz.ntmps8
  go_upto_region 1 with fail
  first|rw[hW1]|skip
  clear hW1
  go_wp2_with (go_at_call 21;refine(HRI.out _ HB.out).mono ?_;rintro x w2 ⟨rfl,hb2⟩;have HB2:=hid hb2;clear hb2)
  go_ret2
  exact⟨rfl,HB.out.trans (HB2.out.mono oq)⟩
end Go.Proofs.YtgigilkpndhddaaGreatDoor.syn
