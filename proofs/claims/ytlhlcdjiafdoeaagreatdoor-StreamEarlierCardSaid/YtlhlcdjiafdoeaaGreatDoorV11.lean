/- Parts of the proof. -/
import Derived.Deep.OwnRows
import Derived.Test.YtlhlcdjiafdoeaaGreatDoorV07
import Derived.Test.YtlhlcdjiafdoeaaGreatDoorV08
set_option linter.all false
set_option maxRecDepth 100000
set_option maxHeartbeats 16000000
namespace Go.Proofs.YtlhlcdjiafdoeaaGreatDoor.syn
open Go.RowKit
def GH:List ND→Nat
 | []=>0
 | n::l=>n.body.args.sz+1+GH l
def Gu:List FL→Nat
 | []=>0
 | f::l=>f.e.args.sz+1+Gu l
theorem jt {l:List ND} {i:Nat} (h:i<l.length):l.drop i=l[i]::l.drop (i+1):=by rw[ZM h]
theorem Kk.cells {w:World} {b o:Nat} {nm nm1:ByteArray} {ps:List ByteArray} {bud k1 n1 d1 a1 fa:Int} {args1:PL} (h:Kk w b o ⟨nm,ps,bud,⟨k1,nm1,n1,d1,args1,a1⟩,fa⟩):∃pa pc ad cap,
  w.cell? ⟨b,o,none⟩=some (.string nm)∧w.cell? ⟨b,o+1,none⟩=some (.slice pa ps.length pc)∧w.cell? ⟨b,o+2,none⟩=some (.int .i64 bud)∧w.cell? ⟨b,o+3,none⟩=some (.int .i64 k1)∧w.cell? ⟨b,o+4,none⟩=some (.string nm1) ∧
  w.cell? ⟨b,o+5,none⟩=some (.int .i64 n1)∧w.cell? ⟨b,o+6,none⟩=some (.int .i64 d1)∧w.cell? ⟨b,o+7,none⟩=some (.slice ad args1.len cap)∧w.cell? ⟨b,o+8,none⟩=some (.int .i64 a1)∧w.cell? ⟨b,o+9,none⟩=some (.int .i64 fa) ∧
  AE w ⟨k1,nm1,n1,d1,args1,a1⟩ ad cap∧(ps.length≤pc∧pc≤9223372036854775807∧Row zu 1 w ps pa)∧(nm.size≤9223372036854775807∧I64 bud∧I64 fa):=by
 obtain⟨x0,⟨pa,pc,x1,p1,p2,p3⟩,x2,⟨ad,cap,x3,x4,x5,x6,x7,x8,hae⟩,x9,hfn⟩:=h
 exact⟨pa,pc,ad,cap,x0,x1,x2,x3,x4,x5,x6,x7,x8,x9,hae,⟨p1,p2,p3⟩,hfn⟩
theorem FlC.later {w wr:World} {b o:Nat} {f:FL} (h:FlC w b o f) (hb:Below w.heap.size w wr) (hlt:b<w.heap.size):FlC wr b o f:=JI w wr b o f hb hlt h
def XS (w:World) (b:Nat) (p:PG) (an ai af ao:Option Addr) (cn ci cf co:Nat):Prop:=w.heap[b]?=some (.cells #[.slice an p.nodes.length cn,.slice ai p.ins.length ci,.slice af p.flows.length cf,.slice ao p.outs.length co] 27 (0,0))
def ZaP (w:World) (p:PG) (an ai af ao:Option Addr) (cn ci cf co:Nat) (len:Nat) (tot:Nat→Nat) (v:Value) (wr:World):Prop :=
 ∃(i:Nat) (r:Int),v=.int .i64 (i:Int)∧i≤len∧Vt wr (w.heap.size+1) r∧(tot i:Int)≤r∧r≤8000∧XS wr w.heap.size p an ai af ao cn ci cf co∧Below w.heap.size w wr
theorem QU {w:World} (p:PG) (an ai af ao:Option Addr) (cn ci cf co:Nat) (hp:AP w p an ai af ao cn ci cf co) (hs:GH p.nodes+Gu p.flows≤8000) :
  Calls Tryz.prog 40 #[pv p an ai af ao cn ci cf co] w fun x w'=>x=.returned (.bool true)∧Below w.heap.size w w':=by
 obtain⟨nodes,ins,flows,outs⟩:=p
 obtain⟨hn,hi,hf,ho,hcap⟩:=hp
 simp only at hn hi hf ho hcap hs
 have HN:=hid hn
 have HF:=hid hf
 have hnl:nodes.length≤9223372036854775807:=oq
 have hfl:flows.length≤9223372036854775807:=oq
 clear hn hi hf ho
 unfold pv
 simp only
 go_enter Tryz.func40,Tryz.ntmps40
 go_wp2
 go_loopw [13] (fun v wr=>Hid (ZaP w ⟨nodes,ins,flows,outs⟩ an ai af ao cn ci cf co nodes.length (fun i=>GH (nodes.drop i)+Gu flows) v wr)) (fun i _=>nodes.length-(intOf i).toNat)
 case atStart=>exact⟨0,8000,rfl,Zk _,by simpa [Vt] using Yt (w.alloc _) _,by simp only[List.drop_zero];omega,oq,(Z3 _ _ (by simp)).trans (Yt w _),bq⟩
 obtain⟨i,r,rfl,hi,hroom,hr1,hr2,hpb,hbel⟩:=hrel.out
 clear hrel
 simp only at hr1
 unfold XS at hpb
 simp only at hpb
 obtain⟨⟨x0,x1,x2,x3⟩,xf⟩:=Yu hpb
 have HPB:=hid hpb
 have HROOM:=hid hroom
 have HBEL:=hid hbel
 have hltr:=Zb hroom
 have hltp:=Zb hpb
 have hszr:=hbel.size
 clear hpb hroom
 by_cases hlt:i<nodes.length
 ·obtain⟨bb,oo,rfl,hbb0,hnd0⟩:=HN.out.at hlt
  have hnd:=Jw w wr bb _ _ hbel hbb0 hnd0
  have hbb:=Zd hbb0 hszr
  rw[jt hlt] at hr1
  obtain⟨n,hn⟩:∃n,nodes[i]=n:=⟨_,rfl⟩
  rw[hn] at hnd hnd0 hr1
  obtain⟨nm,ps,bud,⟨k1,nm1,n1,d1,args1,a1⟩,fa⟩:=n
  simp only[GH] at hr1
  obtain⟨pa,pc,ad,cap,y0,y1,y2,y3,y4,y5,y6,y7,y8,y9,hae,hps,hfn⟩:=hnd.cells
  obtain⟨_,_,ad',cap',_,_,_,_,_,_,_,y7',_,_,hae',_,_⟩:=hnd0.cells
  have hee:=(hbel.cell (p:=⟨bb,oo+i*10+7,none⟩) hbb0).trans y7'
  rw[y7] at hee
  injection hee with hee;injection hee with he1 he2 he3
  subst he1;subst he3
  have HE:=hid hae'
  have HC:=hid (fun w' hb hr=>Et ⟨k1,nm1,n1,d1,args1,a1⟩ w w' ad cap (w.heap.size+1) r HE.out hb oq hr (by show(args1.sz:Int)+1≤r;omega) oq)
  unfold xc at HC
  simp only at HC
  have hie:(i:Int)<(nodes.length:Int):=oq
  clear hbel hnd hnd0 hae hae' y7' hps hfn hbb0
  go_wp2_with (go_at_call 69;go_loud (refine(HC.out _ bq ((Z3 _ _ hltr).trans HROOM.out)).mono ?_;rintro x w2 ⟨rfl,hrm2,hu2⟩))
  refine⟨⟨i+1,r-(args1.sz+1),by go_num,oq,hrm2,by simp only;omega,oq,(hu2.block _ (by simp;omega) oq).trans ((Z3 _ _ hltp).trans HPB.out),(HBEL.out.alloc oq _).trans (hu2.below (by simp;omega) oq)⟩,by simp[intOf];omega⟩
 have hie:i=nodes.length:=oq
 subst hie
 have HR1:=hid (show(Gu flows:Int)≤r by rw[Ym] at hr1;simpa [GH] using hr1)
 clear hbel hr1
 go_wp2
 go_loopw [26] (fun v wr=>Hid (ZaP w ⟨nodes,ins,flows,outs⟩ an ai af ao cn ci cf co flows.length (fun i=>Gu (flows.drop i)) v wr)) (fun i _=>flows.length-(intOf i).toNat)
 case atStart=>exact⟨0,r,rfl,Zk _,HROOM.out,by simpa using HR1.out,oq,HPB.out,HBEL.out⟩
 clear HROOM HBEL HPB HR1 hltr hltp hszr x0 x1 x2 x3 xf
 obtain⟨i,r,rfl,hi,hroom,hr1,hr2,hpb,hbel⟩:=hrel.out
 clear hrel
 simp only at hr1
 unfold XS at hpb
 simp only at hpb
 obtain⟨⟨x0,x1,x2,x3⟩,xf⟩:=Yu hpb
 have HPB:=hid hpb
 have HROOM:=hid hroom
 have HBEL:=hid hbel
 have hltr:=Zb hroom
 have hltp:=Zb hpb
 have hszr:=hbel.size
 clear hpb hroom
 by_cases hlt:i<flows.length
 ·obtain⟨bb,oo,rfl,hbb0,hfl0⟩:=HF.out.at hlt
  have hfl':=hfl0.later hbel hbb0
  have hbb:=Zd hbb0 hszr
  rw[EQ hlt] at hr1
  obtain⟨f,hf⟩:∃f,flows[i]=f:=⟨_,rfl⟩
  rw[hf] at hfl' hfl0 hr1
  obtain⟨nm,⟨k1,nm1,n1,d1,args1,a1⟩,fa⟩:=f
  simp only[Gu] at hr1
  obtain⟨ad,cap,y0,y1,y2,y3,y4,y5,y6,y7,hae,hfn⟩:=hfl'.cells
  obtain⟨ad',cap',_,_,_,_,_,y5',_,_,hae',_⟩:=hfl0.cells
  have hee:=(hbel.cell (p:=⟨bb,oo+i*8+5,none⟩) hbb0).trans y5'
  rw[y5] at hee
  injection hee with hee;injection hee with he1 he2 he3
  subst he1;subst he3
  have HE:=hid hae'
  have HC:=hid (fun w' hb hr=>Et ⟨k1,nm1,n1,d1,args1,a1⟩ w w' ad cap (w.heap.size+1) r HE.out hb oq hr (by show(args1.sz:Int)+1≤r;omega) oq)
  unfold xc at HC
  simp only at HC
  have hie:(i:Int)<(flows.length:Int):=oq
  clear hbel hfl' hfl0 hae hae' y5' hfn hbb0
  go_wp2_with (go_at_call 69;go_loud (refine(HC.out _ bq ((Z3 _ _ hltr).trans HROOM.out)).mono ?_;rintro x w2 ⟨rfl,hrm2,hu2⟩))
  refine⟨⟨i+1,r-(args1.sz+1),by go_num,oq,hrm2,by simp only;omega,oq,(hu2.block _ (by simp;omega) oq).trans ((Z3 _ _ hltp).trans HPB.out),(HBEL.out.alloc oq _).trans (hu2.below (by simp;omega) oq)⟩,by simp[intOf];omega⟩
 clear hbel
 go_wp2
 go_ret
 exact⟨rfl,HBEL.out⟩
attribute [local go_sem] ZS
def Xo:PL→List PE
 | .nil=>[]
 | .cons k nm n d args a tl=>⟨k,nm,n,d,args,a⟩::(Xo args++Xo tl)
theorem G6:∀l:PL,(Xo l).length=l.sz:=by
 intro l
 induction l with
 | nil=>rfl
 | cons k nm n d args a tl ih1 ih2=>simp only[Xo,Zp,Zw,ih1,ih2,PL.sz];omega
structure VX (W0:World) where
 e:PE
 ad:Option Addr
 cap:Nat
 ok:AE W0 e ad cap
def VX.vs {W0:World} (x:VX W0):Array Value:=#[.agg #[.int .i64 x.e.k,.string x.e.nm,.int .i64 x.e.n,.int .i64 x.e.d,.slice x.ad x.e.args.len x.cap,.int .i64 x.e.a]]
def ji {W0:World} (n₀:Nat) (J Jx:List (VX W0)→World→Prop) (pre:List (VX W0)) (e:PE) (W:World) (x:Ending) (W':World):Prop :=
 (x=.returned (.bool true)∧(∃ys:List (VX W0),ys.map (·.e)=e::Xo e.args∧J (pre++ys) W')∧KC n₀ W W') ∨
  (x=.returned (.bool false)∧∃q:List (VX W0),q.map (·.e) <+: (e::Xo e.args)∧Jx (pre++q) W')
def Zcr {W0:World} (n₀:Nat) (J:List (VX W0)→World→Prop) (pre:List (VX W0)) (e:PE) (ad:Option Addr) (W:World) (v:Value) (wr:World):Prop :=
 ∃(i:Nat) (rest:PL) (ys:List (VX W0)),v=.int .i64 (i:Int)∧X3 W0 ad e.args rest i∧ys.map (·.e)++Xo rest=e::Xo e.args∧J (pre++ys) wr∧KC n₀ W wr
theorem xp {W0:World} (F:Fence) (hd:F.depth=none) (hF:F.fn 69) (hro:F.round=none) (l B N:Nat) (J Jx:List (VX W0)→World→Prop) (hJ:AbidesFrom B J)
  (hY:∀m pre x W,J pre W→pre.length<N→YieldAt F m Tryz.prog l x.vs W fun e W'=>(e=.returned (.bool true)∧J (pre++[x]) W'∧KC W0.heap.size W W')∨(e=.returned (.bool false)∧Jx (pre++[x]) W')) (e:PE)
  (ih:∀e':PE,e'.args.sz<e.args.sz→∀(n:Nat) (ad:Option Addr) (cap:Nat) (pre:List (VX W0)) (W:World),AE W0 e' ad cap→Below W0.heap.size W0 W→J pre W→pre.length+e'.args.sz+1≤N →
   CallsIn F n Tryz.prog 69 #[.agg #[.int .i64 e'.k,.string e'.nm,.int .i64 e'.n,.int .i64 e'.d,.slice ad e'.args.len cap,.int .i64 e'.a],.func (.yield l) #[] #[]] W (ji W0.heap.size J Jx pre e' W)) :
  ∀(n:Nat) (ad:Option Addr) (cap:Nat) (pre:List (VX W0)) (W:World),AE W0 e ad cap→Below W0.heap.size W0 W→J pre W→pre.length+e.args.sz+1≤N →
   CallsIn F n Tryz.prog 69 #[.agg #[.int .i64 e.k,.string e.nm,.int .i64 e.n,.int .i64 e.d,.slice ad e.args.len cap,.int .i64 e.a],.func (.yield l) #[] #[]] W (ji W0.heap.size J Jx pre e W):=by
 intro n ad cap pre W hae hb hj hN
 obtain⟨k,nm,nn,d,args,a⟩:=e
 have hlen:=hae.len
 simp only at hlen hN ih ⊢
 have hdd:∀k:Nat,(F.depth.isSome=true→1≤k):=fun k h=>by rw[hd] at h;cases h
 have hsz0:=hb.size
 obtain⟨X,hX1,hX2⟩:∃X:VX W0,X.vs=#[.agg #[.int .i64 k,.string nm,.int .i64 nn,.int .i64 d,.slice ad args.len cap,.int .i64 a]]∧X.e=⟨k,nm,nn,d,args,a⟩:=⟨⟨⟨k,nm,nn,d,args,a⟩,ad,cap,hae⟩,rfl,rfl⟩
 obtain⟨fn,tmps,assign,body,hy,hR⟩:=hY (n-1) pre X (W.alloc (Obj.cells #[.int .i64 k,.string nm,.int .i64 nn,.int .i64 d,.slice ad args.len cap,.int .i64 a] 92)) (Q4 hJ hj _) oq
 rw[hX1] at hy
 have HX2:=hid hX2
 clear hX1 hX2
 have HA:=hid hae
 have HB:=hid hb
 have HIH:=hid ih
 have HR:=hid hR
 clear hae hb ih hR hj
 refine callsIn_of_wp Tryz.func69 rfl hF ?_ hro
 simp only[Tryz.ntmps69,ZH,Zp,Zv,Nat.reduceAdd,Nat.reduceSub,ZE,ZD,ZK,ZI,ZL,ZB]
 gi_wp2
 refine HR.out.mono ?_
 rintro e W1 (⟨rfl,hJ1,hk1⟩|⟨rfl,hJx⟩)
 ·have hbox:=hk1.same W.heap.size _ (Yt W _) rfl
  obtain⟨⟨x0,x1,x2,x3,x4,x5⟩,xf⟩:=Y0 hbox
  have HJ1:=hid hJ1
  have HK1:=hid ((KC.refl W0.heap.size W).alloc hsz0 _ |>.trans hk1)
  clear hJ1 hk1 hbox
  gi_wp2
  gi_loopw [14] (fun v wr=>Hid (Zcr W0.heap.size J pre ⟨k,nm,nn,d,args,a⟩ ad W v wr)) (fun i _=>args.len-(intOf i).toNat)
  case atStart=>exact⟨0,args,[X],rfl,X3.start HA.out.args,by simp only[List.map_cons,List.map_nil,List.singleton_append,HX2.out],HJ1.out,HK1.out⟩
  obtain⟨i,rest,ys,rfl,hrest,hys,hj2,hk2⟩:=hrel.out
  clear hrel
  simp only at hys
  have HK2:=hid hk2
  have HJ2:=hid hj2
  have hil:=hrest.1
  simp only at hil
  have hbw:Below W0.heap.size W0 wr:=HB.out.trans hk2.below
  have HRS0:=hid hrest
  have HRS:=hid (hrest.below hbw)
  have HBW:=hid hbw
  have hszw:=hbw.size
  clear hk2 hj2 hrest hbw
  cases rest with
  | nil =>
   have hil':(i:Int)=(args.len:Int):=by simp only[PL.len] at hil;omega
   simp only[Xo,List.append_nil] at hys
   have HYS:=hid hys
   clear hys
   gi_wp2
   go_ret
   exact .inl ⟨rfl,⟨ys,HYS.out,HJ2.out⟩,HK2.out⟩
  | cons k1 nm1 n1 d1 args1 a1 tl =>
   have hil':(i:Int)<(args.len:Int):=by simp only[PL.len] at hil;omega
   have hrest0:=HRS0.out.2.2.resolve_left (by intro h;cases h)
   obtain⟨b,o,rfl,hb,h0,h1,h2,h3,h5,hn,⟨ad1,cap1,h4,hcap1,hcm1,hd1⟩,ht⟩:=HRS.out.2.2.resolve_left (by intro h;cases h)
   obtain⟨b',o',hbo,hb',g0,g1,g2,g3,g5,gn,⟨ad1',cap1',g4,gcap1,gcm1,gd1⟩,gt⟩:=hrest0
   injection hbo with hbo;injection hbo with hbo1 hbo2;subst hbo1;subst hbo2
   have hsub:=HRS0.out.2.1
   simp only[PL.sz] at hsub
   have hlys:=Z1 List.length hys
   simp only[Zw,Zo,G6,Zp,PL.sz] at hlys
   have hee:=(HBW.out.cell (p:=⟨b,o+i*6+4,none⟩) hb').trans g4
   rw[h4] at hee
   injection hee with hee;injection hee with he1 he2 he3
   subst he1;subst he3
   have HE:=hid (show AE W0 ⟨k1,nm1,n1,d1,args1,a1⟩ ad1 cap1 from ⟨gn,⟨gcap1,gcm1⟩,gd1⟩)
   have HC:=hid (HIH.out ⟨k1,nm1,n1,d1,args1,a1⟩ (by show args1.sz<args.sz;omega) (n-1) ad1 cap1 (pre++ys) (wr.alloc (Obj.cells #[.int .i64 k1,.string nm1,.int .i64 n1,.int .i64 d1,.slice ad1 args1.len cap1,.int .i64 a1] 92)) HE.out (HBW.out.alloc hszw _) (Q4 hJ HJ2.out _) (by simp only[Zw];omega))
   simp only at HC
   have HYS:=hid hys
   clear hn hd1 ht g0 g1 g2 g3 g5 gn g4 gd1 gt gcap1 gcm1 hb' hys hlys
   gi_wp2_with ((try refine⟨hdd _,?_⟩);gi_at_call 69;refine HC.out.mono ?_;rintro x w2 (⟨rfl,⟨zs,hzs,hj3⟩,hk3⟩|⟨rfl,q,hq,hjx⟩))
   ·go_roundw
    case rel=>exact⟨i+1,tl,ys++zs,by go_num,HRS0.out.tail,by rw[ZT,hzs,←HYS.out,Xo];simp,by rw[←List.append_assoc];exact hj3,(HK2.out.alloc hszw _).trans hk3⟩
    simp[intOf];omega
   go_ret
   refine .inr ⟨rfl,ys++q,?_,by rw[←List.append_assoc];exact hjx⟩
   obtain⟨r,hr⟩:=hq
   refine⟨r++Xo tl,?_⟩
   rw[ZT,←HYS.out,Xo,←ZB,←hr]
   simp
 gi_wp2
 go_ret
 exact .inr ⟨rfl,[X],⟨Xo args,by simp only[List.map_cons,List.map_nil,List.singleton_append,HX2.out]⟩,hJx⟩
attribute [local go_sem] ZS
theorem qU {W0:World} (F:Fence) (hd:F.depth=none) (hF:F.fn 69) (hro:F.round=none) (l B N:Nat) (J Jx:List (VX W0)→World→Prop) (hJ:AbidesFrom B J)
  (hY:∀m pre x W,J pre W→pre.length<N→YieldAt F m Tryz.prog l x.vs W fun e W'=>(e=.returned (.bool true)∧J (pre++[x]) W'∧KC W0.heap.size W W')∨(e=.returned (.bool false)∧Jx (pre++[x]) W')) :
  ∀(e:PE) (n:Nat) (ad:Option Addr) (cap:Nat) (pre:List (VX W0)) (W:World),AE W0 e ad cap→Below W0.heap.size W0 W→J pre W→pre.length+e.args.sz+1≤N →
   CallsIn F n Tryz.prog 69 #[.agg #[.int .i64 e.k,.string e.nm,.int .i64 e.n,.int .i64 e.d,.slice ad e.args.len cap,.int .i64 e.a],.func (.yield l) #[] #[]] W (ji W0.heap.size J Jx pre e W):=by
 intro e
 suffices h:∀(M:Nat) (e:PE),e.args.sz<M→∀(n:Nat) (ad:Option Addr) (cap:Nat) (pre:List (VX W0)) (W:World),AE W0 e ad cap→Below W0.heap.size W0 W→J pre W→pre.length+e.args.sz+1≤N →
   CallsIn F n Tryz.prog 69 #[.agg #[.int .i64 e.k,.string e.nm,.int .i64 e.n,.int .i64 e.d,.slice ad e.args.len cap,.int .i64 e.a],.func (.yield l) #[] #[]] W (ji W0.heap.size J Jx pre e W) from h _ e (ZU _)
 intro M
 induction M with
 | zero=>intro e h;omega
 | succ M ih=>intro e h;exact xp F hd hF hro l B N J Jx hJ hY e (fun e' h'=>ih e' oq)
def XD:List FL→List PE
 | []=>[]
 | f::l=>f.e::(Xo f.e.args++XD l)
def Zct {W0:World} (J:List (VX W0)→World→Prop) (flows:List FL) (W:World) (v:Value) (wr:World):Prop :=
 ∃(i:Nat) (ys:List (VX W0)),v=.int .i64 (i:Int)∧i≤flows.length∧ys.map (·.e)++XD (flows.drop i)=XD flows∧J ys wr∧KC W0.heap.size W wr
theorem qW {W0:World} (F:Fence) (hd:F.depth=none) (hG:F.fn 114) (hF:F.fn 69) (hro:F.round=none) (n l B Bs:Nat) (flows:List FL) (af:Option Addr) (cf:Nat)
  (hr:Row FlC 8 W0 flows af) (hc1:flows.length≤cf) (hc2:cf≤9223372036854775807) (J Jx:List (VX W0)→World→Prop) (hJ:AbidesFrom B J)
  (hY:∀m pre x W,J pre W→pre.length<(XD flows).length→YieldAt F m Tryz.prog l x.vs W fun e W'=>(e=.returned (.bool true)∧J (pre++[x]) W'∧KC W0.heap.size W W')∨(e=.returned (.bool false)∧Jx (pre++[x]) W'))
  (W:World) (hB:Below W0.heap.size W0 W) (hbx:W.cell? ⟨Bs,0,none⟩=some (.slice af flows.length cf)) (h0:J [] W) :
  CallsIn F n Tryz.prog 114 #[.func (.yield l) #[] #[],.pointer (some ⟨Bs,0,none⟩)] W fun e W'=>(∃v,e=.returned v) ∧
   ((∃xs:List (VX W0),xs.map (·.e)=XD flows∧J xs W')∨(∃pre:List (VX W0),pre.map (·.e) <+: XD flows∧Jx pre W')):=by
 have hdd:∀k:Nat,(F.depth.isSome=true→1≤k):=fun k h=>by rw[hd] at h;cases h
 have hfl64:flows.length≤9223372036854775807:=Zm hc1 hc2
 have HV:=hid (qU F hd hF hro l B (XD flows).length J Jx hJ hY)
 have HR:=hid hr
 have HB:=hid hB
 have HJ0:=hid h0
 have hsz0:=hB.size
 clear hr hY hB h0
 refine callsIn_of_wp Tryz.func114 rfl hG ?_ hro
 simp only[Tryz.ntmps114,ZH,Zp,Zv,Nat.reduceAdd,Nat.reduceSub,ZE,ZD,ZK,ZI,ZL,ZB]
 gi_wp2
 gi_loopw [7] (fun v wr=>Hid (Zct J flows W v wr)) (fun i _=>flows.length-(intOf i).toNat)
 case atStart=>exact⟨0,[],rfl,Zk _,rfl,HJ0.out,KC.refl _ _⟩
 obtain⟨i,ys,rfl,hi,hys,hj,hk⟩:=hrel.out
 clear hrel
 have hbw:Below W0.heap.size W0 wr:=HB.out.trans hk.below
 have HBW:=hid hbw
 have HK:=hid hk
 have HJY:=hid hj
 have hszw:=hbw.size
 by_cases hlt:i<flows.length
 ·obtain⟨bb,oo,rfl,hbb0,hfl0⟩:=HR.out.at hlt
  have hfl':=hfl0.later hbw hbb0
  have hbb:=Zd hbb0 hszw
  rw[EQ hlt] at hys
  obtain⟨f,hf⟩:∃f,flows[i]=f:=⟨_,rfl⟩
  rw[hf] at hfl' hfl0 hys
  obtain⟨nm,⟨k1,nm1,n1,d1,args1,a1⟩,fa⟩:=f
  obtain⟨ad,cap,y0,y1,y2,y3,y4,y5,y6,y7,hae,hfn⟩:=hfl'.cells
  obtain⟨ad',cap',_,_,_,_,_,y5',_,_,hae',_⟩:=hfl0.cells
  have hee:=(hbw.cell (p:=⟨bb,oo+i*8+5,none⟩) hbb0).trans y5'
  rw[y5] at hee
  injection hee with hee;injection hee with he1 he2 he3
  subst he1;subst he3
  have hlys:=Z1 List.length hys
  simp only[Zw,Zo,XD,Zp,G6] at hlys
  have HC:=hid (HV.out ⟨k1,nm1,n1,d1,args1,a1⟩ (n-1) ad cap ys (wr.alloc (Obj.cells #[.string nm,.int .i64 k1,.string nm1,.int .i64 n1,.int .i64 d1,.slice ad args1.len cap,.int .i64 a1,.int .i64 fa] 104)) hae' (hbw.alloc hszw _) (Q4 hJ hj _) (by show ys.length+args1.sz+1≤_;omega))
  simp only at HC
  have hie:(i:Int)<(flows.length:Int):=oq
  have HYS:=hid hys
  clear hbw hk hj hfl' hfl0 hae hae' y5' hfn hbb0 hys hlys
  gi_wp2_with ((try refine⟨hdd _,?_⟩);gi_at_call 69;refine HC.out.mono ?_;rintro x w2 (⟨rfl,⟨zs,hzs,hj3⟩,hk3⟩|⟨rfl,q,hq,hjx⟩))
  ·go_roundw
   case rel=>exact⟨i+1,ys++zs,by go_num,oq,by rw[ZT,hzs,←HYS.out,XD];simp,hj3,(HK.out.alloc hszw _).trans hk3⟩
   simp[intOf];omega
  refine Zl (results_none rfl _ _ _) rfl ?_
  refine⟨⟨_,rfl⟩,.inr ⟨ys++q,?_,hjx⟩⟩
  obtain⟨r,hr⟩:=hq
  refine⟨r++XD (flows.drop (i+1)),?_⟩
  rw[ZT,←HYS.out,XD,←ZB,←hr]
  simp
 have hie:i=flows.length:=oq
 subst hie
 have HYS:=hid (show ys.map (·.e)=XD flows by rw[Ym] at hys;simpa [XD] using hys)
 clear hbw hk hj hys
 gi_wp2
 go_end0
 exact⟨⟨_,rfl⟩,.inl ⟨ys,HYS.out,HJY.out⟩⟩
theorem Uk {W0:World} (F:Fence) (hd:F.depth=none) (hG:F.fn 114) (hF:F.fn 69) (hro:F.round=none) (n Bs:Nat) (flows:List FL) (af:Option Addr) (cf:Nat)
  (hr:Row FlC 8 W0 flows af) (hc1:flows.length≤cf) (hc2:cf≤9223372036854775807) (w:World) (hBs:Bs<w.heap.size) (hB:Below W0.heap.size W0 w) (hbx:w.cell? ⟨Bs,0,none⟩=some (.slice af flows.length cf)) :
  SeqStopsK F n Tryz.prog 114 #[.pointer (some ⟨Bs,0,none⟩)] (fun x:VX W0=>x.vs) (KC W0.heap.size) (fun xs=>xs.map (·.e)=XD flows) (fun pre=>pre.map (·.e) <+: XD flows) (XD flows).length w:=fun l J Jx W hW hJ hJx hY h0 =>
 qW F hd hG hF hro n l W.heap.size Bs flows af cf hr hc1 hc2 J Jx hJ (fun m pre x W hj hl=>YieldAt.deep hd m (hY pre x W hj hl)) W (hB.trans (hW.mono hB.size)) ((hW.cell (p:=⟨Bs,0,none⟩) hBs).trans hbx) h0
theorem X0 {w:World} (af:Option Addr) (n c:Nat):Calls Tryz.prog 71 #[.slice af n c] w fun e w'=>e=.returned (.func (.func 114) #[] #[.pointer (some ⟨w.heap.size,0,none⟩)])∧w'=w.alloc (.cells #[.slice af n c] 24):=by
 go_enter Tryz.func71,Tryz.ntmps71
 go_wp2
 go_ret
 exact⟨rfl,rfl⟩
open Go.RowKit Go.Shelf
attribute [local go_sem] ZS
def okE (env:Env) (e:PE):Bool:=decide (e.k≠2)||ckA env e.args
def Q6 (env:Env) (flows:List FL):Bool:=(XD flows).all (okE env)
theorem EE {w:World} (flows:List FL) (af:Option Addr) (cf mb:Nat) (L:List (ByteArray × Value)) (env:Env) (hr:Row FlC 8 w flows af) (hc1:flows.length≤cf) (hc2:cf≤9223372036854775807)
  (hM:YJ w mb L) (hE:Xt L env) :
  Calls Tryz.prog 43 #[.map (some mb),.slice af flows.length cf] w fun x w'=>Ev (Q6 env flows) x∧Below w.heap.size w w':=by
 have HR:=hid hr
 have HM:=hid hM
 clear hr hM
 have HWI:=hid (fun w=>X0 (w:=w) af flows.length cf)
 refine(Zs (n:=6)).1 ?_
 refine callsIn_of_wp_marks Tryz.func43 rfl trivial ?_ rfl
 simp only[Tryz.ntmps43,ZH,Zp,Zv,Nat.reduceAdd,Nat.reduceSub,ZE,ZD,ZK,ZI,ZL,ZB]
 gi_wp2_with (refine⟨trivial,?_⟩;gi_at_call 71;refine(Zs.2 (HWI.out _)).mono ?_;rintro e w' ⟨rfl,rfl⟩)
 have bM:=(((Boxed.new w 111 (.map (some mb))).alloc (.cells #[.int .i64 0] 3)).alloc (.cells #[.int .i64 0] 38)).alloc (.cells #[.slice af flows.length cf] 24)
 have bA:=((Boxed.new (w.alloc (.cells #[.map (some mb)] 111)) 3 (.int .i64 0)).alloc (.cells #[.int .i64 0] 38)).alloc (.cells #[.slice af flows.length cf] 24)
 have bE:=(Boxed.new ((w.alloc (.cells #[.map (some mb)] 111)).alloc (.cells #[.int .i64 0] 3)) 38 (.int .i64 0)).alloc (.cells #[.slice af flows.length cf] 24)
 have bS:=Boxed.new (((w.alloc (.cells #[.map (some mb)] 111)).alloc (.cells #[.int .i64 0] 3)).alloc (.cells #[.int .i64 0] 38)) 24 (.slice af flows.length cf)
 simp only[Zt] at bA bE bS
 have hB0:Below w.heap.size w ((((w.alloc (.cells #[.map (some mb)] 111)).alloc (.cells #[.int .i64 0] 3)).alloc (.cells #[.int .i64 0] 38)).alloc (.cells #[.slice af flows.length cf] 24)):=bq
 have hsz:((((w.alloc (.cells #[.map (some mb)] 111)).alloc (.cells #[.int .i64 0] 3)).alloc (.cells #[.int .i64 0] 38)).alloc (.cells #[.slice af flows.length cf] 24)).heap.size=w.heap.size+4:=by simp
 obtain⟨W0,hW0⟩:∃W0,(((w.alloc (.cells #[.map (some mb)] 111)).alloc (.cells #[.int .i64 0] 3)).alloc (.cells #[.int .i64 0] 38)).alloc (.cells #[.slice af flows.length cf] 24)=W0:=⟨_,rfl⟩
 try simp only[Zt]
 rw[hW0] at bM bA bE bS hB0 hsz ⊢
 clear hW0
 have hszw:w.heap.size≤W0.heap.size:=oq
 refine wpIn_rangeFunc_ownH (encs:=fun x:VX w=>#[.agg #[.int .i64 x.e.k,.string x.e.nm,.int .i64 x.e.n,.int .i64 x.e.d,.slice x.ad x.e.args.len x.cap,.int .i64 x.e.a]]) rfl oq (gf:=114) (lb:=#[.pointer (some ⟨w.heap.size+1+1+1,0,none⟩)]) rfl trivial (enters_of Tryz.func114 kq rfl)
  (Uk (W0:=w) Fence.wide rfl trivial trivial rfl _ (w.heap.size+1+1+1) flows af cf HR.out hc1 hc2 W0 oq hB0 bS.cell) (fun h k=>h.trans k) (fun W l o o' hl h hc _=>KC.putObj W l o o' oq h hc) (Zg _ _) (fun _=>rfl)
  (fun pre W=>((Boxed W w.heap.size 111 (.map (some mb))∧Boxed W (w.heap.size+1) 3 (.int .i64 0))∧Boxed W (w.heap.size+1+1) 38 (.int .i64 0))∧Below w.heap.size w W∧(pre.map (·.e)).all (okE env)=true)
  (fun c pre W=>∃a er,((Boxed W (w.heap.size+1) 3 (.int .i64 a)∧Boxed W (w.heap.size+1+1) 38 (.int .i64 er))∧Below w.heap.size w W)∧(c=.ret∧er≠0∧(pre.map (·.e)).all (okE env)=false))
  (OwnFrom.and (OwnFrom.and (OwnFrom.and (Own.from (boxed_own _ _ _) _) (Own.from (boxed_own _ _ _) _)) (Own.from (boxed_own _ _ _) _)) (OwnFrom.and (ownFrom_below (Zc _) hszw) (ownFrom_pure _ _)))
  (fun c s X Y row hs hg hrw=>by
   obtain⟨a,er,⟨⟨h1,h2⟩,h3⟩,h4⟩:=hs
   exact⟨a,er,⟨⟨boxed_own _ _ (fun(_:Unit)=>Value.int .i64 a) () X Y row h1 hg (fun r e=>(hrw r e).2),boxed_own _ _ (fun(_:Unit)=>Value.int .i64 er) () X Y row h2 hg (fun r e=>(hrw r e).2)⟩,ownFrom_below (β:=Unit) (Zc _) hszw () X Y row h3 hg hrw⟩,h4⟩)
  ⟨⟨⟨bM,bA⟩,bE⟩,hB0,rfl⟩
  (fun x a' W=>∃Bx,w.heap.size+1+1<Bx∧W.heap[Bx]?=some (.cells #[.int .i64 x.e.k,.string x.e.nm,.int .i64 x.e.n,.int .i64 x.e.d,.slice x.ad x.e.args.len x.cap,.int .i64 x.e.a] 92 (0,0)) ∧
   a'={ tmps:=#[.map (some mb),.slice af flows.length cf,.pointer (some ⟨w.heap.size,0,none⟩),undef,.pointer (some ⟨w.heap.size+1,0,none⟩),.pointer (some ⟨w.heap.size+1+1,0,none⟩),.pointer (some ⟨Bx,0,none⟩),undef,undef,.slice af flows.length cf,
    .func (.func 114) #[] #[.pointer (some ⟨w.heap.size+1+1+1,0,none⟩)],.agg #[.int .i64 x.e.k,.string x.e.nm,.int .i64 x.e.n,.int .i64 x.e.d,.slice x.ad x.e.args.len x.cap,.int .i64 x.e.a],undef,undef,undef,undef,undef,undef,undef,undef,undef,undef,undef,undef,undef],defers:=[] })
  (fun x a' _ X Y row hs hg hrw=>by
   obtain⟨Bx,h1,h2,h3⟩:=hs
   refine⟨Bx,h1,(hg.block Bx (Zq.1 h2).1 (fun e=>?_)).trans h2,h3⟩
   obtain⟨_,o,ho,hc⟩:=hrw Bx e.symm
   rw[h2] at ho;cases ho;cases hc)
  ?assign ?body ?done ?stop
 case assign =>
  rintro l pre x W K ⟨⟨⟨bM1,bA1⟩,bE1⟩,hB1,hall⟩ hK
  gi_wp2
  exact hK _ _ ((KeepsOthers.alloc _ _).from _) ((KC.refl _ W).alloc hB1.size _) ⟨⟨⟨bM1.alloc _,bA1.alloc _⟩,bE1.alloc _⟩,hB1.alloc hB1.size _,hall⟩ ⟨W.heap.size,bE1.lt,Yt W _,rfl⟩
 case body =>
  rintro l pre ⟨⟨k1,nm1,n1,d1,args1,a1⟩,ad1,cap1,hok⟩ a' W hl ⟨r,hr⟩ ⟨⟨⟨bM1,bA1⟩,bE1⟩,hB1,hall⟩ ⟨Bx,hBx,hxb,rfl⟩ hlt
  simp only at hxb
  have cM:=bM1.cell
  obtain⟨⟨x0,x1,x2,x3,x4,x5⟩,xf⟩:=Y0 hxb
  have hsW:=hB1.size
  by_cases hk2:k1=2
  ·subst hk2
   have HC:=hid (zC (w:=W) ⟨2,nm1,n1,d1,args1,a1⟩ ad1 cap1 mb L env (hok.below hB1) (HM.out.below hB1) hE)
   simp only at HC
   cases hck:ckA env args1 with
   | true =>
    rw[hck] at HC
    have hall2:((pre++[(⟨⟨2,nm1,n1,d1,args1,a1⟩,ad1,cap1,hok⟩:VX w)]).map (·.e)).all (okE env)=true:=by
     rw[ZT,List.all_append,hall];simp[okE,hck]
    gi_wp2_with (refine⟨trivial,?_⟩;gi_at_call 72;refine(CallsIn.inRound l (Zs.2 HC.out)).mono ?_;rintro e w2 ⟨he,hb2⟩;obtain rfl:e=.returned (.tuple #[.int .i64 0,.int .i64 0]):=he)
    exact⟨⟨hb2.size,fun k o _ hk _=>(hb2.block k (Zb hk)).trans hk⟩,(KC.refl _ W).of_below hb2 hsW,⟨⟨⟨(hb2.block _ bM1.lt).trans bM1,(hb2.block _ bA1.lt).trans bA1⟩,(hb2.block _ bE1.lt).trans bE1⟩,hB1.trans (hb2.mono hsW),hall2⟩⟩
   | false =>
    rw[hck] at HC
    have hall2:((pre++[(⟨⟨2,nm1,n1,d1,args1,a1⟩,ad1,cap1,hok⟩:VX w)]).map (·.e)).all (okE env)=false:=by
     rw[ZT,List.all_append];simp[okE,hck]
    gi_wp2_with (refine⟨trivial,?_⟩;gi_at_call 72;refine(CallsIn.inRound l (Zs.2 HC.out)).mono ?_;rintro e w2 ⟨⟨ab,eb,heb,rfl⟩,hb2⟩;have heb':(eb == 0)=false:=ZW.2 heb;have bA2:Boxed w2 (w.heap.size+1) 3 (.int .i64 0):=(hb2.block _ bA1.lt).trans bA1;have bE2:Boxed w2 (w.heap.size+1+1) 38 (.int .i64 0):=(hb2.block _ bE1.lt).trans bE1;have cA:=bA2.cell;have fA:=bA2.frozen;have cE:=bE2.cell;have fE:=bE2.frozen)
    exact⟨(show KeepsFrom W0.heap.size W w2 from ⟨hb2.size,fun k o _ hk _=>(hb2.block k (Zb hk)).trans hk⟩).trans (((KeepsOthers.setCell _ _ _).trans (KeepsOthers.setCell _ _ _)).from _),ab,eb,⟨⟨(bA2.set _).other oq _,(bE2.other oq _).set _⟩,((hB1.trans (hb2.mono hsW)).setCell (p:=⟨w.heap.size+1,0,none⟩) (by simp) _).setCell (p:=⟨w.heap.size+1+1,0,none⟩) (by simp;omega) _⟩,rfl,heb,hall2⟩
  have hk2':(k1 == 2)=false:=ZW.2 hk2
  have hall2:((pre++[(⟨⟨k1,nm1,n1,d1,args1,a1⟩,ad1,cap1,hok⟩:VX w)]).map (·.e)).all (okE env)=true:=by
   rw[ZT,List.all_append,hall];simp[okE,hk2]
  gi_wp2
  exact⟨KeepsFrom.refl _ _,KC.refl _ _,⟨⟨⟨bM1,bA1⟩,bE1⟩,hB1,hall2⟩⟩
 case done =>
  rintro D zs W hD hzs ⟨⟨⟨bM1,bA1⟩,bE1⟩,hB1,hall⟩ hK
  have h1:Q6 env flows=true:=by unfold Q6;rw[←hzs];exact hall
  have cA:=bA1.cell
  have fA:=bA1.frozen
  have cE:=bE1.cell
  have fE:=bE1.frozen
  gi_wp2
  have hK2:((W.setCell ⟨w.heap.size+1,0,none⟩ (.int .i64 0)).setCell ⟨w.heap.size+1+1,0,none⟩ (.int .i64 0)).heap[D]?=some (.deferred (some [])):=((KeepsOthers.setCell _ _ _).trans (KeepsOthers.setCell _ _ _)).same D _ hK rfl
  refine⟨by simp,.inl ⟨_,_,rfl,run_takeDeferred hK2,?_⟩⟩
  have bA3:=(((bA1.set (.int .i64 0)).other (show w.heap.size+1≠w.heap.size+1+1 by omega) (.int .i64 0)).kept (grownBy_putObj' _ D (.deferred none)) (by intro e;injection e with e;omega)).cell
  have bE3:=(((bE1.other (show w.heap.size+1+1≠w.heap.size+1 by omega) (.int .i64 0)).set (.int .i64 0)).kept (grownBy_putObj' _ D (.deferred none)) (by intro e;injection e with e;omega)).cell
  refine⟨.tuple #[.int .i64 0,.int .i64 0],?_,?_,?_⟩
  ·simp only[results,Tryz.results43];go_simp
  ·unfold Ev;rw[Z0 h1];rfl
  exact((hB1.setCell (p:=⟨w.heap.size+1,0,none⟩) (by simp) _).setCell (p:=⟨w.heap.size+1+1,0,none⟩) (by simp;omega) _).trans (KC.putObj (n₀:=w.heap.size) _ D _ _ oq hK2 rfl).below
 rintro D c pre W hD hpre ⟨a,er,⟨⟨bA1,bE1⟩,hB1⟩,rfl,her,hall⟩ hK
 have h1:Q6 env flows=false:=by
  unfold Q6
  obtain⟨t,ht⟩:=hpre
  rw[←ht,List.all_append,hall];rfl
 have cA:=bA1.cell
 have fA:=bA1.frozen
 have cE:=bE1.cell
 have fE:=bE1.frozen
 gi_wp2
 refine⟨by simp,.inl ⟨_,_,rfl,run_takeDeferred hK,?_⟩⟩
 have bA3:=(bA1.kept (grownBy_putObj' _ D (.deferred none)) (by intro e;injection e with e;omega)).cell
 have bE3:=(bE1.kept (grownBy_putObj' _ D (.deferred none)) (by intro e;injection e with e;omega)).cell
 refine⟨.tuple #[.int .i64 a,.int .i64 er],?_,?_,?_⟩
 ·simp only[results,Tryz.results43];go_simp
 ·unfold Ev;rw[ZZ (by rw[h1];decide)];exact⟨a,er,her,rfl⟩
 exact hB1.trans (KC.putObj (n₀:=w.heap.size) _ D _ _ oq hK rfl).below
def UQ:List IN→Env→Env
 | [],e=>e
 | x::l,e=>UQ l (upd e x.nm (x.per,x.ph))
def YX (ins:List IN):Env:=UQ ins (fun _=>none)
def Jf (env:Env) (nm:ByteArray):Int × Int:=(env nm).getD (0,0)
def Za8 (w:World) (v:Value) (l:List (Int × Int)):Prop :=
 ∃b,v=.slice (some ⟨b,0,none⟩) l.length l.length∧b<w.heap.size∧∀i (h:i<l.length),w.cell? ⟨b,i*2,none⟩=some (.int .i64 l[i].1)∧w.cell? ⟨b,i*2+1,none⟩=some (.int .i64 l[i].2)
theorem js {l:List IN} {i:Nat} (h:i<l.length):l.drop i=l[i]::l.drop (i+1):=by rw[ZM h]
theorem zG {w:World} {r:Nat} {arr:Array Value} {t:TypeId} (h:w.heap[r]?=some (.cells arr t (0,0))) (o:Nat) (u:Value) :
  (w.setCell ⟨r,o,none⟩ u).heap[r]?=some (.cells (arr.setIfInBounds o u) t (0,0)):=by
 have hlt:=Zb h
 have h':w.heap[r]=.cells arr t (0,0):=by simpa [Yk hlt] using h
 show(w.heap.modify r _)[r]?=_
 rw[Yk (by simpa using hlt),Array.getElem_modify_self,h']
 rfl
theorem GR {w:World} {r:Nat} {arr:Array Value} {t:TypeId} (h:w.heap[r]?=some (.cells arr t (0,0))) (o:Nat):w.cell? ⟨r,o,none⟩=arr[o]?∧w.frozen? ⟨r,o,none⟩=false:=by
 constructor
 ·simp[World.cell?,h]
 simp[World.frozen?,h]
structure CW (w W wr:World) (mb:Nat):Prop where
 upon:Upon mb W wr
 size:w.heap.size<W.heap.size
 below:Below w.heap.size w W
 mb:w.heap.size<mb
theorem CW.low {w W wr:World} {mb:Nat} (h:CW w W wr mb):Below w.heap.size w wr:=h.below.trans (h.upon.below (Nat.le_of_lt h.size) (Nat.le_of_lt h.mb))
def Zce (w W:World) (mb:Nat) (ins:List IN) (v:Value) (wr:World):Prop :=
 ∃(i:Nat) (env:Env) (L:List (ByteArray × Value)),v=.int .i64 (i:Int)∧i≤ins.length∧CW w W wr mb∧YJ wr mb L∧Xt L env∧UQ (ins.drop i) env=YX ins
def Zcf (w W:World) (mb b:Nat) (env:Env) (L:List (ByteArray × Value)) (flows:List FL) (v:Value) (wr:World):Prop :=
 ∃(i:Nat) (arr:Array Value),v=.int .i64 (i:Int)∧i≤flows.length∧Upon b W wr∧wr.heap[b]?=some (.cells arr 50 (0,0))∧arr.size=flows.length*2 ∧
  ∀j (h:j<flows.length),j<i→arr[j*2]?=some (.int .i64 (Jf env flows[j].nm).1)∧arr[j*2+1]?=some (.int .i64 (Jf env flows[j].nm).2)
theorem InC.later {w wr:World} {b o:Nat} {f:IN} (h:InC w b o f) (hb:Below w.heap.size w wr) (hlt:b<w.heap.size):InC wr b o f:=KM w wr b o f hb hlt h
theorem kj:Xt [] (fun _=>none):=fun nm=>rfl
theorem j7:(Tryz.prog.info? 50).map (fun i=>(i.zero,i.size,i.bytes))=some (some (.agg #[.int .i64 0,.int .i64 0]),2,16):=by kernel_rfl
theorem yl (n:Nat) (hn:n≤1000) (w:World):(Instr.makeSlice 31 (.int .i64 (n:Int)) (.int .i64 (n:Int))).run Tryz.prog w=.ok (.slice (some ⟨w.heap.size,0,none⟩) n n) (w.alloc (.cells (madeCells #[.int .i64 0,.int .i64 0] (n*2)) 50)):=by
 obtain⟨i,hi,hzz⟩:=Option.map_eq_some_iff.1 j7
 simp only[Z2] at hzz
 obtain⟨hz,hs,hb⟩:=hzz
 have hr:=run_make (P:=Tryz.prog) w 31 50 i _ Tryz.underlying31 hi hz .i64 .i64 n n oq (Int.le_refl _) (by rw[hb];omega) oq
 have hc:(Value.agg #[.int .i64 0,.int .i64 0]).cells=#[.int .i64 0,.int .i64 0]:=by first|rfl|simp[Value.cells]
 rw[hc,hs] at hr
 simpa using hr
theorem uC (w:World) {ops:Array Oper} {rest:List Oper} {o:Oper} {a:Act} {Q:Exit→Act→World→Prop} (hg:o.guard=none) (l c:Operand) (hop:o.op=Op.makeSlice 31 l c)
  (n:Nat) (hl:a.eval l=.int .i64 (n:Int)) (hc:a.eval c=.int .i64 (n:Int)) (hn:n≤1000)
  (hK:wpList Tryz.prog ops Q rest (a.put o.dst (.slice (some ⟨w.heap.size,0,none⟩) n n)) (w.alloc (.cells (madeCells #[.int .i64 0,.int .i64 0] (n*2)) 50))):wpList Tryz.prog ops Q (o::rest) a w:=by
 refine wpList_plain hg fun K hK'=>?_
 have hrun:=yl n hn w
 unfold Oper.wp
 simp[execOp,hop,hl,hc,hrun,Result.andThen]
 exact hK' _ _ hK
theorem vE (n:Nat):(madeCells #[.int .i64 0,.int .i64 0] (n*2)).size=n*2:=size_madeCells _ _
end Go.Proofs.YtlhlcdjiafdoeaaGreatDoor.syn
