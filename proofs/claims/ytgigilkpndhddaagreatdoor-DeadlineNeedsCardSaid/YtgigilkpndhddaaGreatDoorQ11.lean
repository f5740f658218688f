/-
  Parts of the proof: PgA, NoFrz, Name.
-/
import Derived.ChangeReads
import Derived.Test.YtgigilkpndhddaaGreatDoorQ04
import Derived.Test.YtgigilkpndhddaaGreatDoorQ10
namespace Go.Proofs.YtgigilkpndhddaaGreatDoor.syn
set_option linter.unusedVariables false
set_option linter.unusedSimpArgs false
set_option linter.unnecessarySimpa false
set_option maxRecDepth 100000
set_option maxHeartbeats 16000000
open Go.RowKit Go.ChangeShapes Go.WideShapes
structure ND where
 nm:ByteArray
 ps:List ByteArray
 bud:Int
 body:PE
 a:Int
structure IN where
 nm:ByteArray
 per:Int
 ph:Int
 a:Int
structure FL where
 nm:ByteArray
 e:PE
 a:Int
structure OU where
 nm:ByteArray
 fl:ByteArray
 dl:Int
 a:Int
structure PG where
 nodes:List ND
 ins:List IN
 flows:List FL
 outs:List OU
def El (w:World) (b o:Nat) (e:PE):Prop :=
 ∃ad cap,w.cell? ⟨b,o,none⟩=some (.int .i64 e.k)∧w.cell? ⟨b,o+1,none⟩=some (.string e.nm)∧w.cell? ⟨b,o+2,none⟩=some (.int .i64 e.n)∧w.cell? ⟨b,o+3,none⟩=some (.int .i64 e.d) ∧
  w.cell? ⟨b,o+4,none⟩=some (.slice ad e.args.len cap)∧w.cell? ⟨b,o+5,none⟩=some (.int .i64 e.a)∧AE w e ad cap
def KL (w:World) (b o:Nat) (x:ND):Prop :=
 w.cell? ⟨b,o,none⟩=some (.string x.nm)∧(∃ad cap,w.cell? ⟨b,o+1,none⟩=some (.slice ad x.ps.length cap)∧x.ps.length≤cap∧cap≤9223372036854775807∧Row xJ 1 w x.ps ad)∧w.cell? ⟨b,o+2,none⟩=some (.int .i64 x.bud) ∧
  El w b (o+3) x.body∧w.cell? ⟨b,o+9,none⟩=some (.int .i64 x.a)∧(x.nm.size≤9223372036854775807∧I64 x.bud∧I64 x.a)
def InC (w:World) (b o:Nat) (x:IN):Prop :=
 w.cell? ⟨b,o,none⟩=some (.string x.nm)∧w.cell? ⟨b,o+1,none⟩=some (.int .i64 x.per)∧w.cell? ⟨b,o+2,none⟩=some (.int .i64 x.ph)∧w.cell? ⟨b,o+3,none⟩=some (.int .i64 x.a)∧(x.nm.size≤9223372036854775807∧I64 x.per∧I64 x.ph∧I64 x.a)
def FlC (w:World) (b o:Nat) (x:FL):Prop :=
 w.cell? ⟨b,o,none⟩=some (.string x.nm)∧El w b (o+1) x.e∧w.cell? ⟨b,o+7,none⟩=some (.int .i64 x.a)∧(x.nm.size≤9223372036854775807∧I64 x.a)
def OuC (w:World) (b o:Nat) (x:OU):Prop :=
 w.cell? ⟨b,o,none⟩=some (.string x.nm)∧w.cell? ⟨b,o+1,none⟩=some (.string x.fl)∧w.cell? ⟨b,o+2,none⟩=some (.int .i64 x.dl)∧w.cell? ⟨b,o+3,none⟩=some (.int .i64 x.a)∧(x.nm.size≤9223372036854775807∧x.fl.size≤9223372036854775807∧I64 x.dl∧I64 x.a)
theorem El.below {w w':World} {b o:Nat} {e:PE} (hb:Below w.heap.size w w') (hlt:b<w.heap.size) (h:El w b o e):El w' b o e:=by
 obtain⟨ad,cap,h0,h1,h2,h3,h4,h5,h6⟩:=h
 have hc:∀o,w'.cell? ⟨b,o,none⟩=w.cell? ⟨b,o,none⟩:=fun o=>hb.cell (p:=⟨b,o,none⟩) hlt
 exact⟨ad,cap,(hc _).trans h0,(hc _).trans h1,(hc _).trans h2,(hc _).trans h3,(hc _).trans h4,(hc _).trans h5,h6.below hb⟩
theorem Qq:Sta xJ:=fun w w' b o x hb hlt h=>⟨(hb.cell (p:=⟨b,o,none⟩) hlt).trans h.1,h.2⟩
theorem JI:Sta KL:=fun w w' b o x hb hlt h=>by
 have hc:∀o,w'.cell? ⟨b,o,none⟩=w.cell? ⟨b,o,none⟩:=fun o=>hb.cell (p:=⟨b,o,none⟩) hlt
 obtain⟨h0,⟨ad,cap,h1,h2,h3,h4⟩,h5,h6,h7,h8⟩:=h
 exact⟨(hc _).trans h0,⟨ad,cap,(hc _).trans h1,h2,h3,h4.below Qq hb⟩,(hc _).trans h5,h6.below hb hlt,(hc _).trans h7,h8⟩
theorem KJ:Sta InC:=fun w w' b o x hb hlt h=>by
 have hc:∀o,w'.cell? ⟨b,o,none⟩=w.cell? ⟨b,o,none⟩:=fun o=>hb.cell (p:=⟨b,o,none⟩) hlt
 obtain⟨h0,h1,h2,h3,h4⟩:=h
 exact⟨(hc _).trans h0,(hc _).trans h1,(hc _).trans h2,(hc _).trans h3,h4⟩
theorem JU:Sta FlC:=fun w w' b o x hb hlt h=>by
 have hc:∀o,w'.cell? ⟨b,o,none⟩=w.cell? ⟨b,o,none⟩:=fun o=>hb.cell (p:=⟨b,o,none⟩) hlt
 obtain⟨h0,h1,h2,h3⟩:=h
 exact⟨(hc _).trans h0,h1.below hb hlt,(hc _).trans h2,h3⟩
theorem xP:Sta OuC:=fun w w' b o x hb hlt h=>by
 have hc:∀o,w'.cell? ⟨b,o,none⟩=w.cell? ⟨b,o,none⟩:=fun o=>hb.cell (p:=⟨b,o,none⟩) hlt
 obtain⟨h0,h1,h2,h3,h4⟩:=h
 exact⟨(hc _).trans h0,(hc _).trans h1,(hc _).trans h2,(hc _).trans h3,h4⟩
structure AP (w:World) (p:PG) (an ai af ao:Option Addr) (cn ci cf co:Nat):Prop where
 nodes:Row KL 10 w p.nodes an
 ins:Row InC 4 w p.ins ai
 flows:Row FlC 8 w p.flows af
 outs:Row OuC 4 w p.outs ao
 caps:(p.nodes.length≤cn∧cn≤9223372036854775807)∧(p.ins.length≤ci∧ci≤9223372036854775807)∧(p.flows.length≤cf∧cf≤9223372036854775807)∧(p.outs.length≤co∧co≤9223372036854775807)
def pv (p:PG) (an ai af ao:Option Addr) (cn ci cf co:Nat):Value:=.agg #[.slice an p.nodes.length cn,.slice ai p.ins.length ci,.slice af p.flows.length cf,.slice ao p.outs.length co]
theorem AP.below {w w':World} {p:PG} {an ai af ao:Option Addr} {cn ci cf co:Nat} (hb:Below w.heap.size w w') (h:AP w p an ai af ao cn ci cf co):AP w' p an ai af ao cn ci cf co :=
 ⟨h.nodes.below JI hb,h.ins.below KJ hb,h.flows.below JU hb,h.outs.below xP hb,h.caps⟩
section
variable {H:Type} {enc:TypeId × Value→H} {w:World} {base:Nat} {sp:Nat→Bool} {held:Bool}
theorem Qp:(Tryz.prog.fieldsOf 90).toList.map (fun f=>(f.type,f.offset))=[(9,0),(85,1),(2,2),(88,3),(3,9)]:=by kernel_rfl
theorem GV:Tryz.prog.underlying 90=some (.struct (Tryz.prog.fieldsOf 90)):=by kernel_rfl
theorem Eh:Tryz.prog.cellsOf 90=10:=by kernel_rfl
theorem Ud:(Tryz.prog.fieldsOf 109).toList.map (fun f=>(f.type,f.offset))=[(9,0),(2,1),(2,2),(3,3)]:=by kernel_rfl
theorem gA:Tryz.prog.underlying 109=some (.struct (Tryz.prog.fieldsOf 109)):=by kernel_rfl
theorem Zbc:Tryz.prog.cellsOf 109=4:=by kernel_rfl
theorem Gz:(Tryz.prog.fieldsOf 111).toList.map (fun f=>(f.type,f.offset))=[(9,0),(88,1),(3,7)]:=by kernel_rfl
theorem gk:Tryz.prog.underlying 111=some (.struct (Tryz.prog.fieldsOf 111)):=by kernel_rfl
theorem ZaJ:Tryz.prog.cellsOf 111=8:=by kernel_rfl
theorem V9:(Tryz.prog.fieldsOf 113).toList.map (fun f=>(f.type,f.offset))=[(9,0),(9,1),(2,2),(3,3)]:=by kernel_rfl
theorem kv:Tryz.prog.underlying 113=some (.struct (Tryz.prog.fieldsOf 113)):=by kernel_rfl
theorem Za5:Tryz.prog.cellsOf 113=4:=by kernel_rfl
theorem V8:(Tryz.prog.fieldsOf 27).toList.map (fun f=>(f.type,f.offset))=[(22,0),(23,1),(24,2),(25,3)]:=by kernel_rfl
theorem eY:Tryz.prog.underlying 27=some (.struct (Tryz.prog.fieldsOf 27)):=by kernel_rfl
theorem Zap:Tryz.prog.cellsOf 27=4:=by kernel_rfl
theorem gJ:Tryz.prog.cellsOf 85=1:=by kernel_rfl
theorem gi:Tryz.prog.cellsOf 22=1:=by kernel_rfl
theorem eL:Tryz.prog.cellsOf 23=1:=by kernel_rfl
theorem gH:Tryz.prog.cellsOf 24=1:=by kernel_rfl
theorem kr:Tryz.prog.cellsOf 25=1:=by kernel_rfl
theorem open_strs {n:Nat} {cs:List Value} {x} (h:DataW.trod enc Tryz.prog w base sp held n 85 cs=some x):∃(l:List ByteArray) (ad:Option Addr) (cap:Nat),Row xJ 1 w l ad∧l.length≤cap∧cap≤9223372036854775807∧cs=[.slice ad l.length cap] :=
 open_row Tryz.underlying85 XH oq (fun n cs x h=>by
  obtain⟨s,rfl,_,hs⟩:=DataW.trod_string Tryz.underlying9 h
  exact⟨s,fun b o _ hc=>⟨by have:=hc 0 oq;simpa using this,XJ hs⟩⟩) h
theorem Gb {cs:List Value} {o:Nat} {n:Nat} {y} (h:DataW.trod enc Tryz.prog w base sp held n 88 ((cs.drop o).take 6)=some y) :
  ∃e:PE,∀b p,(∀j,j<6→w.cell? ⟨b,p+j,none⟩=cs[o+j]?)→El w b p e:=by
 obtain⟨e,ad,cap,he,hcs⟩:=(uZ n).1 _ _ h
 refine⟨e,fun b p hc=>⟨ad,cap,?_,?_,?_,?_,?_,?_,he⟩⟩
 ·exact(hc 0 oq).trans ((Jt hcs oq).trans rfl)
 ·exact(hc 1 oq).trans ((Jt hcs oq).trans rfl)
 ·exact(hc 2 oq).trans ((Jt hcs oq).trans rfl)
 ·exact(hc 3 oq).trans ((Jt hcs oq).trans rfl)
 ·exact(hc 4 oq).trans ((Jt hcs oq).trans rfl)
 exact(hc 5 oq).trans ((Jt hcs oq).trans rfl)
theorem vO (n:Nat) (cs:List Value) (x) (h:DataW.trod enc Tryz.prog w base sp held n 90 cs=some x):∃a:ND,∀b o,b<w.heap.size→(∀j,j<10→w.cell? ⟨b,o+j,none⟩=cs[j]?)→KL w b o a:=by
 obtain⟨xs,n,rfl,_,hlen,hxl,hf⟩:=DataW.trod_struct GV h
 obtain⟨y0,h0⟩:=YC Qp hxl hf 0 9 0 1 rfl XH
 obtain⟨y1,h1⟩:=YC Qp hxl hf 1 85 1 1 rfl gJ
 obtain⟨y2,h2⟩:=YC Qp hxl hf 2 2 2 1 rfl Qm
 obtain⟨y3,h3⟩:=YC Qp hxl hf 3 88 3 6 rfl Qw
 obtain⟨y4,h4⟩:=YC Qp hxl hf 4 3 9 1 rfl intCells
 obtain⟨nm,e0,_,w0⟩:=DataW.trod_string Tryz.underlying9 h0
 obtain⟨ps,ad,cap,hr,hp1,hp2,e1⟩:=open_strs h1
 obtain⟨bud,e2,_,w2⟩:=DataW.trod_int Tryz.underlying2 h2
 obtain⟨body,hbody⟩:=Gb h3
 obtain⟨a,e4,_,w4⟩:=DataW.trod_int Tryz.underlying3 h4
 refine⟨⟨nm,ps,bud,body,a⟩,fun b o hb hc=>⟨?_,⟨ad,cap,?_,hp1,hp2,hr⟩,?_,hbody b (o+3) (fun j hj=>by rw[Nat.add_assoc];exact hc (3+j) oq),?_,XJ w0,QN w2,QN w4⟩⟩
 ·exact(hc 0 oq).trans (one_cell e0)
 ·exact(hc 1 oq).trans (one_cell e1)
 ·exact(hc 2 oq).trans (one_cell e2)
 exact(hc 9 oq).trans (one_cell e4)
theorem Zbu (n:Nat) (cs:List Value) (x) (h:DataW.trod enc Tryz.prog w base sp held n 109 cs=some x):∃a:IN,∀b o,b<w.heap.size→(∀j,j<4→w.cell? ⟨b,o+j,none⟩=cs[j]?)→InC w b o a:=by
 obtain⟨xs,n,rfl,_,hlen,hxl,hf⟩:=DataW.trod_struct gA h
 obtain⟨y0,h0⟩:=YC Ud hxl hf 0 9 0 1 rfl XH
 obtain⟨y1,h1⟩:=YC Ud hxl hf 1 2 1 1 rfl Qm
 obtain⟨y2,h2⟩:=YC Ud hxl hf 2 2 2 1 rfl Qm
 obtain⟨y3,h3⟩:=YC Ud hxl hf 3 3 3 1 rfl intCells
 obtain⟨nm,e0,_,w0⟩:=DataW.trod_string Tryz.underlying9 h0
 obtain⟨per,e1,_,w1⟩:=DataW.trod_int Tryz.underlying2 h1
 obtain⟨ph,e2,_,w2⟩:=DataW.trod_int Tryz.underlying2 h2
 obtain⟨a,e3,_,w3⟩:=DataW.trod_int Tryz.underlying3 h3
 exact⟨⟨nm,per,ph,a⟩,fun b o hb hc=>⟨(hc 0 oq).trans (one_cell e0),(hc 1 oq).trans (one_cell e1),(hc 2 oq).trans (one_cell e2),(hc 3 oq).trans (one_cell e3),XJ w0,QN w1,QN w2,QN w3⟩⟩
theorem ZaH (n:Nat) (cs:List Value) (x) (h:DataW.trod enc Tryz.prog w base sp held n 111 cs=some x):∃a:FL,∀b o,b<w.heap.size→(∀j,j<8→w.cell? ⟨b,o+j,none⟩=cs[j]?)→FlC w b o a:=by
 obtain⟨xs,n,rfl,_,hlen,hxl,hf⟩:=DataW.trod_struct gk h
 obtain⟨y0,h0⟩:=YC Gz hxl hf 0 9 0 1 rfl XH
 obtain⟨y1,h1⟩:=YC Gz hxl hf 1 88 1 6 rfl Qw
 obtain⟨y2,h2⟩:=YC Gz hxl hf 2 3 7 1 rfl intCells
 obtain⟨nm,e0,_,w0⟩:=DataW.trod_string Tryz.underlying9 h0
 obtain⟨e,he⟩:=Gb h1
 obtain⟨a,e2,_,w2⟩:=DataW.trod_int Tryz.underlying3 h2
 exact⟨⟨nm,e,a⟩,fun b o hb hc=>⟨(hc 0 oq).trans (one_cell e0),he b (o+1) (fun j hj=>by rw[Nat.add_assoc];exact hc (1+j) oq),(hc 7 oq).trans (one_cell e2),XJ w0,QN w2⟩⟩
theorem Zat (n:Nat) (cs:List Value) (x) (h:DataW.trod enc Tryz.prog w base sp held n 113 cs=some x):∃a:OU,∀b o,b<w.heap.size→(∀j,j<4→w.cell? ⟨b,o+j,none⟩=cs[j]?)→OuC w b o a:=by
 obtain⟨xs,n,rfl,_,hlen,hxl,hf⟩:=DataW.trod_struct kv h
 obtain⟨y0,h0⟩:=YC V9 hxl hf 0 9 0 1 rfl XH
 obtain⟨y1,h1⟩:=YC V9 hxl hf 1 9 1 1 rfl XH
 obtain⟨y2,h2⟩:=YC V9 hxl hf 2 2 2 1 rfl Qm
 obtain⟨y3,h3⟩:=YC V9 hxl hf 3 3 3 1 rfl intCells
 obtain⟨nm,e0,_,w0⟩:=DataW.trod_string Tryz.underlying9 h0
 obtain⟨fl,e1,_,w1⟩:=DataW.trod_string Tryz.underlying9 h1
 obtain⟨dl,e2,_,w2⟩:=DataW.trod_int Tryz.underlying2 h2
 obtain⟨a,e3,_,w3⟩:=DataW.trod_int Tryz.underlying3 h3
 exact⟨⟨nm,fl,dl,a⟩,fun b o hb hc=>⟨(hc 0 oq).trans (one_cell e0),(hc 1 oq).trans (one_cell e1),(hc 2 oq).trans (one_cell e2),(hc 3 oq).trans (one_cell e3),XJ w0,XJ w1,QN w2,QN w3⟩⟩
theorem ZaE {n:Nat} {cs:List Value} {x} (h:DataW.trod enc Tryz.prog w base sp held n 27 cs=some x) :
  ∃(p:PG) (an ai af ao:Option Addr) (cn ci cf co:Nat),AP w p an ai af ao cn ci cf co∧cs=[.slice an p.nodes.length cn,.slice ai p.ins.length ci,.slice af p.flows.length cf,.slice ao p.outs.length co]:=by
 obtain⟨xs,n,rfl,_,hlen,hxl,hf⟩:=DataW.trod_struct eY h
 rw[Zap] at hlen
 obtain⟨y0,h0⟩:=YC V8 hxl hf 0 22 0 1 rfl gi
 obtain⟨y1,h1⟩:=YC V8 hxl hf 1 23 1 1 rfl eL
 obtain⟨y2,h2⟩:=YC V8 hxl hf 2 24 2 1 rfl gH
 obtain⟨y3,h3⟩:=YC V8 hxl hf 3 25 3 1 rfl kr
 obtain⟨nodes,an,cn,rn,n1,n2,en⟩:=open_row Tryz.underlying22 Eh oq vO h0
 obtain⟨ins,ai,ci,ri,i1,i2,ei⟩:=open_row Tryz.underlying23 Zbc oq Zbu h1
 obtain⟨flows,af,cf,rf,f1,f2,ef⟩:=open_row Tryz.underlying24 ZaJ oq ZaH h2
 obtain⟨outs,ao,co,ro,o1,o2,eo⟩:=open_row Tryz.underlying25 Za5 oq Zat h3
 refine⟨⟨nodes,ins,flows,outs⟩,an,ai,af,ao,cn,ci,cf,co,⟨rn,ri,rf,ro,⟨n1,n2⟩,⟨i1,i2⟩,⟨f1,f2⟩,⟨o1,o2⟩⟩,?_⟩
 have g0:=one_cell en
 have g1:=one_cell ei
 have g2:=one_cell ef
 have g3:=one_cell eo
 refine List.ext_getElem? fun i=>?_
 by_cases hi:i<4
 ·obtain rfl|rfl|rfl|rfl:i=0∨i=1∨i=2∨i=3:=oq
  ·exact g0
  ·exact g1
  ·exact g2
  exact g3
 rw[Yc oq,Yc (by simp;omega)]
end
def NF (w:World):PL→Nat→Nat→Prop
 | .nil,_,_=>True
 | .cons k nm n d args a tl,b,o=>w.frozen? ⟨b,o,none⟩=false∧(∀b' o' cap,w.cell? ⟨b,o+4,none⟩=some (.slice (some ⟨b',o',none⟩) args.len cap)→NF w args b' o')∧NF w tl b (o+6)
theorem NF.below {w w':World} (hb:Below w.heap.size w w'):∀(l:PL) (b o:Nat),b<w.heap.size→AC w l b o→NF w l b o→NF w' l b o:=by
 intro l
 induction l with
 | nil=>intro b o _ _ _;trivial
 | cons k nm n d args a tl ih1 ih2 =>
  intro b o hlt h hn
  obtain⟨_,_,_,_,_,_,⟨ad,cap,h4,_,_,hd⟩,ht⟩:=h
  obtain⟨n0,n1,n2⟩:=hn
  refine⟨(hb.frozen (p:=⟨b,o,none⟩) hlt).trans n0,fun b' o' cap' hc=>?_,ih2 b _ hlt ht n2⟩
  have hc':=(hb.cell (p:=⟨b,o+4,none⟩) hlt).symm.trans hc
  have h5:=n1 b' o' cap' hc'
  rw[h4] at hc'
  injection hc' with hc'
  injection hc' with e1 _ _
  rcases hd with rfl|⟨b2,o2,e,hb2,hd⟩
  ·trivial
  rw[e1] at e
  injection e with e;injection e with e1 e2
  subst e1;subst e2
  exact ih1 _ _ hb2 hd h5
theorem NF.drop {w:World}:∀(l:PL) (b o:Nat),NF w l b o→True:=fun _ _ _ _=>trivial
section
variable {H:Type} {enc:TypeId × Value→H} {w:World} {base:Nat} {sp:Nat→Bool} {held:Bool}
theorem GA {cs:List Value} {fs:Array Field} {l:List (TypeId × Nat)} {xs:List (DataW H × List MemPlace)} {n:Nat} (hmap:fs.toList.map (fun f=>(f.type,f.offset))=l) (hlen:xs.length=fs.size)
  (hf:∀(i:Nat) (f:Field),fs[i]?=some f→DataW.trod enc Tryz.prog w base sp held n f.type ((cs.drop f.offset).take (Tryz.prog.cellsOf f.type))=xs[i]?) (i:Nat) (ft:TypeId) (o m:Nat) (hl:l[i]?=some (ft,o)) (hc:Tryz.prog.cellsOf ft=m) :
  ∃y∈xs,DataW.trod enc Tryz.prog w base sp held n ft ((cs.drop o).take m)=some y:=by
 obtain⟨f,h1,rfl,rfl⟩:=K1 hmap i ft o hl
 have h2:=hf i f h1
 rw[hc] at h2
 have hi:i<xs.length:=by rw[hlen];exact(Zq.1 h1).1
 rw[Ze hi] at h2
 exact⟨_,Zi hi,h2⟩
theorem qV {xs:List (DataW H × List MemPlace)} (h:w.noneFrozen (xs.flatMap (·.2))) {y} (hy:y∈xs):w.noneFrozen y.2 :=
 fun b o hm=>h b o (List.mem_flatMap.2 ⟨y,hy,hm⟩)
theorem xU (b o n i:Nat):((⟨b,o,none⟩:Addr).add n).add i=⟨b,o+n+i,none⟩:=by
 unfold Addr.add;by_cases h1:n=0<;>by_cases h2:i=0<;>simp[h1,h2]
theorem ZbQ:∀(l:PL) (b o:Nat),AC w l b o→(∀i,i<l.len→w.frozen? ⟨b,o+i*6,none⟩=false) →
  (∀i,i<l.len→∃n cs y,(∀j,j<6→w.cell? ⟨b,o+i*6+j,none⟩=cs[j]?)∧DataW.trod enc Tryz.prog w base sp held n 88 cs=some y∧w.noneFrozen y.2)→NF w l b o:=by
 intro l
 induction l with
 | nil=>intro b o _ _ _;trivial
 | cons k nm n d args a tl ih1 ih2 =>
  intro b o hac hfz hel
  obtain⟨_,_,_,_,_,_,⟨ad,cap,h4,_,_,hd⟩,ht⟩:=hac
  refine⟨by have:=hfz 0 (by simp[PL.len]);simpa using this,fun b' o' cap' hc=>?_,ih2 b (o+6) ht (fun i hi=>?_) (fun i hi=>?_)⟩
  ·rw[h4] at hc
   injection hc with hc
   injection hc with e1 _ e3
   subst e1
   rcases hd with rfl|⟨b2,o2,e,hb2,hd⟩
   ·trivial
   injection e with e;injection e with e1 e2
   subst e1;subst e2
   obtain⟨m,cs,y,hcs,hy,hz⟩:=hel 0 (by simp[PL.len])
   obtain⟨xs,m,rfl,rfl,hlen,hxl,hf⟩:=DataW.trod_struct Vz hy
   obtain⟨y4,hy4,t4⟩:=GA XE hxl hf 4 86 4 1 rfl VP
   have hz4:=qV hz hy4
   have hc4:=hcs 4 oq
   rw[Nat.zero_mul,Nat.add_zero,h4] at hc4
   have h41:(cs.drop 4).take 1=[Value.slice (some ⟨b',o',none⟩) args.len cap]:=by
    rw[List.take_one,List.head?_drop,←hc4];rfl
   rw[h41] at t4
   rcases DataW.trod_slice Tryz.underlying86 t4 with ⟨h,_⟩|⟨a0,len,cp,elems,rest,q,rfl,h,rfl,_,_,_,hl,hall,_⟩
   ·simp at h
   simp at h
   obtain⟨rfl,rfl,rfl⟩:=h
   rw[Qw] at hall hz4
   refine ih1 _ _ hd (fun i hi=>?_) (fun i hi=>?_)
   ·exact hz4 b' (o'+i*6) (List.mem_append_left _ (MemPlace.mem_row.2 ⟨i*6,oq,rfl⟩))
   have h1:=hall i hi
   rw[Ze oq] at h1
   obtain⟨cs',h2,h3⟩:=Option.bind_eq_some_iff.1 h1
   obtain⟨_,_,hcell⟩:=World.cells?_some h2
   refine⟨q,cs',_,fun j hj=>?_,h3,fun b o hm=>hz4 b o (List.mem_append_right _ (List.mem_flatMap.2 ⟨elems[i],List.mem_append_left _ (Zi _),hm⟩))⟩
   have:=hcell j hj
   rw[xU] at this;exact this
  ·have:=hfz (i+1) (by simp[PL.len];omega)
   rw[show o+6+i*6=o+(i+1)*6 by omega];exact this
  obtain⟨m,cs,y,hcs,hy,hz⟩:=hel (i+1) (by simp[PL.len];omega)
  exact⟨m,cs,y,fun j hj=>by rw[show o+6+i*6+j=o+(i+1)*6+j by omega];exact hcs j hj,hy,hz⟩
def NZ (w:World) (nodes:List ND) (an:Option Addr):Prop:=∀b o,an=some ⟨b,o,none⟩→∀i (h:i<nodes.length),∀b' o' cap,
 w.cell? ⟨b,o+i*10+7,none⟩=some (.slice (some ⟨b',o',none⟩) nodes[i].body.args.len cap)→NF w nodes[i].body.args b' o'
theorem gZ {nodes:List ND} {an:Option Addr} {cn n:Nat} {x} (hr:Row KL 10 w nodes an) (h:DataW.trod enc Tryz.prog w base sp held n 22 [.slice an nodes.length cn]=some x) (hz:w.noneFrozen x.2):NZ w nodes an:=by
 intro b o han i hi b' o' cap hc
 subst han
 obtain⟨b2,o2,e,hb,hnode⟩:=hr.at hi
 injection e with e;injection e with e1 e2
 subst e1;subst e2
 obtain⟨_,_,_,⟨ad,cap2,_,_,_,_,h4,_,hae⟩,_⟩:=hnode
 rw[show o+i*10+3+4=o+i*10+7 by omega,hc] at h4
 injection h4 with h4
 injection h4 with h4 _ h6
 subst h4;subst h6
 rcases hae.args with h0|⟨b3,o3,e,hb3,hac⟩
 ·rw[h0];trivial
 injection e with e;injection e with e1 e2
 subst e1;subst e2
 rcases DataW.trod_slice Tryz.underlying22 h with ⟨hcs0,_⟩|⟨a0,len,cp,elems,rest,q,rfl,hcs0,rfl,_,_,_,hl,hall,_⟩
 ·simp at hcs0
 simp only[List.cons.injEq,and_true,Value.slice.injEq,Option.some.injEq] at hcs0
 obtain⟨h01,h02,h03⟩:=hcs0
 subst h01
 subst h02
 rw[Eh] at hall hz
 have h1:=hall i hi
 rw[Ze oq] at h1
 obtain⟨cs',h2,h3⟩:=Option.bind_eq_some_iff.1 h1
 obtain⟨_,_,hcell⟩:=World.cells?_some h2
 have hz1:w.noneFrozen (elems[i]'oq).2:=fun b o hm=>hz b o (List.mem_append_right _ (List.mem_flatMap.2 ⟨elems[i],List.mem_append_left _ (Zi _),hm⟩))
 generalize elems[i]'oq=y at h3 hz1
 obtain⟨xs,m,rfl,rfl,hlen,hxl,hf⟩:=DataW.trod_struct GV h3
 obtain⟨y3,hy3,t3⟩:=GA Qp hxl hf 3 88 3 6 rfl Qw
 have hz3:=qV hz1 hy3
 obtain⟨xs2,m2,rfl,rfl,hlen2,hxl2,hf2⟩:=DataW.trod_struct Vz t3
 obtain⟨y4,hy4,t4⟩:=GA XE hxl2 hf2 4 86 4 1 rfl VP
 have hz4:=qV hz3 hy4
 have hc7:=hcell 7 oq
 rw[xU,hc] at hc7
 have h41:(((cs'.drop 3).take 6).drop 4).take 1=[Value.slice (some ⟨b',o',none⟩) nodes[i].body.args.len cap]:=by
  rw[List.take_one,List.head?_drop,Yn oq,List.getElem?_drop,←hc7];rfl
 rw[h41] at t4
 rcases DataW.trod_slice Tryz.underlying86 t4 with ⟨h,_⟩|⟨a0,len,cp,elems2,rest2,q2,rfl,h,rfl,_,_,_,hl2,hall2,_⟩
 ·simp at h
 simp at h
 obtain⟨rfl,rfl,rfl⟩:=h
 rw[Qw] at hall2 hz4
 refine ZbQ (enc:=enc) (base:=base) (sp:=sp) (held:=held) _ _ _ hac (fun j hj=>?_) (fun j hj=>?_)
 ·exact hz4 b' (o'+j*6) (List.mem_append_left _ (MemPlace.mem_row.2 ⟨j*6,oq,rfl⟩))
 have h1:=hall2 j hj
 rw[Ze oq] at h1
 obtain⟨cs2,h2,h3⟩:=Option.bind_eq_some_iff.1 h1
 obtain⟨_,_,hcell⟩:=World.cells?_some h2
 refine⟨q2,cs2,_,fun i hi=>?_,h3,fun b o hm=>hz4 b o (List.mem_append_right _ (List.mem_flatMap.2 ⟨elems2[j],List.mem_append_left _ (Zi _),hm⟩))⟩
 have:=hcell i hi
 rw[xU] at this;exact this
end
theorem NZ.below {w w':World} {nodes:List ND} {an:Option Addr} (hr:Row KL 10 w nodes an) (hb:Below w.heap.size w w') (h:NZ w nodes an):NZ w' nodes an:=by
 intro b o han i hi b' o' cap hc
 subst han
 obtain⟨b2,o2,e,hlt,hnode⟩:=hr.at hi
 injection e with e;injection e with e1 e2
 subst e1;subst e2
 obtain⟨_,_,_,⟨ad,cap2,_,_,_,_,h4,_,hae⟩,_⟩:=hnode
 have hc':=(hb.cell (p:=⟨b,o+i*10+7,none⟩) hlt).symm.trans hc
 have hn:=h b o rfl i hi b' o' cap hc'
 rw[show o+i*10+3+4=o+i*10+7 by omega,hc'] at h4
 injection h4 with h4
 injection h4 with h4 _ h6
 subst h4;subst h6
 rcases hae.args with h0|⟨b3,o3,e,hb3,hac⟩
 ·rw[h0];trivial
 injection e with e;injection e with e1 e2
 subst e1;subst e2
 exact hn.below hb _ _ _ hb3 hac
open Go.RowKit lex
theorem ji (c:UInt8) (w:World):Calls Tryz.prog 83 #[.int .u8 (c.toNat:Int)] w fun e w'=>e=.returned (.bool (zd c))∧w=w':=by
 unfold zd
 generalize (c.toNat:Int)=n
 by_cases h1:(97:Int)≤n
 ·by_cases h2:n≤122
  ·have E:=hid (show(decide ((97:Int)≤n)&&decide (n≤122))=true by simp;omega)
   go_enter Tryz.func83,Tryz.ntmps83
   go_wp2
   go_ret
   exact⟨by rw[E.out];first|rfl|(simp;omega),rfl⟩
  have E:=hid (show(decide ((97:Int)≤n)&&decide (n≤122))=false by simp;omega)
  have h2':122<n:=oq
  clear h2
  go_enter Tryz.func83,Tryz.ntmps83
  go_wp2
  go_ret
  exact⟨by rw[E.out];first|rfl|(simp;omega),rfl⟩
 have E:=hid (show(decide ((97:Int)≤n)&&decide (n≤122))=false by simp;omega)
 have h1':n<97:=oq
 clear h1
 go_enter Tryz.func83,Tryz.ntmps83
 go_wp2
 go_ret
 exact⟨by rw[E.out];first|rfl|(simp;omega),rfl⟩
theorem qU (c:UInt8) (w:World):Calls Tryz.prog 84 #[.int .u8 (c.toNat:Int)] w fun e w'=>e=.returned (.bool (zy c))∧w=w':=by
 unfold zy
 generalize (c.toNat:Int)=n
 by_cases h1:(48:Int)≤n
 ·by_cases h2:n≤57
  ·have E:=hid (show(decide ((48:Int)≤n)&&decide (n≤57))=true by simp;omega)
   go_enter Tryz.func84,Tryz.ntmps84
   go_wp2
   go_ret
   exact⟨by rw[E.out];first|rfl|(simp;omega),rfl⟩
  have E:=hid (show(decide ((48:Int)≤n)&&decide (n≤57))=false by simp;omega)
  have h2':57<n:=oq
  clear h2
  go_enter Tryz.func84,Tryz.ntmps84
  go_wp2
  go_ret
  exact⟨by rw[E.out];first|rfl|(simp;omega),rfl⟩
 have E:=hid (show(decide ((48:Int)≤n)&&decide (n≤57))=false by simp;omega)
 have h1':n<48:=oq
 clear h1
 go_enter Tryz.func84,Tryz.ntmps84
 go_wp2
 go_ret
 exact⟨by rw[E.out];first|rfl|(simp;omega),rfl⟩
theorem Yv {a b:Bool} (h:a=b):Ending.returned (.bool a)=.returned (.bool b):=by rw[h]
def qN:Obj:=.cells #[.string ⟨#[110,111,100,101]⟩,.string ⟨#[98,117,100,103,101,116]⟩,.string ⟨#[105,110,112,117,116]⟩,.string ⟨#[112,101,114,105,111,100]⟩,.string ⟨#[112,104,97,115,101]⟩,.string ⟨#[102,108,111,119]⟩,.string ⟨#[102,98,121]⟩,.string ⟨#[116,97,105,108]⟩,.string ⟨#[111,117,116,112,117,116]⟩,.string ⟨#[100,101,97,100,108,105,110,101]⟩] 9
theorem gI (w:World) (j:Nat) (hj:j<10):(w.alloc qN).cell? ⟨w.heap.size,j,none⟩=some (.string (VN.getD j ByteArray.empty)):=by
 have hb:(w.alloc qN).heap[w.heap.size]?=some qN:=Yp w qN
 have hb':=hb
 unfold qN at hb'
 have hcw:=fun o=>Z7 _ w.heap.size o _ _ _ hb'
 unfold qN
 rw[hcw]
 match j,hj with
 | 0,_=>rfl
 | 1,_=>rfl
 | 2,_=>rfl
 | 3,_=>rfl
 | 4,_=>rfl
 | 5,_=>rfl
 | 6,_=>rfl
 | 7,_=>rfl
 | 8,_=>rfl
 | 9,_=>rfl
 | j+10,h=>omega
theorem QW (a b:ByteArray):(a.toList == b.toList)=decide (a=b):=by
 rw[Lib.toList_data,Lib.toList_data]
 obtain⟨⟨x⟩⟩:=a
 obtain⟨⟨y⟩⟩:=b
 by_cases h:x=y
 ·subst h;simp
 have:¬((⟨⟨x⟩⟩:ByteArray)=⟨⟨y⟩⟩):=by intro e;injection e with e;injection e with e;exact h e
 rw[ZZ this];simpa using h
def EQ (s:ByteArray):Bool:=Lib.containsS VN s
theorem eP {s:ByteArray} {k:Nat} (hk:k<10) (h:VN.getD k ByteArray.empty=s):EQ s=true:=by
 refine(Lib.containsS_iff _ _).2 ?_
 rw[←h,Zf,Ze (show k<VN.length from hk),Z9]
 exact Zi _
theorem uN {s:ByteArray} (h:∀j,j<10→VN.getD j ByteArray.empty≠s):EQ s=false:=by
 cases hb:EQ s with
 | false=>rfl
 | true =>
  obtain⟨j,hj,he⟩:=Yl ((Lib.containsS_iff _ _).1 hb)
  refine(h j hj ?_).elim
  rw[Zf,Ze hj,Z9];exact he
theorem gK (s:ByteArray) (w:World):Calls Tryz.prog 85 #[.string s] w fun e w'=>e=.returned (.bool (EQ s))∧Below w.heap.size w w':=by
 obtain⟨wb,hwb⟩:∃b,EQ s=b:=⟨_,rfl⟩
 rw[hwb]
 have HWB:=hid hwb
 clear hwb
 have HW:=hid (fun w=>lex.uc w)
 go_enter Tryz.func85,Tryz.ntmps85
 go_wp2_with (go_at_call 123;(with_reducible refine(HW.out _).mono ?_);rintro e w1 ⟨rfl,rfl⟩)
 go_loop [4] (fun i=>∃k:Nat,k≤10∧i=.int .i64 (k:Int)∧Hid (∀j,j<k→VN.getD j ByteArray.empty≠s)) (fun i=>10-(intOf i).toNat)
 case atStart=>exact⟨0,oq,rfl,fun j hj=>oq⟩
 obtain⟨k,hk,rfl,hno⟩:=hrel
 by_cases hlt:k<10
 ·have hcell:=gI w k hlt
  unfold qN at hcell
  obtain⟨x,hx⟩:∃x,VN.getD k ByteArray.empty=x:=⟨_,rfl⟩
  rw[hx] at hcell
  have hb:=QW x s
  have HX:=hid hx
  clear hx
  by_cases he:x=s
  ·rw[Z0 he] at hb
   have HE:=hid he
   clear he
   go_wp2
   go_ret
   exact⟨Yv (by rw[←HWB.out,eP hlt (HX.out.trans HE.out)]),bq⟩
  rw[ZZ he] at hb
  have HE:=hid he
  clear he
  go_wp2
  go_round
  case rel=>exact⟨k+1,oq,by go_num,fun j hj=>by by_cases h:j<k;(· exact hno.out j h);(· obtain rfl:j=k:=oq;rw[HX.out];exact HE.out)⟩
  simp[intOf];omega
 go_wp2
 go_ret
 exact⟨Yv (by rw[←HWB.out,uN (fun j hj=>hno.out j oq)]),bq⟩
def okB (first:Bool) (c:UInt8):Bool:=zd c||(!first&&(zy c||(c.toNat:Int) == 95))
def okL:Bool→List UInt8→Bool
 | _,[]=>true
 | first,c::l=>okB first c&&okL false l
def Xu (s:ByteArray):Bool:=okL true s.data.toList&&!s.data.toList.isEmpty&&decide (s.size≤100)&&!EQ s
theorem drop_byte {s:ByteArray} {k:Nat} (h:k<s.size):s.data.toList.drop k=s[k]::s.data.toList.drop (k+1):=by
 rw[ZN (by simpa using h)];rfl
theorem EM {s:ByteArray} (h:okL true s.data.toList=false):Xu s=false:=by unfold Xu;rw[h];rfl
theorem XN (s:ByteArray) (w:World) (hs:s.size≤9223372036854775807):Calls Tryz.prog 38 #[.string s] w fun e w'=>e=.returned (.bool (Xu s))∧Below w.heap.size w w':=by
 obtain⟨nb,hnb⟩:∃b,Xu s=b:=⟨_,rfl⟩
 rw[hnb]
 have HNB:=hid hnb
 clear hnb
 go_enter Tryz.func38,Tryz.ntmps38
 go_wp2
 go_loop [3] (fun i=>∃k:Nat,k≤s.size∧i=.int .i64 (k:Int)∧Hid (okL true s.data.toList=okL (decide (k=0)) (s.data.toList.drop k))) (fun i=>s.size-(intOf i).toNat)
 case atStart=>exact⟨0,oq,rfl,rfl⟩
 obtain⟨k,hk,rfl,hok⟩:=hrel
 by_cases hlt:k<s.size
 ·have HD:=hid (drop_byte hlt)
  have HS:=hid (fun w=>ji s[k] w)
  have HG:=hid (fun w=>qU s[k] w)
  have HOK:=hid hok.out
  clear hok
  have hOK:=HOK.out
  rw[HD.out,okL] at hOK
  cases h1:zd s[k] with
  | true =>
   rw[h1] at HS
   have HN:=hid (show okL true s.data.toList=okL (decide (k+1=0)) (s.data.toList.drop (k+1)) by rw[hOK];unfold okB;rw[h1];simp)
   clear hOK h1
   go_wp2_with (first|(go_at_call 83;with_reducible refine(HS.out _).mono ?_;rintro e w' ⟨rfl,rfl⟩))
   go_round
   case rel=>exact⟨k+1,oq,by go_num,HN.out⟩
   simp[intOf];omega
  | false =>
   rw[h1] at HS
   by_cases h0:k=0
   ·have HN:=hid (show okL true s.data.toList=false by rw[hOK];unfold okB;rw[h1,Z0 h0];simp)
    have hk0:((k:Int) == 0)=true:=by rw[beq_iff_eq];omega
    clear hOK h1 h0
    go_wp2_with (first|(go_at_call 83;with_reducible refine(HS.out _).mono ?_;rintro e w' ⟨rfl,rfl⟩))
    go_ret
    exact⟨Yv (by rw[←HNB.out,EM HN.out]),bq⟩
   have hk0:((k:Int) == 0)=false:=by rw[ZY];omega
   cases h2:zy s[k] with
   | true =>
    rw[h2] at HG
    have HN:=hid (show okL true s.data.toList=okL (decide (k+1=0)) (s.data.toList.drop (k+1)) by rw[hOK];unfold okB;rw[h1,h2,ZZ h0];simp)
    clear hOK h1 h2
    go_wp2_with (first|(go_at_call 83;with_reducible refine(HS.out _).mono ?_;rintro e w' ⟨rfl,rfl⟩)|(go_at_call 84;with_reducible refine(HG.out _).mono ?_;rintro e w' ⟨rfl,rfl⟩))
    go_round
    case rel=>exact⟨k+1,oq,by go_num,HN.out⟩
    simp[intOf];omega
   | false =>
    rw[h2] at HG
    by_cases h3:(s[k].toNat:Int)=95
    ·have h3':((s[k].toNat:Int) == 95)=true:=by rw[beq_iff_eq];exact h3
     have h4':((s[k].toNat:Int) != 95)=false:=by rw[bne,h3'];rfl
     have HN:=hid (show okL true s.data.toList=okL (decide (k+1=0)) (s.data.toList.drop (k+1)) by rw[hOK];unfold okB;rw[h1,h2,h3',ZZ h0];simp)
     clear hOK h1 h2 h3
     go_wp2_with (first|(go_at_call 83;with_reducible refine(HS.out _).mono ?_;rintro e w' ⟨rfl,rfl⟩)|(go_at_call 84;with_reducible refine(HG.out _).mono ?_;rintro e w' ⟨rfl,rfl⟩))
     go_round
     case rel=>exact⟨k+1,oq,by go_num,HN.out⟩
     simp[intOf];omega
    have h3':((s[k].toNat:Int) == 95)=false:=by rw[ZY];exact h3
    have h4':((s[k].toNat:Int) != 95)=true:=by rw[bne,h3'];rfl
    have HN:=hid (show okL true s.data.toList=false by rw[hOK];unfold okB;rw[h1,h2,h3',ZZ h0];simp)
    clear hOK h1 h2 h3
    go_wp2_with (first|(go_at_call 83;with_reducible refine(HS.out _).mono ?_;rintro e w' ⟨rfl,rfl⟩)|(go_at_call 84;with_reducible refine(HG.out _).mono ?_;rintro e w' ⟨rfl,rfl⟩))
    go_ret
    exact⟨Yv (by rw[←HNB.out,EM HN.out]),bq⟩
 have hke:k=s.size:=oq
 have hok1:okL true s.data.toList=true:=by
  rw[hok.out,List.drop_eq_nil_of_le (by simp[hke])];rfl
 have HWd:=hid (fun w=>gK s w)
 have HOK:=hid hok1
 clear hok hok1
 by_cases he:s.data.toList=[]
 ·have he1:s.toList=[]:=by rw[Lib.toList_data];exact he
  have he2:(!s.toList.isEmpty)=false:=by rw[he1];rfl
  have HE:=hid he
  clear he
  go_wp2_with (first|(go_at_call 85;with_reducible refine(HWd.out _).mono ?_;rintro e w1 ⟨rfl,hb1⟩))
  go_ret
  exact⟨Yv (by rw[←HNB.out];unfold Xu;rw[HE.out];simp),bq⟩
 have he1:s.toList.isEmpty=false:=by rw[Lib.toList_data];simpa using he
 have he2:¬s.toList=[]:=by rw[Lib.toList_data];exact he
 have he3:s.data.toList.isEmpty=false:=by simpa using he
 have HE:=hid he3
 clear he he3
 by_cases h100:s.size≤100
 ·have h100':(s.size:Int)≤100:=oq
  go_wp2_with (first|(go_at_call 85;with_reducible refine(HWd.out _).mono ?_;rintro e w1 ⟨rfl,hb1⟩))
  go_ret
  exact⟨Yv (by rw[←HNB.out];unfold Xu;rw[HOK.out,HE.out,Z0 h100];simp),bq⟩
 have h100':(100:Int)<(s.size:Int):=oq
 go_wp2_with (first|(go_at_call 85;with_reducible refine(HWd.out _).mono ?_;rintro e w1 ⟨rfl,hb1⟩))
 go_ret
 exact⟨Yv (by rw[←HNB.out];unfold Xu;rw[ZZ h100];simp),bq⟩
end Go.Proofs.YtgigilkpndhddaaGreatDoor.syn
