/- Parts of the proof. -/
import Derived.Test.YtlhlcdjiafdoeaaGreatDoorV20
set_option linter.all false
set_option maxRecDepth 100000
set_option maxHeartbeats 16000000
namespace Go.Proofs.YtlhlcdjiafdoeaaGreatDoor.syn
open Go.RowKit Go.Shelf
attribute [local go_sem] ZS
theorem Vy {ℓ n id:Nat} {P:Program} {ops:Array Oper} {Q:Exit→Act→World→Prop} {a:Act} {w:World} {S:World→Prop} (hm:P.follows .mixedOrders=true) (hd:ops.toList.all Ua=true) (hlet:¬LetsOut Q) (hS:S w.drew)
  (h:S w.drew→wpAnyH P .any ops Q S ops.size (Array.replicate ops.size false) a w.drew):(Code.region id ops true).wpIn (Fence.wide.inRound ℓ) n P Q a w :=
 jS hm hd hlet (wpAny_of_held _ _ _ _ (h hS))
noncomputable def Vh (p:PG) (xIx fIx iIx:IE) (e:PE) (way:ByteArray):Nat × List Op3:=@Classical.epsilon (Nat × List Op3) ⟨(0,[])⟩ (fun r=>∃N,Xl p.flows p.ins.length xIx fIx iIx N e way []=some r)
theorem Je {p:PG} {xIx fIx iIx:IE} {e:PE} (h:Y9 p.flows p.ins.length xIx fIx iIx e) (way:ByteArray):∃N,Xl p.flows p.ins.length xIx fIx iIx N e way []=some (Vh p xIx fIx iIx e way):=by
 refine Classical.epsilon_spec (p:=fun r=>∃N,Xl p.flows p.ins.length xIx fIx iIx N e way []=some r) ?_
 obtain⟨N,hN⟩:=h
 cases hg:Xl p.flows p.ins.length xIx fIx iIx N e way [] with
 | none=>exact absurd hg (hN way [])
 | some r=>exact⟨r,N,hg⟩
noncomputable def EV (p:PG) (xIx fIx iIx:IE) (e:PE) (way:ByteArray):Bool:=decide ((Vh p xIx fIx iIx e way).2.length≤20)
def Qm:PL→ByteArray→Nat→List (PE × ByteArray)
 | .nil,_,_=>[]
 | .cons k nm n d args a tl,w,i=>(⟨k,nm,n,d,args,a⟩,w++⟨#[47]⟩++dg i)::Qm tl w (i+1)
theorem J5:∀(l:PL) (w:ByteArray) (i:Nat),(Qm l w i).length=l.len:=by
 intro l
 induction l with
 | nil=>intro w i;rfl
 | cons k nm n d args a tl ih1 ih2=>intro w i;simp only[Qm,Zp,ih2,PL.len]<;>(try omega)
theorem yg:∀(l:PL) (w:ByteArray) (i j:Nat) (c:PE),l.at j=some c→(Qm l w i)[j]?=some (c,w++⟨#[47]⟩++dg (i+j)):=by
 intro l
 induction l with
 | nil=>intro w i j c h;cases h
 | cons k nm n d args a tl ih1 ih2 =>
  intro w i j c h
  cases j with
  | zero=>cases h;rfl
  | succ j =>
   have:=ih2 w (i+1) j c h
   rw[show i+1+j=i+(j+1) by omega] at this
   simp only[Qm,List.getElem?_cons_succ]
   exact this
noncomputable def vp (p:PG) (xIx fIx iIx:IE) (s:PE × ByteArray):Bool:=(Qm s.1.args s.2 0).all (fun k=>EV p xIx fIx iIx k.1 k.2)
noncomputable def eV (p:PG) (xIx fIx iIx:IE) (e:PE) (i:Nat):Bool:=EV p xIx fIx iIx e (dg i)&&((Xg e (dg i)).filter isC).all (vp p xIx fIx iIx)
noncomputable def Jv (p:PG) (xIx fIx iIx:IE):List FL→Nat→Bool
 | [],_=>true
 | f::l,i=>eV p xIx fIx iIx f.e i&&Jv p xIx fIx iIx l (i+1)
theorem zR {p:PG} {xIx fIx iIx:IE} {l:List FL} {i:Nat} (h:i<l.length) (j:Nat):Jv p xIx fIx iIx (l.drop i) j=(eV p xIx fIx iIx l[i].e j&&Jv p xIx fIx iIx (l.drop (i+1)) (j+1)):=by
 rw[ZM h]
 rfl
theorem uQ {α:Type} {f:α→Bool} {l:List α} {j:Nat} (h:j<l.length):(l.take (j+1)).all f=((l.take j).all f&&f l[j]):=by
 rw[Zu h,List.all_append]
 simp only[List.all_cons,List.all_nil,Bool.and_true]
theorem eO {w:World} {b:Nat} {v0 v1 v2 v3 v4 v5 v6 v7:Value} {t:TypeId} (h:w.heap[b]?=some (.cells #[v0,v1,v2,v3,v4,v5,v6,v7] t (0,0))) :
  (w.cell? ⟨b,0,none⟩=some v0∧w.cell? ⟨b,1,none⟩=some v1∧w.cell? ⟨b,2,none⟩=some v2∧w.cell? ⟨b,3,none⟩=some v3∧w.cell? ⟨b,4,none⟩=some v4∧w.cell? ⟨b,5,none⟩=some v5∧w.cell? ⟨b,6,none⟩=some v6∧w.cell? ⟨b,7,none⟩=some v7)∧∀o,w.frozen? ⟨b,o,none⟩=false:=by
 refine⟨⟨?_,?_,?_,?_,?_,?_,?_,?_⟩,?_⟩
 all_goals first|(intro o;simp[World.frozen?,h])|simp[World.cell?,h]
theorem ZcB {W0 w:World} (p:PG) (an ai af ao:Option Addr) (cn ci cf co:Nat) (hp:AP W0 p an ai af ao cn ci cf co) (hok:Jd p) (mc mi mf mn mx m:Nat) (Lc Li Lf Ln Lx:List (ByteArray × Value)) (hM:Mkr W0 p an ai af ao cn ci cf co mc mi mf mn mx m Lc Li Lf Ln Lx w)
  (xIx fIx iIx:IE) (hX:Xf Lx xIx) (hF:Xf Lf fIx) (hI:Xf Li iIx) (hxb:∀k j,xIx k=some j→j≤1000) (e:PE) (way:ByteArray) (ad:Option Addr) (cap:Nat) (hs:X9 W0 e ad cap way) (hE:Y9 p.flows p.ins.length xIx fIx iIx e) :
  Calls Tryz.prog 80 #[.pointer (some ⟨m,0,none⟩),spv e ad cap way] w fun x w'=>x=.returned (.bool (EV p xIx fIx iIx e way))∧Below w.heap.size w w':=by
 obtain⟨N,h⟩:=Je hE way
 exact eW p an ai af ao cn ci cf co hp hok mc mi mf mn mx m Lc Li Lf Ln Lx hM xIx fIx iIx hX hF hI hxb N e way ad cap hs _ _ h
structure AoI (w:World) (m B:Nat) (Ds:List Nat) (X:World):Prop where
 low:Below w.heap.size w X
 size:w.heap.size+1≤B
 bsize:B≤X.heap.size
 b0:Boxed X w.heap.size 116 (.pointer (some ⟨m,0,none⟩))
 marks:Mks w.heap.size Ds X
 under:∀D∈Ds,D<B
section
variable {w:World} {m B:Nat} {Ds:List Nat} {X Y:World}
theorem AoI.keep (h:AoI w m B Ds X) (hb:Below B X Y):AoI w m B Ds Y:=by
 have h4:=h.size
 exact⟨h.low.trans (hb.mono oq),h4,Zm h.bsize hb.size,(hb.block _ oq).trans h.b0,⟨fun D hD=>⟨(h.marks.1 D hD).1,(hb.block D (h.under D hD)).trans (h.marks.1 D hD).2⟩,h.marks.2⟩,h.under⟩
theorem AoI.more (h:AoI w m B Ds X) {B':Nat} (h1:B≤B') (h2:B'≤X.heap.size):AoI w m B' Ds X :=
 ⟨h.low,Zm h.size h1,h2,h.b0,h.marks,fun D hD=>Zd (h.under D hD) h1⟩
theorem AoI.own {row:Option Nat} (h:AoI w m B Ds X) (hg:X.grownBy Y row) (hr:∀r,row=some r→B≤r∧∃o:Obj,X.heap[r]?=some o∧o.isCells=false):AoI w m B Ds Y :=
 h.keep (QB hg hr h.bsize)
theorem AoI.mark (h:AoI w m B Ds X) {D:Nat} (h1:B≤D) (h2:X.heap[D]?=some (.deferred (some []))):AoI w m X.heap.size (D::Ds) X:=by
 have hs:=h.size
 refine⟨h.low,Zm h.size h.bsize,Zc _,h.b0,⟨fun D' hD'=>?_,List.nodup_cons.2 ⟨fun hm=>?_,h.marks.2⟩⟩,fun D' hD'=>?_⟩
 ·rcases ZQ.1 hD' with rfl|hm
  ·exact⟨oq,h2⟩
  exact h.marks.1 D' hm
 ·have:=h.under D hm
  omega
 rcases ZQ.1 hD' with rfl|hm
 ·exact Zb h2
 have:=h.under D' hm
 have:=h.bsize
 omega
theorem AoI.upon (h:AoI w m B Ds X) {r:Nat} (hu:Upon r X Y) (h1:w.heap.size<r) (h2:∃cs t fz,X.heap[r]?=some (.cells cs t fz)):AoI w m B Ds Y:=by
 have h4:=h.size
 have h5:=h.bsize
 refine⟨h.low.trans (hu.below oq (by have:=h.low.size;omega)),h4,Zm h5 hu.size,(hu.block _ oq oq).trans h.b0,⟨fun D hD=>⟨(h.marks.1 D hD).1,?_⟩,h.marks.2⟩,h.under⟩
 have hD1:=(h.marks.1 D hD).2
 refine(hu.block D (Zb hD1) (fun e=>?_)).trans hD1
 obtain⟨cs,t,fz,h3⟩:=h2
 rw[e,h3] at hD1
 cases hD1
end
structure AoR (w:World) (m B:Nat) (Ds:List Nat) (Bt Bf:Nat) (fo:Obj) (b:Bool) (X:World):Prop where
 base:AoI w m B Ds X
 lt:w.heap.size<Bt∧Bt<Bf∧Bf<B
 tb:X.heap[Bt]?=some fo
 fb:Boxed X Bf 4 (.bool b)
section
variable {w:World} {m B:Nat} {Ds:List Nat} {Bt Bf:Nat} {fo:Obj} {b:Bool} {X Y:World}
theorem AoR.keep (h:AoR w m B Ds Bt Bf fo b X) (hb:Below B X Y):AoR w m B Ds Bt Bf fo b Y:=by
 have h4:=h.lt
 exact⟨h.base.keep hb,h4,(hb.block _ oq).trans h.tb,(hb.block _ oq).trans h.fb⟩
theorem AoR.own {row:Option Nat} (h:AoR w m B Ds Bt Bf fo b X) (hg:X.grownBy Y row) (hr:∀r,row=some r→B≤r∧∃o:Obj,X.heap[r]?=some o∧o.isCells=false):AoR w m B Ds Bt Bf fo b Y :=
 h.keep (QB hg hr h.base.bsize)
theorem AoR.put (h:AoR w m B Ds Bt Bf fo b X) (b':Bool):AoR w m B Ds Bt Bf fo b' (X.setCell ⟨Bf,0,none⟩ (.bool b')):=by
 have h4:=h.lt
 exact⟨h.base.upon ((Upon.refl Bf X).setCell (p:=⟨Bf,0,none⟩) (Or.inl rfl) _) oq ⟨_,_,_,h.fb⟩,h4,(Zr _ _ _ _ (show Bt≠Bf by omega)).trans h.tb,h.fb.set _⟩
end
theorem xJ {W0 w:World} (p:PG) (an ai af ao:Option Addr) (cn ci cf co:Nat) (hp:AP W0 p an ai af ao cn ci cf co) (hok:Jd p) (mc mi mf mn mx m:Nat) (Lc Li Lf Ln Lx:List (ByteArray × Value)) (hM:Mkr W0 p an ai af ao cn ci cf co mc mi mf mn mx m Lc Li Lf Ln Lx w)
  (xIx fIx iIx:IE) (hX:Xf Lx xIx) (hF:Xf Lf fIx) (hI:Xf Li iIx) (hxb:∀k j,xIx k=some j→j≤1000) (hE:∀e:PE,YF e=true→Y9 p.flows p.ins.length xIx fIx iIx e) :
  Calls Tryz.prog 48 #[.pointer (some ⟨m,0,none⟩)] w fun x w'=>((x=.returned (.tuple #[.int .i64 0,.int .i64 0])∧Jv p xIx fIx iIx p.flows 0=true)∨(∃a,x=.returned (.tuple #[.int .i64 a,.int .i64 8])∧Jv p xIx fIx iIx p.flows 0=false))∧Below w.heap.size w w':=by
 have hlm:=hM.lt
 have hw0:=hM.low.size
 have hll:=hok.lens
 have HM:=hid hM
 have HP:=hid hp
 have HOK:=hid hok
 have HFW:=hid (fun(w':World) (hb:Below w.heap.size w w') e way ad cap (hs:X9 W0 e ad cap way)=>ZcB (W0:=W0) p an ai af ao cn ci cf co hp hok mc mi mf mn mx m Lc Li Lf Ln Lx (hM.grow hb) xIx fIx iIx hX hF hI hxb e way ad cap hs (hE e hs.good))
 have HAR:=hid (fun(w':World) (hb:Below W0.heap.size W0 w') e c ad cap way i (hs:X9 W0 e ad cap way) (hc:e.args.at i=some c)=>Q5 hb e c ad cap way i hs hc)
 obtain⟨⟨x0,x1,x2,x3,x4,x5,x6,x7,x8⟩,xf⟩:=YN (show w.heap[m]?=_ from hM.box)
 clear hM hp hok hX hF hI hxb hE
 unfold spv at *
 refine(Zs (n:=6)).1 ?_
 refine callsIn_of_wp_marks Tryz.func48 rfl trivial ?_ rfl
 simp only[Tryz.ntmps48,ZH,Zp,Zv,Nat.reduceAdd,Nat.reduceSub,ZE,ZD,ZK,ZI,ZL,ZB]
 gi_wp2
 obtain⟨W1,hW1⟩:∃W1,w.alloc (.cells #[.pointer (some ⟨m,0,none⟩)] 116)=W1:=⟨_,rfl⟩
 rw[hW1]
 have HN1:=hid (show AoI w m W1.heap.size [] W1 from ⟨by rw[←hW1];exact(Zg _ _).alloc (Zc _) _,by rw[←hW1];simp,Zc _,by rw[←hW1];exact Boxed.new _ _ _,⟨by simp,List.nodup_nil⟩,by simp⟩)
 clear hW1 x0 x1 x2 x3 x4 x5 x6 x7 x8 xf
 refine wpIn_loop (fun a' wr=>∃(i:Nat) (Ds:List Nat) (u4 u5 u6 u7 u8 u16 u17 u18 u19 u20 u21 u22 u23 u24 u25 u26 u27 u28 u29 u30 u31 u32 u33 u34 u35 u36 u37 u38 u39 u40 u41 u42 u43 u44 u45 u46 u47 u48 u49 u50 u51 u52:Value),(i≤p.flows.length∧Jv p xIx fIx iIx p.flows 0=Jv p xIx fIx iIx (p.flows.drop i) i∧AoI w m wr.heap.size Ds wr) ∧
  a'={ tmps:=#[.pointer (some ⟨m,0,none⟩),.pointer (some ⟨w.heap.size,0,none⟩),.int .i64 0,.int .i64 0,u4,u5,u6,u7,u8,.pointer (some ⟨m,0,none⟩),.pointer (some ⟨m,0,none⟩),.pointer (some ⟨m,0,none⟩),.pointer (some ⟨m,2,none⟩),.slice af p.flows.length cf,.int .i64 (p.flows.length:Int),.int .i64 (i:Int),u16,u17,u18,u19,u20,u21,u22,u23,u24,u25,u26,u27,u28,u29,u30,u31,u32,u33,u34,u35,u36,u37,u38,u39,u40,u41,u42,u43,u44,u45,u46,u47,u48,u49,u50,u51,u52],defers:=Ds.map mk })
  (fun a' _=>p.flows.length-(intOf (a'.tmps.getD 15 undef)).toNat) ⟨0,[],_,_,_,_,_,_,_,_,_,_,_,_,_,_,_,_,_,_,_,_,_,_,_,_,_,_,_,_,_,_,_,_,_,_,_,_,_,_,_,_,_,_,⟨Zk _,rfl,HN1.out⟩,rfl⟩ ?_
 rintro _ wo ⟨i,Ds,u4,u5,u6,u7,u8,u16,u17,u18,u19,u20,u21,u22,u23,u24,u25,u26,u27,u28,u29,u30,u31,u32,u33,u34,u35,u36,u37,u38,u39,u40,u41,u42,u43,u44,u45,u46,u47,u48,u49,u50,u51,u52,⟨hi,hfa,hN⟩,rfl⟩
 dsimp only
 have HN:=hid hN
 have c0:=hN.b0.cell
 have hsw:=Zm hN.size hN.bsize
 have hlow:=hN.low
 clear hN HN1
 by_cases hlt:i<p.flows.length
 ·have hil:(i:Int)<(p.flows.length:Int):=oq
  have hi0:(0:Int)≤(i:Int):=oq
  rw[zR hlt] at hfa
  have hHF:=hid hfa
  clear hfa
  have HW:=hid (HM.out.low.trans (hlow.mono hw0))
  have HML:=hid (HM.out.grow hlow)
  have HFS:=hid (fun(w':World) (hb:Below W0.heap.size W0 w')=>Qc hb p an ai af ao cn ci cf co HP.out i hlt oq)
  have hfl1:=(HOK.out.flows _ (Zi hlt)).1
  have hfl2:=(HOK.out.flows _ (Zi hlt)).2
  obtain⟨bb,oo,rfl,hbb0,hin0⟩:=HP.out.flows.at hlt
  have hbbw:bb<wo.heap.size:=Zd hbb0 HW.out.size
  have hcb:=fun o=>HW.out.cell (p:=⟨bb,o,none⟩) hbb0
  obtain⟨⟨fnm,⟨k1,nm1,n1,d1,args1,a1⟩,fat⟩,hf⟩:∃f,p.flows[i]=f:=⟨_,rfl⟩
  rw[hf] at hin0 HFS hfl1 hfl2
  have HF:=hid hf
  obtain⟨q0,⟨ad1,cap1,q1,q2,q3,q4,q5,q6,_⟩,q7,_⟩:=hin0
  simp only at q0 q1 q2 q3 q4 q5 q6 q7 HFS hfl1
  unfold pv spv PE.sz at *
  simp only at HFS hfl1
  have y0:=(hcb _).trans q0
  have y1:=(hcb _).trans q1
  have y2:=(hcb _).trans q2
  have y3:=(hcb _).trans q3
  have y4:=(hcb _).trans q4
  have y5:=(hcb _).trans q5
  have y6:=(hcb _).trans q6
  have y7:=(hcb _).trans q7
  have HG2:=hid hfl2
  have hdg:=Ju (i:=i) oq
  clear q0 q1 q2 q3 q4 q5 q6 q7 hcb hf hfl2
  gi_wp2
  obtain⟨W2,hW2⟩:∃W2,wo.alloc (.cells #[.string fnm,.int .i64 k1,.string nm1,.int .i64 n1,.int .i64 d1,.slice ad1 args1.len cap1,.int .i64 a1,.int .i64 fat] 104)=W2:=⟨_,rfl⟩
  rw[hW2]
  have hB2:Below wo.heap.size wo W2:=by rw[←hW2];exact(Zg _ _).alloc (Zc _) _
  have hs2:W2.heap.size=wo.heap.size+1:=by rw[←hW2];simp
  have ht2:W2.heap[wo.heap.size]?=some (.cells #[.string fnm,.int .i64 k1,.string nm1,.int .i64 n1,.int .i64 d1,.slice ad1 args1.len cap1,.int .i64 a1,.int .i64 fat] 104 (0,0)):=by rw[←hW2];exact Yt wo _
  have HT2:=hid ht2
  have HN2:=hid ((HN.out.keep hB2).more (B':=W2.heap.size) oq (Zc _))
  have HM2:=hid (HML.out.grow hB2)
  have HW2:=hid HM2.out.low
  clear y0 y1 y2 y3 y4 y5 y6 y7 c0 hW2 hB2 ht2 hlow
  have c0:=HN2.out.b0.cell
  obtain⟨⟨z0,z1,z2,z3,z4,z5,z6,z7,z8⟩,zf⟩:=YN (show W2.heap[m]?=_ from HM2.out.box)
  have hlm2:=HM2.out.lt
  have lw2:w.heap.size<W2.heap.size:=oq
  have lo2:wo.heap.size<W2.heap.size:=oq
  clear hs2
  have KB:=hid (show ∀W:World,Below W2.heap.size W2 W→(fun w'=>w'.cell? ⟨w.heap.size,0,none⟩=some (.pointer (some ⟨m,0,none⟩))∧w'.cell? ⟨m,0,none⟩=some (.slice an p.nodes.length cn)∧w'.cell? ⟨m,1,none⟩=some (.slice ai p.ins.length ci)∧w'.cell? ⟨m,2,none⟩=some (.slice (some ⟨bb,oo,none⟩) p.flows.length cf)∧w'.cell? ⟨m,3,none⟩=some (.slice ao p.outs.length co)) W from fun W hb=>⟨(hb.cell (p:=⟨w.heap.size,0,none⟩) lw2).trans c0,(hb.cell (p:=⟨m,0,none⟩) hlm2).trans z0,(hb.cell (p:=⟨m,1,none⟩) hlm2).trans z1,(hb.cell (p:=⟨m,2,none⟩) hlm2).trans z2,(hb.cell (p:=⟨m,3,none⟩) hlm2).trans z3⟩)
  clear z0 z1 z2 z3 z4 z5 z6 z7 z8 zf c0
  gi_cut [6] from 20 (fun s6 W=>Hid (∃X,s6=.pointer (some ⟨X,0,none⟩)∧W2.heap.size≤X∧Boxed W X 4 (.bool (EV p xIx fIx iIx ⟨k1,nm1,n1,d1,args1,a1⟩ (dg i)))∧Below W2.heap.size W2 W))
  case first =>
   refine wpIn_wide.2 ?_
   go_region_held3 (fun w'=>w'.cell? ⟨w.heap.size,0,none⟩=some (.pointer (some ⟨m,0,none⟩))∧w'.cell? ⟨m,0,none⟩=some (.slice an p.nodes.length cn)∧w'.cell? ⟨m,1,none⟩=some (.slice ai p.ins.length ci)∧w'.cell? ⟨m,2,none⟩=some (.slice (some ⟨bb,oo,none⟩) p.flows.length cf)∧w'.cell? ⟨m,3,none⟩=some (.slice ao p.outs.length co)) (exact KB.out _ bq) (first|(go_at_call 76;refine(HFS.out _ bq).mono ?_;rintro x w1 ⟨⟨ad2,cap2,rfl,hae⟩,hb1⟩;have hbA:Below W2.heap.size W2 w1:=bq;have hz1:=hbA.size;have HSP:=hid (show X9 W0 ⟨k1,nm1,n1,d1,args1,a1⟩ ad2 cap2 (dg i) from ⟨hae,HG2.out,by show(dg i).size+3*args1.sz≤500;omega,by show args1.sz<100;omega⟩);clear hae;first|(have hca:Boxed w1 W2.heap.size 4 (.bool false):=(hb1.block W2.heap.size (by simp)).trans (Yt W2.drew _);have HCA:=hid hca;clear hca)|skip)|(go_at_call 80;refine(HFW.out _ (HN2.out.low.trans ((show Below W2.heap.size W2 _ from bq).mono oq)) _ _ _ _ HSP.out).mono ?_;rintro x w2 ⟨rfl,hb2⟩;(first|(have hca:Boxed w2 W2.heap.size 4 (.bool false):=(hb2.block _ HCA.out.lt).trans HCA.out;have v0:=hca.cell;have vf:=hca.frozen;have HCB:=hid hca;clear hca)|(have hca:Boxed w2 w1.heap.size 4 (.bool false):=(hb2.block w1.heap.size (by simp)).trans (Yt w1 _);have v0:=hca.cell;have vf:=hca.frozen;have HCB:=hid hca;clear hca)|skip);have hbB:Below W2.heap.size W2 w2:=bq;clear hbA;have hbA:=hbB;clear hbB;have hz2:=hbA.size))
   all_goals
    go_wp2_with fail
    gi_meet
    have hzA:=hbA.size
    first|exact⟨_,rfl,(by first|exact Zc _|assumption|(simp;done)|omega),HCB.out.set _,bq⟩|exact⟨_,rfl,(by first|exact Zc _|assumption|(simp;done)|omega),Yt _ _,bq⟩
  obtain⟨Bf,rfl,hBf,hbf,hB3⟩:=hcut.out
  clear hcut HFS
  obtain⟨W3,rfl⟩:∃W3:World,W3=wc:=⟨_,rfl⟩
  have hlf:=hbf.lt
  have hs3:=hB3.size
  obtain⟨b0,hb0⟩:∃b0,EV p xIx fIx iIx ⟨k1,nm1,n1,d1,args1,a1⟩ (dg i)=b0:=⟨_,rfl⟩
  rw[hb0] at hbf
  have HB0:=hid hb0
  have HR3:=hid (show AoR w m W3.heap.size Ds wo.heap.size Bf (.cells #[.string fnm,.int .i64 k1,.string nm1,.int .i64 n1,.int .i64 d1,.slice ad1 args1.len cap1,.int .i64 a1,.int .i64 fat] 104 (0,0)) b0 W3 from ⟨(HN2.out.keep hB3).more oq (Zc _),⟨oq,oq,hlf⟩,(hB3.block _ oq).trans HT2.out,hbf⟩)
  have HM3:=hid (HM2.out.grow hB3)
  have c0:=HR3.out.base.b0.cell
  clear hb0 hbf hB3 HN2 HM2 HW2 KB HT2 HML HW
  gi_wp2_with (refine⟨trivial,?_⟩;gi_at_call 79;refine(Zs.2 (Vw (w:=W3) m i)).mono ?_;rintro x w5 ⟨rfl,rfl⟩)
  obtain⟨W5,hW5⟩:∃W5,(W3.alloc (.cells #[.pointer (some ⟨m,0,none⟩)] 116)).alloc (.cells #[.int .i64 (i:Int)] 3)=W5:=⟨_,rfl⟩
  rw[hW5]
  have hB5:Below W3.heap.size W3 W5:=by rw[←hW5];exact bq
  have hs5:W5.heap.size=W3.heap.size+2:=by rw[←hW5];simp
  have bx1:Boxed W5 W3.heap.size 116 (.pointer (some ⟨m,0,none⟩)):=by rw[←hW5];exact(Boxed.new _ _ _).alloc _
  have bx2:Boxed W5 (W3.heap.size+1) 3 (.int .i64 (i:Int)):=by rw[←hW5];have:=Boxed.new (W3.alloc (.cells #[.pointer (some ⟨m,0,none⟩)] 116)) 3 (.int .i64 (i:Int));simpa using this
  clear hW5 c0
  have hr5:=HR3.out.keep hB5
  have HR5:=hid (show AoR w m W5.heap.size Ds wo.heap.size Bf (.cells #[.string fnm,.int .i64 k1,.string nm1,.int .i64 n1,.int .i64 d1,.slice ad1 args1.len cap1,.int .i64 a1,.int .i64 fat] 104 (0,0)) b0 W5 from ⟨hr5.base.more oq (Zc _),⟨hr5.lt.1,hr5.lt.2.1,oq⟩,hr5.tb,hr5.fb⟩)
  have HM5:=hid (HM3.out.grow hB5)
  have hB05:=HM5.out.low
  have HBX:=hid HM5.out.box
  have hw5:=hB05.size
  have hs53:W3.heap.size+1<W5.heap.size:=oq
  have hb53:Bf<W5.heap.size:=oq
  clear hr5 HR3 HM3 hB5 hs5
  refine qI (w:=W5) (encs:=fun x:VS W0=>#[.agg #[.int .i64 x.s.1.k,.string x.s.1.nm,.int .i64 x.s.1.n,.int .i64 x.s.1.d,.slice x.ad x.s.1.args.len x.cap,.int .i64 x.s.1.a,.string x.s.2]]) rfl oq (gf:=119) (lb:=#[.pointer (some ⟨W3.heap.size,0,none⟩),.pointer (some ⟨W3.heap.size+1,0,none⟩)]) rfl trivial (enters_of Tryz.func119 kq rfl) (n₀:=W0.heap.size) (Bk:=W3.heap.size) hw5
   (JP p an ai _ ao cn ci cf co HP.out HOK.out mc mi mf mn mx m W3.heap.size (W3.heap.size+1) i _ hlt W5 W3.heap.size oq hB05 HBX.out bx1 bx2) (fun _=>rfl)
   (fun pre X=>AoR w m W5.heap.size Ds wo.heap.size Bf (.cells #[.string fnm,.int .i64 k1,.string nm1,.int .i64 n1,.int .i64 d1,.slice ad1 args1.len cap1,.int .i64 a1,.int .i64 fat] 104 (0,0)) (b0&&(pre.map (fun y:VS W0=>y.s)).all (vp p xIx fIx iIx)) X)
   (fun pre X=>False)
   (fun s X Y row hs hg hr=>hs.own hg hr) (fun s X Y row hs hg hr=>hs.elim) (by simpa using HR5.out)
   (fun x a' X=>∃(Bx:Nat) (u0 u2 u3 u4 u5 u8 u9 u10 u11 u12 u13 u14 u15 u16 u17 u18 u19 u20 u21 u22 u23 u24 u25 u26 u27 u28 u29 u30 u31 u32 u33 u34 u35 u36 u37 u38 u39 u40 u41 u42 u43 u44 u45 u46 u47 u48 u49 u50 u51 u52:Value),(W5.heap.size≤Bx∧X.heap[Bx]?=some (.cells #[.int .i64 x.s.1.k,.string x.s.1.nm,.int .i64 x.s.1.n,.int .i64 x.s.1.d,.slice x.ad x.s.1.args.len x.cap,.int .i64 x.s.1.a,.string x.s.2] 157 (0,0)))∧a'={ tmps:=#[u0,.pointer (some ⟨w.heap.size,0,none⟩),u2,u3,u4,u5,.pointer (some ⟨Bf,0,none⟩),.pointer (some ⟨Bx,0,none⟩),u8,u9,u10,u11,u12,u13,u14,u15,u16,u17,u18,u19,u20,u21,u22,u23,u24,u25,u26,u27,u28,u29,u30,u31,u32,u33,u34,u35,u36,u37,u38,u39,u40,u41,u42,u43,u44,u45,u46,u47,u48,u49,u50,u51,u52],defers:=[] })
   (fun x a' _ X Y row hs hg hrw=>by
    obtain⟨Bx,u0,u2,u3,u4,u5,u8,u9,u10,u11,u12,u13,u14,u15,u16,u17,u18,u19,u20,u21,u22,u23,u24,u25,u26,u27,u28,u29,u30,u31,u32,u33,u34,u35,u36,u37,u38,u39,u40,u41,u42,u43,u44,u45,u46,u47,u48,u49,u50,u51,u52,⟨h1,h2⟩,h3⟩:=hs
    refine⟨Bx,u0,u2,u3,u4,u5,u8,u9,u10,u11,u12,u13,u14,u15,u16,u17,u18,u19,u20,u21,u22,u23,u24,u25,u26,u27,u28,u29,u30,u31,u32,u33,u34,u35,u36,u37,u38,u39,u40,u41,u42,u43,u44,u45,u46,u47,u48,u49,u50,u51,u52,⟨h1,(hg.block Bx (Zq.1 h2).1 (fun e=>?_)).trans h2⟩,h3⟩
    obtain⟨_,o,ho,hc⟩:=hrw Bx e.symm
    rw[h2] at ho;cases ho;cases hc)
   ?assign ?body ?done ?stop
  case assign =>
   rintro l2 pre x X K hIX hK
   gi_wp2
   exact hK _ _ ((Zg _ _).alloc (Zc _) _) (hIX.keep (((Zg _ _).alloc (Zc _) _).mono hIX.base.bsize)) ⟨X.heap.size,_,_,_,_,_,_,_,_,_,_,_,_,_,_,_,_,_,_,_,_,_,_,_,_,_,_,_,_,_,_,_,_,_,_,_,_,_,_,_,_,_,_,_,_,_,_,_,_,_,_,⟨hIX.base.bsize,Yt X _⟩,rfl⟩
  case body =>
   rintro l2 pre ⟨⟨⟨k2,nm2,n2,d2,args2,a2⟩,way2⟩,ad3,cap3,hok3⟩ a' X hl2' ⟨r,hr⟩ hIX ⟨Bx,u0,u2,u3,u4,u5,u8,u9,u10,u11,u12,u13,u14,u15,u16,u17,u18,u19,u20,u21,u22,u23,u24,u25,u26,u27,u28,u29,u30,u31,u32,u33,u34,u35,u36,u37,u38,u39,u40,u41,u42,u43,u44,u45,u46,u47,u48,u49,u50,u51,u52,⟨hBx,hxb⟩,rfl⟩ hlt2
   simp only at hxb
   obtain⟨b1,hb1⟩:∃b1,(b0&&(pre.map (fun y:VS W0=>y.s)).all (vp p xIx fIx iIx))=b1:=⟨_,rfl⟩
   rw[hb1] at hIX
   have HB1:=hid hb1
   have hfew3:args2.sz<100:=hok3.few
   have hls3:=X5 args2
   have HIX:=hid hIX
   have HOK3:=hid hok3
   have HXB:=hid hxb
   obtain⟨⟨x0,x1,x2,x3,x4,x5,x6⟩,xf⟩:=YP hxb
   have hlX:=hIX.base.bsize
   clear hb1 hIX hxb hr hlt2
   gi_wp2
   gi_loopw [36] (fun s36 X2=>Hid (∃j:Nat,s36=.int .i64 (j:Int)∧j≤args2.len∧AoR w m W5.heap.size Ds wo.heap.size Bf (.cells #[.string fnm,.int .i64 k1,.string nm1,.int .i64 n1,.int .i64 d1,.slice ad1 args1.len cap1,.int .i64 a1,.int .i64 fat] 104 (0,0)) (b1&&((Qm args2 way2 0).take j).all (fun k=>EV p xIx fIx iIx k.1 k.2)) X2∧Upon Bf X X2)) (fun s36 _=>args2.len-(intOf s36).toNat)
   case atStart=>exact⟨0,rfl,Zk _,by simpa using HIX.out,Upon.refl _ _⟩
   obtain⟨X2,rfl⟩:∃X2:World,X2=wr:=⟨_,rfl⟩
   obtain⟨j,rfl,hj,hR,hU⟩:=hrel.out
   clear hrel x0 x1 x2 x3 x4 x5 x6 xf
   have hR5:=hR.base.bsize
   have hlf2:Bf<X2.heap.size:=hR.fb.lt
   have hxb2:X2.heap[Bx]?=some _:=(hU.block Bx (Zb HXB.out) oq).trans HXB.out
   obtain⟨⟨x0,x1,x2,x3,x4,x5,x6⟩,xf⟩:=YP hxb2
   have hbx2:=Zb hxb2
   have HR:=hid hR
   have HU:=hid hU
   by_cases hlt5:j<args2.len
   ·have hjl:(j:Int)<(args2.len:Int):=oq
    obtain⟨c,hc,_⟩:=PL.at_some args2 j hlt5
    have hkl:j<(Qm args2 way2 0).length:=by rw[J5];exact hlt5
    have hkj:(Qm args2 way2 0)[j]=(c,way2++⟨#[47]⟩++dg j):=by
     have h:=yg args2 way2 0 j c hc
     rw[Ze hkl,ZC] at h
     exact Option.some.inj h
    have hal:=uQ (f:=fun k:PE × ByteArray=>EV p xIx fIx iIx k.1 k.2) hkl
    rw[hkj] at hal
    have HAL:=hid hal
    have HLX:=hid ((HM.out.low.trans (hR.base.low.mono hw0)).drew)
    have HLW:=hid hR.base.low
    have hlw2:=hR.base.low.size
    have hlw3:w.heap.size<X2.heap.size:=hR.base.b0.lt
    have cb:=hR.base.b0.cell
    have KS:=hid (show ∀W:World,Below X2.heap.size X2 W→(fun w'=>w'.cell? ⟨w.heap.size,0,none⟩=some (.pointer (some ⟨m,0,none⟩))∧w'.cell? ⟨Bx,0,none⟩=some (.int .i64 k2)∧w'.cell? ⟨Bx,1,none⟩=some (.string nm2)∧w'.cell? ⟨Bx,2,none⟩=some (.int .i64 n2)∧w'.cell? ⟨Bx,3,none⟩=some (.int .i64 d2)∧w'.cell? ⟨Bx,4,none⟩=some (.slice ad3 args2.len cap3)∧w'.cell? ⟨Bx,5,none⟩=some (.int .i64 a2)∧w'.cell? ⟨Bx,6,none⟩=some (.string way2)) W from fun W hb=>⟨(hb.cell (p:=⟨w.heap.size,0,none⟩) hlw3).trans cb,(hb.cell (p:=⟨Bx,0,none⟩) hbx2).trans x0,(hb.cell (p:=⟨Bx,1,none⟩) hbx2).trans x1,(hb.cell (p:=⟨Bx,2,none⟩) hbx2).trans x2,(hb.cell (p:=⟨Bx,3,none⟩) hbx2).trans x3,(hb.cell (p:=⟨Bx,4,none⟩) hbx2).trans x4,(hb.cell (p:=⟨Bx,5,none⟩) hbx2).trans x5,(hb.cell (p:=⟨Bx,6,none⟩) hbx2).trans x6⟩)
    have hnx:Bf≠Bx:=oq
    have hnw:Bf≠w.heap.size:=by have:=hR.lt;omega
    have KT:=hid (show ∀(W:World) (v:Value),Below X2.heap.size X2 W→(fun w'=>w'.cell? ⟨w.heap.size,0,none⟩=some (.pointer (some ⟨m,0,none⟩))∧w'.cell? ⟨Bx,0,none⟩=some (.int .i64 k2)∧w'.cell? ⟨Bx,1,none⟩=some (.string nm2)∧w'.cell? ⟨Bx,2,none⟩=some (.int .i64 n2)∧w'.cell? ⟨Bx,3,none⟩=some (.int .i64 d2)∧w'.cell? ⟨Bx,4,none⟩=some (.slice ad3 args2.len cap3)∧w'.cell? ⟨Bx,5,none⟩=some (.int .i64 a2)∧w'.cell? ⟨Bx,6,none⟩=some (.string way2)) (W.setCell ⟨Bf,0,none⟩ v) from fun W v hb=>by
     obtain⟨h0,h1,h2,h3,h4,h5,h6,h7⟩:=KS.out W hb
     have hf:=fun o=>ZF W ⟨Bf,0,none⟩ ⟨Bx,o,none⟩ v hnx
     exact⟨(ZF W ⟨Bf,0,none⟩ ⟨w.heap.size,0,none⟩ v hnw).trans h0,(hf _).trans h1,(hf _).trans h2,(hf _).trans h3,(hf _).trans h4,(hf _).trans h5,(hf _).trans h6,(hf _).trans h7⟩)
    obtain⟨bq9,hbq⟩:∃bq9,(b1&&((Qm args2 way2 0).take j).all (fun k=>EV p xIx fIx iIx k.1 k.2))=bq9:=⟨_,rfl⟩
    rw[hbq] at hR
    have hbf2:=hR.fb
    have HR2:=hid hR
    have HBQ:=hid hbq
    clear hR hU HR hal hkj hbq x0 x1 x2 x3 x4 x5 x6 xf cb hxb2
    gi_wp2
    have hwd:Below X2.heap.size X2 X2.drew:=(Zg _ _).drew
    cases bq9 with
    | true =>
     have cF:=hbf2.cell
     have fF:=hbf2.frozen
     refine Vy (S:=fun w'=>w'.cell? ⟨w.heap.size,0,none⟩=some (.pointer (some ⟨m,0,none⟩))∧w'.cell? ⟨Bx,0,none⟩=some (.int .i64 k2)∧w'.cell? ⟨Bx,1,none⟩=some (.string nm2)∧w'.cell? ⟨Bx,2,none⟩=some (.int .i64 n2)∧w'.cell? ⟨Bx,3,none⟩=some (.int .i64 d2)∧w'.cell? ⟨Bx,4,none⟩=some (.slice ad3 args2.len cap3)∧w'.cell? ⟨Bx,5,none⟩=some (.int .i64 a2)∧w'.cell? ⟨Bx,6,none⟩=some (.string way2)) kq kq (by rintro⟨_,_,h⟩;exact h) (KS.out _ (Zg _ _).drew) (fun hHeld=>?_)
     refine wpAnyH_ready (rs:=[0]) kq (by simp) ?_
     refine ZG (o:=?o1) ?hi1 (fun K hK=>?_) AllReadyH.nil
     case hi1=>(simp only[List.getElem?_toArray,List.getElem?_cons_succ,List.getElem?_cons_zero];rfl)
     go_simp
     refine hK.out _ _ (by exact KS.out _ (Zg _ _).drew) (fun hHeld=>?_)
     clear hK K
     try simp only[Act.put,sA,sB,sC]
     refine tk 1 hHeld ?_
     refine tk 2 hHeld ?_
     refine tk 3 hHeld ?_
     refine tk 4 hHeld ?_
     refine wpAnyH_ready (rs:=[5]) kq (by simp) ?_
     refine ZG (o:=?o6) ?hi6 (fun K hK=>?_) AllReadyH.nil
     case hi6=>(simp only[List.getElem?_toArray,List.getElem?_cons_succ,List.getElem?_cons_zero];rfl)
     (go_simp;go_at_call 81;refine(HAR.out X2.drew HLX.out _ c ad3 cap3 way2 j hok3 hc).mono ?_;rintro x w5 ⟨⟨ad5,cap5,rfl,hsp5⟩,hb5⟩;have HSP5:=hid hsp5;have hbx5:Below X2.heap.size X2 w5:=bq;have hz5:=hbx5.size;clear hsp5;try go_simp)
     refine hK.out _ _ (by exact KS.out _ hbx5) (fun hHeld=>?_)
     clear hK K
     try simp only[Act.put,sA,sB,sC]
     refine wpAnyH_ready (rs:=[6]) kq (by simp) ?_
     refine ZG (o:=?o7) ?hi7 (fun K hK=>?_) AllReadyH.nil
     case hi7=>(simp only[List.getElem?_toArray,List.getElem?_cons_succ,List.getElem?_cons_zero];rfl)
     (go_simp;go_at_call 80;refine(HFW.out w5 (HLW.out.trans (hbx5.mono hlw2)) _ _ _ _ HSP5.out).mono ?_;rintro x w6 ⟨rfl,hb56⟩;have hb6:Below X2.heap.size X2 w6:=bq;have hf6:Boxed w6 Bf 4 (.bool true):=(hb6.block Bf hlf2).trans hbf2;have kz6:=hf6.cell;have kf6:=hf6.frozen;try go_simp)
     refine hK.out _ _ (by exact KS.out _ hb6) (fun hHeld=>?_)
     clear hK K
     try simp only[Act.put,sA,sB,sC]
     refine tk 7 hHeld ?_
     refine wpAnyH_ready (rs:=[8]) kq (by simp) ?_
     refine ZG (o:=?o9) ?hi9 (fun K hK=>?_) AllReadyH.nil
     case hi9=>(simp only[List.getElem?_toArray,List.getElem?_cons_succ,List.getElem?_cons_zero];rfl)
     go_simp
     refine hK.out _ _ (by exact KT.out _ _ hb6) (fun hHeld=>?_)
     clear hK K
     try simp only[Act.put,sA,sB,sC]
     refine Zx kq ?_ _
     gi_wp2
     refine⟨hid ⟨j+1,by go_num,hlt5,?_,?_⟩,by simp[intOf];omega⟩
     ·rw[HAL.out,←Bool.and_assoc,HBQ.out,Bool.true_and]
      exact(HR2.out.keep (hb6.mono hR5)).put _
     exact(HU.out.then_below hb6 (HU.out.size)).setCell (p:=⟨Bf,0,none⟩) (Or.inl rfl) _
    | false =>
     have cF:=hbf2.cell
     have fF:=hbf2.frozen
     refine Vy (S:=fun w'=>w'.cell? ⟨w.heap.size,0,none⟩=some (.pointer (some ⟨m,0,none⟩))∧w'.cell? ⟨Bx,0,none⟩=some (.int .i64 k2)∧w'.cell? ⟨Bx,1,none⟩=some (.string nm2)∧w'.cell? ⟨Bx,2,none⟩=some (.int .i64 n2)∧w'.cell? ⟨Bx,3,none⟩=some (.int .i64 d2)∧w'.cell? ⟨Bx,4,none⟩=some (.slice ad3 args2.len cap3)∧w'.cell? ⟨Bx,5,none⟩=some (.int .i64 a2)∧w'.cell? ⟨Bx,6,none⟩=some (.string way2)) kq kq (by rintro⟨_,_,h⟩;exact h) (KS.out _ (Zg _ _).drew) (fun hHeld=>?_)
     refine wpAnyH_ready (rs:=[0]) kq (by simp) ?_
     refine ZG (o:=?o10) ?hi10 (fun K hK=>?_) AllReadyH.nil
     case hi10=>(simp only[List.getElem?_toArray,List.getElem?_cons_succ,List.getElem?_cons_zero];rfl)
     go_simp
     refine hK.out _ _ (by exact KS.out _ (Zg _ _).drew) (fun hHeld=>?_)
     clear hK K
     try simp only[Act.put,sA,sB,sC]
     refine tk 1 hHeld ?_
     refine tu 2 hHeld ?_
     refine tu 3 hHeld ?_
     refine tu 4 hHeld ?_
     refine tu 5 hHeld ?_
     refine tu 6 hHeld ?_
     refine tk 7 hHeld ?_
     refine wpAnyH_ready (rs:=[8]) kq (by simp) ?_
     refine ZG (o:=?o18) ?hi18 (fun K hK=>?_) AllReadyH.nil
     case hi18=>(simp only[List.getElem?_toArray,List.getElem?_cons_succ,List.getElem?_cons_zero];rfl)
     go_simp
     refine hK.out _ _ (by first|exact KT.out _ _ hwd|exact KT.out _ _ (Zg _ _)) (fun hHeld=>?_)
     clear hK K
     try simp only[Act.put,sA,sB,sC]
     refine Zx kq ?_ _
     gi_wp2
     refine⟨hid ⟨j+1,by go_num,hlt5,?_,?_⟩,by simp[intOf];omega⟩
     ·rw[HAL.out,←Bool.and_assoc,HBQ.out,Bool.false_and]
      first|exact(HR2.out.keep (hwd.mono hR5)).put _|exact HR2.out.put _
     first|exact HU.out.setCell (p:=⟨Bf,0,none⟩) (Or.inl rfl) _|exact(HU.out.then_below hwd (HU.out.size)).setCell (p:=⟨Bf,0,none⟩) (Or.inl rfl) _
   have hjl:¬(j:Int)<(args2.len:Int):=oq
   clear hR hU x0 x1 x2 x3 x4 x5 x6 xf
   gi_wp2
   have hfe:(b0&&((pre++[(⟨(⟨k2,nm2,n2,d2,args2,a2⟩,way2),ad3,cap3,hok3⟩:VS W0)]).map (fun y:VS W0=>y.s)).all (vp p xIx fIx iIx))=(b1&&((Qm args2 way2 0).take j).all (fun k=>EV p xIx fIx iIx k.1 k.2)):=by
    rw[List.take_of_length_le (by rw[J5];omega),←HB1.out,ZT,List.all_append,←Bool.and_assoc]
    simp only[List.map_cons,List.map_nil,List.all_cons,List.all_nil,Bool.and_true,vp]
   refine⟨⟨HU.out.size,fun k o hk ho hc=>(HU.out.block k (Zb ho) oq).trans ho⟩,⟨HU.out.below oq oq,fun k o hk ho hc=>(HU.out.block k (Zb ho) oq).trans ho⟩,?_⟩
   show AoR w m W5.heap.size Ds wo.heap.size Bf _ _ _
   have hh:=HR.out
   rw[←hfe] at hh
   first|exact hh|(rw[List.all_map] at hh;exact hh)
  case done =>
   rintro D zs X hD hzs hIX hK
   obtain⟨bz,hbz⟩:∃bz,(b0&&(zs.map (fun y:VS W0=>y.s)).all (vp p xIx fIx iIx))=bz:=⟨_,rfl⟩
   rw[hbz] at hIX
   have hff:eV p xIx fIx iIx ⟨k1,nm1,n1,d1,args1,a1⟩ i=bz:=by
    rw[←hbz,hzs,HF.out,eV,HB0.out]
   have hHF:=hHF.out
   rw[HF.out] at hHF
   simp only at hHF
   rw[hff] at hHF
   have HHF:=hid hHF
   have HIX:=hid hIX
   have hK:=hid hK
   have cF:=hIX.fb.cell
   obtain⟨⟨y0,y1,y2,y3,y4,y5,y6,y7⟩,yf⟩:=eO hIX.tb
   clear hHF hff hbz hIX hzs
   cases bz with
   | true =>
    gi_wp2
    rw[show((i:Int)+1)=((i+1:Nat):Int) by omega]
    refine⟨⟨i+1,D::Ds,_,_,_,_,_,_,_,_,_,_,_,_,_,_,_,_,_,_,_,_,_,_,_,_,_,_,_,_,_,_,_,_,_,_,_,_,_,_,_,_,_,_,⟨oq,by rw[HHF.out,Bool.true_and],HIX.out.base.mark hD hK.out⟩,rfl⟩,by simp[intOf];omega⟩
   | false =>
    have hlow:=HIX.out.base.low
    gi_wp2
    refine XY (n₀:=w.heap.size) (D::Ds) _ ⟨fun D' hD'=>?_,List.nodup_cons.2 ⟨fun hm=>?_,HIX.out.base.marks.2⟩⟩ (fun w' hk=>?_)
    ·rcases ZQ.1 hD' with rfl|hm
     ·exact⟨oq,hK.out⟩
     exact HIX.out.base.marks.1 D' hm
    ·have:=HIX.out.base.under D hm
     omega
    refine⟨.tuple #[.int .i64 fat,.int .i64 8],?_,.inr ⟨fat,rfl,?_⟩,hlow.trans hk.below⟩
    ·simp only[results,Tryz.results48];go_simp
    rw[HHF.out,Bool.false_and]
  rintro D pre X hD hpre hX hK
  exact hX.elim
 have hie0:i=p.flows.length:=oq
 have hie:¬(i:Int)<(p.flows.length:Int):=oq
 gi_wp2
 refine XY Ds _ HN.out.marks (fun w' hk=>?_)
 refine⟨.tuple #[.int .i64 0,.int .i64 0],?_,.inl ⟨rfl,?_⟩,HN.out.low.trans hk.below⟩
 ·simp only[results,Tryz.results48];go_simp
 first|rfl|(rw[hfa,hie0,Ym];rfl)
end Go.Proofs.YtlhlcdjiafdoeaaGreatDoor.syn
