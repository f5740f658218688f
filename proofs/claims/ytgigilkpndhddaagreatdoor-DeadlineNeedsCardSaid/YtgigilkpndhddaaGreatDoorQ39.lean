/-
  Parts of the proof: Dl15, Dl16, Dl17, Dw1, Dw2.
-/
import Derived.Test.YtgigilkpndhddaaGreatDoorQ00
import Derived.Test.YtgigilkpndhddaaGreatDoorQ38
namespace Go.Proofs.YtgigilkpndhddaaGreatDoor.syn
set_option linter.unusedVariables false
set_option linter.unusedSimpArgs false
set_option linter.unnecessarySimpa false
set_option maxRecDepth 100000
set_option maxHeartbeats 16000000
open Go.RowKit Go.Sort Go.Shelf
structure Zc3 (f:FD) (B:List (Nat × Nat)) (d:Array YA):Prop where
 num:∀i,i<B.length→∃t k:Nat,d[i]!.t=(t:Int)∧t<f.tasks.length∧(tkO f t).node=(k:Int)∧∃h:k<f.nods.length,Vx f B i=f.nods[k].bud
 bnd:∀i,i<B.length→(-1000000000≤d[i]!.d∧d[i]!.d≤30000)∧1≤Vx f B i∧Vx f B i≤1000
 rise:∀i,i+1<B.length→d[i]!.r≤d[i+1]!.r
 need:∀i,i<B.length→∀x∈YT f B i,∃p:Nat,x=(p:Int)∧p<i∧d[p]!.d≤d[i]!.d-Vx f B i∧d[p]!.r≤d[i]!.r
theorem gC {f:FD} {order:List Int} {u:Int} {B:List (Nat × Nat)} (hB:Xv f order u B) {p i:Nat} (hp:p<i) (hi:i<B.length):Ql f (B.getD p (0,0))≤Ql f (B.getD i (0,0)):=by
 have h:=List.pairwise_iff_getElem.1 hB.srt p i oq hi hp
 rw[Zf,Zf,Ze hi,Ze (show p<B.length by omega)]
 unfold RJ at h
 simp only[Z9]
 omega
theorem jR.facts {W:World} {f:FD} {order:List Int} {u:Int} {B:List (Nat × Nat)} {ja:Option Addr} {d:Array YA} (h:jR W f order u B ja d) (hu:u≤20000) (hT:f.tasks.length≤30):Zc3 f B d:=by
 obtain⟨dN,hdN,hsz,hd⟩:=h.from_
 have hsm:X8 dN d:=by rw[hd];exact(QF f B u f.tells dN).trans (Q0 f B _ B.length)
 have hts:=(QF f B u f.tells dN).1
 have hlen:=ze h.win h.ord h.rgf.clk hT hu
 have hdb0:DB 0 dN:=by
  intro p hp
  rw[hsz] at hp
  have h1:=(hdN p hp).2.2.2
  have hb:B[p]?=some (B.getD p (0,0)):=by rw[Zf,Ze hp];rfl
  obtain⟨⟨t,n⟩,hbb⟩:∃b,B.getD p (0,0)=b:=⟨_,rfl⟩
  rw[hbb] at hb h1
  have hm:=(h.win.mem h.ord).1 (Ya hb)
  have hcc:=h.rgf.clk t hm.1
  have h2:=(Qz hcc.1 n).1 hm.2
  have h3:=Int.mul_nonneg (show 0≤(n:Int) by omega) (show 0≤(tkO f t).per by omega)
  have h4:Ql f (t,n)=(tkO f t).ph+(n:Int)*(tkO f t).per:=rfl
  simp only at h1
  omega
 have hdb1:DB 0 (QO f B u dN f.tells):=DB.tells f.tells (fun t ht=>by have h1:=h.rgf.tel t ht;have h2:=clock.Xd.1 (XZ h1.2).1;exact⟨h2.1,h2.2.2.1,h1.1.1⟩) hdb0
 have hdb2:=DB.adjN h.win h.ord h.rgf (hts.trans hsz) hdb1 B.length (Zc _)
 rw[←hd] at hdb2
 refine⟨fun i hi=>?_,fun i hi=>?_,fun i hi=>?_,fun i hi x hx=>?_⟩
 ·have hb:B[i]?=some (B.getD i (0,0)):=by rw[Zf,Ze hi];rfl
  have ht:=(hsm.2 i).1.trans (hdN i hi).1
  have hbu:Vx f B i=(f.nods.getD (tkO f (B.getD i (0,0)).1).node.toNat ⟨0,0⟩).bud:=rfl
  obtain⟨⟨t,n⟩,hbb⟩:∃b,B.getD i (0,0)=b:=⟨_,rfl⟩
  rw[hbb] at hb ht hbu
  have hm:=(h.win.mem h.ord).1 (Ya hb)
  obtain⟨k,h1,h2,_⟩:=h.rgf.node t hm.1
  refine⟨t,k,ht,hm.1,h1,h2,?_⟩
  rw[hbu,h1,ZQ,Zf,Ze h2]
  rfl
 ·have h1:=hdb2 i (by rw[h.sz];exact hi)
  exact⟨oq,zL h.win h.ord h.rgf hi⟩
 ·rw[(hsm.2 i).2.2.1,(hsm.2 (i+1)).2.2.1,(hdN i oq).2.2.1,(hdN (i+1) hi).2.2.1]
  exact gC h.win oq hi
 obtain⟨p,hxp,hlt⟩:=Kj h.win h.ord h.rgf hi hx
 refine⟨p,hxp,hlt,?_,?_⟩
 ·have:=Et h.win h.ord h.rgf (hts.trans hsz) B.length (Zc _) i oq hi p (by rw[←hxp];exact hx)
  rw[hd]
  exact this
 rw[(hsm.2 p).2.2.1,(hsm.2 i).2.2.1,(hdN p oq).2.2.1,(hdN i hi).2.2.1]
 exact gC h.win hlt hi
def S16 (b0 b1 bt ot t bn on k:Nat) (nN cn T ct:Nat) (bud:Int) (w':World):Prop:=w'.cell? ⟨b0,1,none⟩=some (.slice (some ⟨bn,on,none⟩) nN cn)∧w'.cell? ⟨b0,2,none⟩=some (.slice (some ⟨bt,ot,none⟩) T ct)∧w'.cell? ⟨b1,0,none⟩=some (.int .i64 (t:Int))∧w'.cell? ⟨bt,ot+t*4,none⟩=some (.int .i64 (k:Int))∧w'.cell? ⟨bn,on+k*10+2,none⟩=some (.int .i64 bud)
def jv (j:YA):Value:=.agg #[.int .i64 j.t,.int .i64 j.n,.int .i64 j.r,.int .i64 j.d,.slice j.na j.nl j.nc]
theorem qL {w:World} (f:FD) (ai an aT al:Option Addr) (ci cn ct cl:Nat) (hf:FAP w f ai an aT al) (j:YA) (t k:Nat) (bud:Int) (hj:j.t=(t:Int)) (ht:t<f.tasks.length) (hk:(tkO f t).node=(k:Int)) (hkn:k<f.nods.length) (hb:f.nods[k].bud=bud) :
  Calls Tryz.prog 9 #[fv f ai an aT al ci cn ct cl,jv j] w fun x w'=>x=.returned (.int .i64 bud)∧RowKit.Below w.heap.size w w':=by
 have hlens:=hf.lens
 have HF:=hid hf
 clear hf
 unfold fv jv
 obtain⟨W1,hW1⟩:∃W1,(w.alloc (.cells #[.slice ai f.ins.length ci,.slice an f.nods.length cn,.slice aT f.tasks.length ct,.slice al f.tells.length cl] 34)).alloc (.cells #[.int .i64 j.t,.int .i64 j.n,.int .i64 j.r,.int .i64 j.d,.slice j.na j.nl j.nc] 43)=W1:=⟨_,rfl⟩
 have hB:RowKit.Below w.heap.size w W1:=by rw[←hW1];exact bq
 have hq0:W1.heap[w.heap.size]?=some (.cells #[.slice ai f.ins.length ci,.slice an f.nods.length cn,.slice aT f.tasks.length ct,.slice al f.tells.length cl] 34 (0,0)):=by rw[←hW1];exact(RowKit.Below.heap_alloc _ _ _ (by simp)).trans (Yp w _)
 have hq1:W1.heap[w.heap.size+1]?=some (.cells #[.int .i64 j.t,.int .i64 j.n,.int .i64 j.r,.int .i64 j.d,.slice j.na j.nl j.nc] 43 (0,0)):=by
  rw[←hW1]
  have:=Yp (w.alloc (.cells #[.slice ai f.ins.length ci,.slice an f.nods.length cn,.slice aT f.tasks.length ct,.slice al f.tells.length cl] 34)) (.cells #[.int .i64 j.t,.int .i64 j.n,.int .i64 j.r,.int .i64 j.d,.slice j.na j.nl j.nc] 43)
  rwa [Zu] at this
 obtain⟨⟨x0,x1,x2,x3⟩,xf⟩:=Yq hq0
 have z1:=Z7 W1 (w.heap.size+1) 0 _ _ _ hq1
 replace z1:W1.cell? ⟨w.heap.size+1,0,none⟩=some (.int .i64 (t:Int)):=by rw[z1,hj];rfl
 obtain⟨bt,ot,ta,tc,haT,hbtl,z0,_⟩:=GM (HF.out.below hB).tasks ht
 obtain⟨bn,on,han,hbnl,zb⟩:=ed (HF.out.below hB).nods hkn
 rw[hk] at z0
 rw[hb] at zb
 subst haT han
 have KS1:=hid (show S16 w.heap.size (w.heap.size+1) bt ot t bn on k f.nods.length cn f.tasks.length ct bud W1.drew from ⟨x1,x2,z1,z0,zb⟩)
 have HB:=hid hB
 have t0:(0:Int)≤(t:Int):=oq
 have t1:(t:Int)<(f.tasks.length:Int):=oq
 have k0:(0:Int)≤(k:Int):=oq
 have k1:(k:Int)<(f.nods.length:Int):=oq
 clear hq0 hq1 x0 x1 x2 x3 xf z1 z0 zb hB hbtl hbnl hj ht hk hb
 go_enter Tryz.func9,Tryz.ntmps9
 go_upto_region 1 with fail
 first|rw[hW1]|skip
 clear hW1
 refine ZO (S:=S16 w.heap.size (w.heap.size+1) bt ot t bn on k f.nods.length cn f.tasks.length ct bud) kq (by first|with_reducible exact KS1.out) (fun hHeld=>?_)
 refine tk 0 hHeld ?_
 refine tk 1 hHeld ?_
 refine tk 2 hHeld ?_
 refine tk 3 hHeld ?_
 refine tk 4 hHeld ?_
 refine tk 5 hHeld ?_
 refine tk 6 hHeld ?_
 refine tk 7 hHeld ?_
 refine tk 8 hHeld ?_
 refine tk 9 hHeld ?_
 refine tk 10 hHeld ?_
 refine tk 11 hHeld ?_
 refine tk 12 hHeld ?_
 refine Zy kq ?_ _
 go_wp2
 go_ret
 exact⟨rfl,HB.out.drew⟩
def MdF (x:Ending) (w':World):Prop:=x=.returned (.tuple #[.agg #[.slice none 0 0,.slice none 0 0,.slice none 0 0,.slice none 0 0],.bool false])∨∃f ai an aT al ci cn ct cl,x=.returned (.tuple #[fv f ai an aT al ci cn ct cl,.bool true])∧FAP w' f ai an aT al
theorem qc {f:FD} {u:Int} {x:Ending} {w':World} (h:Kn f u x w'):(∃e:Int,(e=6∨e=8∨e=12)∧x=.returned (.tuple #[.slice none 0 0,.int .i64 e]))∨∃l B ja cj d,u≤20000∧x=.returned (.tuple #[.slice ja d.size cj,.int .i64 0])∧jR w' f l u B ja d:=by
 unfold Kn at h
 split at h
 ·rename_i hc
  split at h
  ·exact .inl ⟨6,.inl rfl,h⟩
  split at h
  ·exact .inl ⟨8,.inr (.inl rfl),h⟩
  obtain⟨B,ja,cj,d,hx,hm⟩:=h
  exact .inr ⟨_,B,ja,cj,d,hc.2.2,hx,hm⟩
 exact .inl ⟨12,.inr (.inr rfl),h⟩
def S12 (g m i:Nat) (pr jr:Int) (w':World):Prop:=w'.cell? ⟨g,m*5+2,none⟩=some (.int .i64 pr)∧w'.cell? ⟨g,i*5+2,none⟩=some (.int .i64 jr)
def S17 (bf:Nat) (v0 v1 v2 v3:Value) (g i p:Nat) (jt jn jr jd:Int) (va:Value) (pr pd:Int) (w':World):Prop :=
 w'.cell? ⟨g,p*5+3,none⟩=some (.int .i64 pd)∧w'.cell? ⟨g,i*5+3,none⟩=some (.int .i64 jd)∧w'.cell? ⟨g,i*5,none⟩=some (.int .i64 jt)∧w'.cell? ⟨g,i*5+1,none⟩=some (.int .i64 jn)∧w'.cell? ⟨g,i*5+2,none⟩=some (.int .i64 jr)∧w'.cell? ⟨g,i*5+4,none⟩=some va∧w'.cell? ⟨g,p*5+2,none⟩=some (.int .i64 pr) ∧
  w'.cell? ⟨bf,0,none⟩=some v0∧w'.cell? ⟨bf,1,none⟩=some v1∧w'.cell? ⟨bf,2,none⟩=some v2∧w'.cell? ⟨bf,3,none⟩=some v3
theorem S17.below {bf:Nat} {v0 v1 v2 v3:Value} {g i p:Nat} {jt jn jr jd:Int} {va:Value} {pr pd:Int} {w w':World} (h:S17 bf v0 v1 v2 v3 g i p jt jn jr jd va pr pd w) (hb:RowKit.Below w.heap.size w w') (h1:bf<w.heap.size) (h2:g<w.heap.size):S17 bf v0 v1 v2 v3 g i p jt jn jr jd va pr pd w':=by
 obtain⟨a0,a1,a2,a3,a4,a5,a6,a7,a8,a9,a10⟩:=h
 exact⟨(hb.cell (p:=⟨g,_,none⟩) h2).trans a0,(hb.cell (p:=⟨g,_,none⟩) h2).trans a1,(hb.cell (p:=⟨g,_,none⟩) h2).trans a2,(hb.cell (p:=⟨g,_,none⟩) h2).trans a3,(hb.cell (p:=⟨g,_,none⟩) h2).trans a4,(hb.cell (p:=⟨g,_,none⟩) h2).trans a5,(hb.cell (p:=⟨g,_,none⟩) h2).trans a6,(hb.cell (p:=⟨bf,_,none⟩) h1).trans a7,(hb.cell (p:=⟨bf,_,none⟩) h1).trans a8,(hb.cell (p:=⟨bf,_,none⟩) h1).trans a9,(hb.cell (p:=⟨bf,_,none⟩) h1).trans a10⟩
theorem uz {w:World} (p0 p1 p2 p3:Option Addr) (n0 n1 n2 n3 c0 c1 c2 c3:Nat)
  (hM:∀W,RowKit.Below w.heap.size w W→Calls Tryz.prog 7 #[.agg #[.slice p0 n0 c0,.slice p1 n1 c1,.slice p2 n2 c2,.slice p3 n3 c3]] W fun x w'=>MdF x w'∧RowKit.Below W.heap.size W w')
  (hA:∀W,Calls Tryz.prog 6 #[] W fun x w'=>x=.returned (.bool true)∧RowKit.Below W.heap.size W w') (un:Nat) (hun:un≤65535) :
  Calls Tryz.prog 3 #[.agg #[.slice p0 n0 c0,.slice p1 n1 c1,.slice p2 n2 c2,.slice p3 n3 c3],.int .u16 (un:Int)] w fun x w'=>x=.returned (.bool true)∧RowKit.Below w.heap.size w w':=by
 have HM:=hid hM
 have HAW:=hid hA
 clear hM hA
 obtain⟨W1,hW1⟩:∃W1,w.alloc (.cells #[.slice p0 n0 c0,.slice p1 n1 c1,.slice p2 n2 c2,.slice p3 n3 c3] 27)=W1:=⟨_,rfl⟩
 have hB:RowKit.Below w.heap.size w W1:=by rw[←hW1];exact bq
 have hq0:W1.heap[w.heap.size]?=some (.cells #[.slice p0 n0 c0,.slice p1 n1 c1,.slice p2 n2 c2,.slice p3 n3 c3] 27 (0,0)):=by rw[←hW1];exact Yp w _
 have hl0:=Zb hq0
 have HB:=hid hB
 have HQ:=hid hq0
 clear hB hq0
 obtain⟨u1,ra⟩:∃u1:Int,(un:Int).tmod 300=u1:=⟨_,rfl⟩
 have bu:0≤u1∧u1<300:=by rw[←ra,Int.tmod_eq_emod_of_nonneg oq];omega
 have wa:IntKind.u16.wrap u1=u1:=by unfold IntKind.wrap;simp[IntKind.signed,IntKind.bits];omega
 have xa:IntKind.i64.wrap u1=u1:=ZK _ oq
 clear bu
 go_enter Tryz.func3,Tryz.ntmps3
 go_upto_region 1 with fail
 first|rw[hW1]|skip
 clear hW1
 go_upto_region 6 with (first
  | (go_at_call 6;refine(HAW.out _).mono ?_;rintro x w2 ⟨rfl,hb2⟩;have HB2:=hid (HB.out.trans (hb2.mono HB.out.size));have hs2:=hb2.size;obtain⟨⟨x0,x1,x2,x3⟩,xf⟩:=Yq ((hb2.block _ hl0).trans HQ.out);clear hb2)
  | (go_at_call 7;refine(HM.out _ HB2.out).mono ?_;rintro x w4 ⟨hans,hb4⟩;have HB4:=hid (HB2.out.trans (hb4.mono HB2.out.size));have hs4:=hb4.size;clear hb4;rcases hans with rfl|⟨f,ai,an,aT,al,ci,cn,ct,cl,rfl,hf4⟩<;>(try (have HF4:=hid hf4;clear hf4;unfold fv))))
 ·exact Zl (v:=.bool true) (by simp only[results,Tryz.results3];go_simp) rfl ⟨rfl,bq⟩
 obtain⟨W5,hW5⟩:∃W5,w4.alloc (.cells #[.slice ai f.ins.length ci,.slice an f.nods.length cn,.slice aT f.tasks.length ct,.slice al f.tells.length cl] 34)=W5:=⟨_,rfl⟩
 have hq5:W5.heap[w4.heap.size]?=some (.cells #[.slice ai f.ins.length ci,.slice an f.nods.length cn,.slice aT f.tasks.length ct,.slice al f.tells.length cl] 34 (0,0)):=by rw[←hW5];exact Yp w4 _
 have hb5:RowKit.Below w4.heap.size w4 W5:=by rw[←hW5];exact bq
 have hs5:w4.heap.size<W5.heap.size:=Zb hq5
 have HB5:=hid (HB4.out.trans (hb5.mono HB4.out.size))
 have HQ5:=hid hq5
 have HF5:=hid (HF4.out.below hb5)
 have h5:=HB4.out.size
 have hsz5:=HB5.out.size
 obtain⟨⟨y0,y1,y2,y3⟩,yf⟩:=Yq hq5
 have HV:=hid (vY (w:=W5) f ai an aT al ci cn ct cl HF5.out u1)
 unfold fv at HV
 rw[hW5]
 clear hW5 hq5 hb5 x0 x1 x2 x3 xf HM HAW HQ HF4
 go_upto_region 9 with (go_at_call 8;refine HV.out.mono ?_;rintro x w6 ⟨hans,hb6⟩;have HB6:=hid hb6;clear hb6;rcases qc hans with ⟨e,he,rfl⟩|⟨l,B,ja,cj,d,hu2,rfl,hjm⟩<;>clear hans<;>(first|(have he0:¬e=0:=oq)|skip))
 ·exact Zl (v:=.bool true) (by simp only[results,Tryz.results3];go_simp) rfl ⟨rfl,HB5.out.trans (HB6.out.mono hsz5)⟩
 have HFX:=hid (hjm.facts hu2 hjm.rgf.few)
 have HJR:=hid hjm.jobs
 have HND:=hid hjm.needs
 have hNl:=ze hjm.win hjm.ord hjm.rgf.clk hjm.rgf.few hu2
 have hNB:=hjm.sz
 have hTL:=hjm.rgf.few
 have HTB:=hid (fun i (hi:i<B.length)=>(show(B.getD i (0,0)).1<f.tasks.length from((hjm.win.mem hjm.ord).1 (show((B.getD i (0,0)).1,(B.getD i (0,0)).2)∈B from by rw[Zf,Ze hi];exact Zi hi)).1))
 have HAL:=hid (fun t (ht:t<f.tasks.length)=>(show(tkO f t).args.length≤1000 from by rw[←VL ht];exact(HF5.out.args _ (Zi ht)).1))
 obtain⟨N,hN⟩:∃N,d.size=N:=⟨_,rfl⟩
 rw[hN] at hNB
 rw[←hNB] at hNl
 have HNB:=hid hNB
 have HDZ:=hid hN
 have hl6:=HB6.out.size
 rw[hN]
 clear hjm hNB hN hu2 y0 y1 y2 y3 yf HV
 go_wp2
 go_loopw [9] (fun s9 wr=>Hid (∃i:Nat,s9=.int .i64 (i:Int)∧i≤N∧RowKit.Below w6.heap.size w6 wr)) (fun s _=>N-(intOf s).toNat)
 case atStart=>exact⟨0,rfl,Zk _,RowKit.Below.refl _ _⟩
 obtain⟨wo,rfl⟩:∃wo:World,wo=wr:=⟨_,rfl⟩
 obtain⟨i,rfl,hi,hbo⟩:=hrel.out
 clear hrel
 have hso:=hbo.size
 by_cases hlt:i<N
 ·obtain⟨g,hja,hjh6⟩:=HJR.out.resolve_left (by rw[HDZ.out];omega)
  have hjh:JH wo g 0 d:=hjh6.but (hbo.block g hjh6.lt)
  obtain⟨⟨y0,y1,y2,y3,y4⟩,_,_⟩:=hjh.cell (i:=i) (by rw[HDZ.out];exact hlt)
  simp only[ZD] at y0 y1 y2 y3 y4
  have hfn:=HFX.out.num i (by rw[←HNB.out];exact hlt)
  have hfb:=HFX.out.bnd i (by rw[←HNB.out];exact hlt)
  have hfd:=HFX.out.need i (by rw[←HNB.out];exact hlt)
  obtain⟨hnl,hnr⟩:=HND.out i (by rw[←HNB.out];exact hlt)
  have hrs:∀m,i=m+1→d[m]!.r≤d[i]!.r:=fun m e=>by subst e;exact HFX.out.rise m (by rw[←HNB.out];exact hlt)
  have hnll:=yV f B i
  obtain⟨jI,hjI⟩:∃x,d[i]! = x:=⟨_,rfl⟩
  rw[hjI] at y0 y1 y2 y3 y4 hfn hfb hfd hnl hnr hrs
  obtain⟨jt,jn,jr,jd,jna,jnl,jnc⟩:=jI
  simp only at y0 y1 y2 y3 y4 hfn hfb hfd hnl hnr hrs
  obtain⟨nd,hnd⟩:∃nd,YT f B i=nd:=⟨_,rfl⟩
  obtain⟨bud,hbud⟩:∃bud,Vx f B i=bud:=⟨_,rfl⟩
  rw[hnd] at hfd hnl hnr hnll
  rw[hbud] at hfn hfb hfd
  have hnll2:nd.length≤1000:=by have:=HAL.out _ (HTB.out i (by rw[←HNB.out];exact hlt));omega
  have HNR:=hid hnr
  have HFB:=hid hfb
  have HFD:=hid hfd
  have HFN:=hid hfn
  have HJ6:=hid hjh6
  have HBO:=hid hbo
  have hgl:=hjh6.lt
  have HJA:=hid hja
  have i0:(0:Int)≤(i:Int):=oq
  have i1:(i:Int)<(N:Int):=oq
  have hnl2:jnl=nd.length:=hnl
  subst hnl2
  subst hja
  have HJI:=hid hjI
  have HRS:=hid hrs
  have hcase:i=0∨∃m,i=m+1:=by
   cases i with
   | zero=>exact .inl rfl
   | succ m=>exact .inr ⟨m,rfl⟩
  have HY:=hid (Zh y0 (Zh y1 (Zh y3 y4)))
  have HY4:=hid y4
  clear hnr hfd hfn hfb hjh6 hbo hnd hbud hrs hjI hnl hnll
  rcases hcase with h0|⟨m,hm⟩
  case' inl =>
   have HG:=hid (show decide (0<i)=false from ZZ oq)
   clear h0
   go_upto_region 12 with fail
   refine ZO (S:=(fun _:World=>True)) kq (by trivial) (fun hHeld=>?_)
   refine tk 0 hHeld ?_
   refine tk 1 hHeld ?_
   rw[HG.out]
   refine tk 2 hHeld ?_
   refine tu 3 hHeld ?_
   refine tu 4 hHeld ?_
   refine tu 5 hHeld ?_
   refine tu 6 hHeld ?_
   refine tu 7 hHeld ?_
   refine tu 8 hHeld ?_
   refine tu 9 hHeld ?_
   refine tu 10 hHeld ?_
   refine tu 11 hHeld ?_
   refine tu 12 hHeld ?_
   refine tu 13 hHeld ?_
   refine tu 14 hHeld ?_
   refine tk 15 hHeld ?_
   refine Zy kq ?_ _
   clear HG y0 y1 y2 y3 y4 hjh HRS
  case' inr =>
   have HG:=hid (show decide (0<i)=true from Z0 oq)
   obtain⟨⟨_,_,z2,_,_⟩,_,_⟩:=hjh.cell (i:=m) (by rw[HDZ.out];omega)
   simp only[ZD] at z2
   have hrr:=HRS.out m hm
   obtain⟨pr,hpr⟩:∃pr,d[m]!.r=pr:=⟨_,rfl⟩
   rw[hpr] at z2 hrr
   have g2:¬pr > jr:=oq
   have wm:IntKind.i64.wrap ((i:Int)-1)=(m:Int):=by rw[ZK _ oq];omega
   have m0:(0:Int)≤(m:Int):=oq
   have m1:(m:Int)<(N:Int):=oq
   clear hpr hrr hm
   have KS:=hid (show S12 g m i pr jr wo.drew from ⟨z2,y2⟩)
   go_upto_region 12 with fail
   refine ZO (S:=S12 g m i pr jr) kq (by first|with_reducible exact KS.out) (fun hHeld=>?_)
   refine tk 0 hHeld ?_
   refine tk 1 hHeld ?_
   rw[HG.out]
   refine tk 2 hHeld ?_
   refine tk 3 hHeld ?_
   refine tk 4 hHeld ?_
   refine tk 5 hHeld ?_
   refine tk 6 hHeld ?_
   refine tk 7 hHeld ?_
   refine tk 8 hHeld ?_
   refine tk 9 hHeld ?_
   refine tk 10 hHeld ?_
   refine tk 11 hHeld ?_
   refine tk 12 hHeld ?_
   refine tk 13 hHeld ?_
   refine tk 14 hHeld ?_
   refine tk 15 hHeld ?_
   refine Zy kq ?_ _
   clear HG y0 y1 y2 y3 y4 hjh HRS KS z2 g2 wm m0 m1
  all_goals (
   go_wp2
   go_loopw [10] (fun s10 wr=>Hid (∃k:Nat,s10=.int .i64 (k:Int)∧k≤nd.length∧RowKit.Below w6.heap.size w6 wr)) (fun s _=>nd.length-(intOf s).toNat)
   case atStart=>exact⟨0,rfl,Zk _,HBO.out.drew⟩
   obtain⟨wq,rfl⟩:∃wq:World,wq=wr:=⟨_,rfl⟩
   obtain⟨k,rfl,hk,hbq⟩:=hrel.out
   clear hrel
   have HBQ:=hid hbq
   have hsq:=hbq.size
   have hjq:JH wq g 0 d:=HJ6.out.but (hbq.block g hgl)
   obtain⟨⟨y0,y1,y2,y3,y4⟩,_,_⟩:=hjq.cell (i:=i) (by rw[HDZ.out];exact hlt)
   rw[HJI.out] at y0 y1 y2 y3 y4
   simp only[ZD] at y0 y1 y2 y3 y4
   by_cases hkl:k<nd.length
   ·obtain⟨bn,on,hna,hbn,hc⟩:=(HNR.out.below zI hbq).at hkl
    obtain⟨p,hxp,hpi,hpd,hpr⟩:=HFD.out nd[k] (Zi hkl)
    unfold Uz at hc
    rw[hxp] at hc
    simp only[Z8] at hc
    obtain⟨⟨_,_,z2,z3,_⟩,_,_⟩:=hjq.cell (i:=p) (by rw[HDZ.out];omega)
    simp only[ZD] at z2 z3
    obtain⟨pr,hpre⟩:∃pr,d[p]!.r=pr:=⟨_,rfl⟩
    obtain⟨pd,hpde⟩:∃pd,d[p]!.d=pd:=⟨_,rfl⟩
    rw[hpre] at z2 hpr
    rw[hpde] at z3 hpd
    obtain⟨t,kk,ht,htl,hnode,hkn,hbu⟩:=HFN.out
    have HBU:=hid (fun(W:World) (hb:RowKit.Below w6.heap.size w6 W)=>qL (w:=W) f ai an aT al ci cn ct cl ((HF5.out.below HB6.out).below hb) ⟨jt,jn,jr,jd,jna,nd.length,jnc⟩ t kk bud ht htl hnode hkn hbu.symm)
    unfold fv jv at HBU
    simp only at HBU
    obtain⟨sd,hsd⟩:∃sd,jd-bud=sd:=⟨_,rfl⟩
    have ws:IntKind.i64.wrap (jd-bud)=sd:=by rw[ZK _ (by have:=HFB.out;omega),hsd]
    have HG1:=hid (show decide ((p:Int)<0)=false from ZZ oq)
    have HG5:=hid (show decide (i≤p)=false from ZZ oq)
    have HG6:=hid (show decide (sd<pd)=false from ZZ oq)
    have HG7:=hid (show decide (jr<pr)=false from ZZ oq)
    have p0:(0:Int)≤(p:Int):=oq
    have p1:(p:Int)<(N:Int):=oq
    have k0:(0:Int)≤(k:Int):=oq
    have k1:(k:Int)<(nd.length:Int):=oq
    obtain⟨⟨f0,f1,f2,f3⟩,_⟩:=Yq ((hbq.block _ oq).trans ((HB6.out.block _ hs5).trans HQ5.out))
    subst hna
    have KS1:=hid (show S17 w4.heap.size (.slice ai f.ins.length ci) (.slice an f.nods.length cn) (.slice aT f.tasks.length ct) (.slice al f.tells.length cl) g i p jt jn jr jd (.slice (some ⟨bn,on,none⟩) nd.length jnc) pr pd wq.drew from ⟨z3,y3,y0,y1,y2,y4,z2,f0,f1,f2,f3⟩)
    clear hpre hpde hxp hpi hpd hpr ht htl hnode hbu hsd hbq hjq z2 z3 y0 y1 y2 y3 f0 f1 f2 f3
    go_upto_region 18 with fail
    clear hc y4
    refine ZO (S:=S17 w4.heap.size (.slice ai f.ins.length ci) (.slice an f.nods.length cn) (.slice aT f.tasks.length ct) (.slice al f.tells.length cl) g i p jt jn jr jd (.slice (some ⟨bn,on,none⟩) nd.length jnc) pr pd) kq (by first|with_reducible exact KS1.out|with_reducible exact KS3.out) (fun hHeld=>?_)
    refine tk 0 hHeld ?_
    refine tk 1 hHeld ?_
    first|rw[HG1.out]|skip
    refine tk 2 hHeld ?_
    refine tk 3 hHeld ?_
    refine tk 4 hHeld ?_
    refine tk 5 hHeld ?_
    first|rw[HG5.out]|skip
    refine tk 6 hHeld ?_
    refine tk 7 hHeld ?_
    refine tk 8 hHeld ?_
    refine tk 9 hHeld ?_
    refine tk 10 hHeld ?_
    refine tk 11 hHeld ?_
    refine tk 12 hHeld ?_
    refine tk 13 hHeld ?_
    refine tk 14 hHeld ?_
    refine tk 15 hHeld ?_
    refine tk 16 hHeld ?_
    refine tk 17 hHeld ?_
    refine tk 18 hHeld ?_
    refine tk 19 hHeld ?_
    refine tk 20 hHeld ?_
    refine tk 21 hHeld ?_
    refine tk 22 hHeld ?_
    refine ZV (rs:=[23]) kq (by simp) ?_
    refine ZH (o:=?_) ?_ (fun K hK=>?_) AllReadyH.nil
    rotate_left 1
    ·(simp only[List.getElem?_toArray,List.getElem?_cons_succ,List.getElem?_cons_zero];rfl)
    (go_simp;go_at_call 9;refine(HBU.out _ HBQ.out.drew).mono ?_;rintro y w9 ⟨rfl,hb9⟩;have KS3:=hid (KS1.out.below hb9 (by simp;omega) (by simp;omega));have HB9:=hid ((RowKit.Below.refl wq.heap.size wq).drew.trans hb9);clear hb9)
    refine hK.out _ _ (by first|with_reducible exact KS1.out|with_reducible exact KS3.out) (fun hHeld=>?_)
    clear hK K
    try simp only[Act.put,sA,sB,sC]
    refine tk 24 hHeld ?_
    refine tk 25 hHeld ?_
    first|rw[HG6.out]|skip
    refine tk 26 hHeld ?_
    refine tk 27 hHeld ?_
    refine tk 28 hHeld ?_
    refine tk 29 hHeld ?_
    refine tk 30 hHeld ?_
    refine tk 31 hHeld ?_
    refine tk 32 hHeld ?_
    refine tk 33 hHeld ?_
    refine tk 34 hHeld ?_
    refine tk 35 hHeld ?_
    refine tk 36 hHeld ?_
    refine tk 37 hHeld ?_
    refine tk 38 hHeld ?_
    first|rw[HG7.out]|skip
    refine tk 39 hHeld ?_
    refine Zy kq ?_ _
    go_wp2
    exact⟨hid ⟨k+1,by go_num,hkl,HBQ.out.trans (HB9.out.mono hsq)⟩,by simp[intOf];omega⟩
   obtain rfl:k=nd.length:=oq
   have k1:¬(nd.length:Int)<(nd.length:Int):=oq
   clear hjq y0 y1 y2 y3 hbq
   go_wp2
   exact⟨hid ⟨i+1,by go_num,hlt,HBQ.out⟩,by simp[intOf];omega⟩)
 obtain rfl:i=N:=oq
 have i1:¬(i:Int)<(i:Int):=oq
 go_wp2
 go_ret
 exact⟨rfl,(HB5.out.trans (HB6.out.mono hsz5)).trans (hbo.mono oq)⟩
def fdA:FD:=⟨[(4,3)],[],[],[⟨4,3,⟨0,[]⟩,2⟩]⟩
theorem uE:Xj fdA=true:=by decide +kernel
theorem Un {w:World} (b:Nat) (p q:Int) (h:w.heap[b]?=some (.cells #[.int .i64 p,.int .i64 q] 62 (0,0))) :
  Calls Tryz.prog 31 #[.slice (some ⟨b,0,none⟩) 1 1] w fun x w'=>x=.returned (.int .i64 q)∧w'=w:=by
 obtain⟨⟨h0,h1⟩,_⟩:=YB h
 have hb:=Zb h
 clear h
 go_enter Tryz.func31,Tryz.ntmps31
 go_wp2
 go_rounds 1
 go_wp2
 go_ret
 exact⟨rfl,rfl⟩
theorem yv {w:World} (v:Value) (a b c d:Value) (hv:v=.agg #[a,b,c,d]):Calls Tryz.prog 29 #[v] w fun x w'=>x=.returned (.func (.func 75) #[] #[.pointer (some ⟨w.heap.size,0,none⟩)])∧RowKit.Below w.heap.size w w'∧w'.heap.size=w.heap.size+1∧w'.heap[w.heap.size]?=some (.cells #[a,b,c,d] 34 (0,0)):=by
 subst hv
 go_enter Tryz.func29,Tryz.ntmps29
 go_wp2
 go_ret
 exact⟨rfl,bq,by simp,Yp w _⟩
def Zdp (n:Nat) (x:Ending) (w':World):Prop:=∃b,x=.returned (.slice (some ⟨b,0,none⟩) 1 1)∧n≤b∧w'.heap[b]?=some (.cells #[.int .i64 4,.int .i64 3] 62 (0,0))
theorem EY {w:World} (ai al:Option Addr) (hf:FAP w fdA ai none none al) :
  Calls Tryz.prog 30 #[fv fdA ai none none al 1 0 0 1,.agg #[.int .i64 0,.slice none 0 0]] w fun x w'=>Zdp w.heap.size x w'∧RowKit.Below w.heap.size w w':=by
 have HS:=hid (fun W (hb:RowKit.Below w.heap.size w W)=>VD (w:=W) fdA ai none none al 1 0 0 1 (hf.below hb) 0 (by unfold I64;omega))
 rw[show JB fdA 0=some (4,3) from rfl] at HS
 unfold fv VR fdA at *
 simp only[Zp,Zw,ZD,Z9,Option.isSome_some] at HS
 simp only[Zp,Zw,ZD]
 clear hf
 obtain⟨W1,hW1⟩:∃W1,(w.alloc (.cells #[.slice ai 1 1,.slice none 0 0,.slice none 0 0,.slice al 1 1] 34)).alloc (.cells #[.int .i64 0,.slice none 0 0] 69)=W1:=⟨_,rfl⟩
 have hB:RowKit.Below w.heap.size w W1:=by rw[←hW1];exact bq
 have hq0:W1.heap[w.heap.size]?=some (.cells #[.slice ai 1 1,.slice none 0 0,.slice none 0 0,.slice al 1 1] 34 (0,0)):=by rw[←hW1];exact(RowKit.Below.heap_alloc _ _ _ (by simp)).trans (Yp w _)
 have hq1:W1.heap[w.heap.size+1]?=some (.cells #[.int .i64 0,.slice none 0 0] 69 (0,0)):=by
  rw[←hW1]
  have:=Yp (w.alloc (.cells #[.slice ai 1 1,.slice none 0 0,.slice none 0 0,.slice al 1 1] 34)) (.cells #[.int .i64 0,.slice none 0 0] 69)
  rwa [Zu] at this
 obtain⟨⟨x0,x1,x2,x3⟩,xf⟩:=Yq hq0
 obtain⟨⟨y0,y1⟩,yf⟩:=YB hq1
 have hl1:=Zb hq1
 have HQ:=hid hq1
 have HB:=hid hB
 clear hq0 hq1 hB
 go_enter Tryz.func30,Tryz.ntmps30
 go_upto_region 1 with fail
 first|rw[hW1]|skip
 clear hW1
 go_upto_region 3 with (go_at_call 76;refine(HS.out _ HB.out).mono ?_;rintro x w3 ⟨rfl,hb3⟩;have HB3:=hid (HB.out.trans (hb3.mono HB.out.size));have hl3:w.heap.size+1<w3.heap.size:=Zd hl1 hb3.size;have HQ3:=hid ((hb3.block _ hl1).trans HQ.out);clear hb3 x0 x1 x2 x3 xf y0 y1 yf)
 obtain⟨W4,hW4⟩:∃W4,(w3.alloc (.cells #[.int .i64 4,.int .i64 3] 62)).alloc (.cells #[.int .i64 4,.int .i64 3] 62)=W4:=⟨_,rfl⟩
 have hb4:RowKit.Below w3.heap.size w3 W4:=by rw[←hW4];exact bq
 have hq4:W4.heap[w3.heap.size+1]?=some (.cells #[.int .i64 4,.int .i64 3] 62 (0,0)):=by
  rw[←hW4]
  have:=Yp (w3.alloc (.cells #[.int .i64 4,.int .i64 3] 62)) (.cells #[.int .i64 4,.int .i64 3] 62)
  rwa [Zu] at this
 rw[hW4]
 clear hW4
 obtain⟨⟨z0,z1⟩,zf⟩:=YB ((hb4.block _ hl3).trans HQ3.out)
 have HB4:=hid (HB3.out.trans (hb4.mono HB3.out.size))
 have HQ4:=hid hq4
 have hs3:=HB3.out.size
 clear hb4 hq4
 go_wp2
 go_rounds 1
 go_wp2
 go_ret
 exact⟨⟨_,rfl,oq,HQ4.out⟩,HB4.out⟩
open Go.RowKit Go.Shelf
attribute [local go_sem] ZT
def vp (W:World) (b:Nat) (ai al:Option Addr):Prop:=W.heap[b]?=some (.cells #[.slice ai 1 1,.slice none 0 0,.slice none 0 0,.slice al 1 1] 34 (0,0))
def EF (W:World) (b:Nat):Prop:=W.heap[b]?=some (.cells #[.int .i64 4,.int .i64 3,.int .i64 0,.slice none 0 0,.int .i64 2] 71 (0,0))
theorem ZcA (ai:Option Addr) (b1 bt n l:Nat) (J:List Unit→World→Prop) (W:World) (hJ:OwnFrom W.heap.size J)
  (hY:∀m pre (x:Unit) W1,J pre W1→pre=[]→YieldAt Fence.wide m Tryz.prog l #[.agg #[.int .i64 0,.slice none 0 0],.int .i64 2] W1 fun e W'=>e=.returned (.bool true)∧J (pre++[x]) W'∧KD b1 bt W1 W')
  (hb1:vp W b1 ai (some ⟨bt,0,none⟩)) (hbt:EF W bt) (h0:J [] W) :
  CallsIn Fence.wide n Tryz.prog 75 #[.func (.yield l) #[] #[],.pointer (some ⟨b1,0,none⟩)] W fun e W'=>(∃v,e=.returned v)∧∃xs,xs=[()]∧J xs W':=by
 have HY:=hid hY
 have HB1:=hid hb1
 have HBT:=hid hbt
 have HJ0:=hid h0
 have HJ:=hid hJ
 obtain⟨⟨x0,x1,x2,x3⟩,xf⟩:=Yq hb1
 clear hY hb1 h0 hJ hbt
 refine callsIn_of_wp Tryz.func75 rfl trivial ?_ rfl
 simp only[Tryz.ntmps75,ZI,Zp,Zw,Nat.reduceAdd,Nat.reduceSub,ZF,ZE,ZL,ZJ,ZM,ZC]
 gi_wp2
 clear x0 x1 x2 x3 xf
 gi_loopw [12] (fun v wr=>Hid (v=.int .i64 0∧wr=W)) (fun _ _=>0)
 case atStart=>exact⟨rfl,rfl⟩
 obtain⟨rfl,rfl⟩:=hrel.out
 clear hrel
 obtain⟨w0,rfl⟩:∃w0:World,w0=wr:=⟨_,rfl⟩
 obtain⟨⟨x0,x1,x2,x3⟩,xf⟩:=Yq HB1.out
 gi_wp2
 clear x0 x1 x2 x3 xf
 gi_loopw [32] (fun v wq=>Hid (∃k:Nat,v=.int .i64 (k:Int)∧k≤1∧J (List.replicate k ()) wq∧KD b1 bt w0 wq)) (fun i _=>1-(intOf i).toNat)
 case atStart=>exact⟨0,rfl,Zk _,HJ0.out,KD.refl _ _ _⟩
 obtain⟨k,rfl,hk,hj,hkd⟩:=hrel.out
 clear hrel
 have q:wr.heap[bt]?=_:=hkd bt (.inr rfl) _ HBT.out rfl
 obtain⟨⟨z0,z1,z2,z3,z4⟩,zf⟩:=Vb q
 have hlt:=Zb q
 have HKD:=hid hkd
 have HJK:=hid hj
 clear q hkd hj
 by_cases hc:k=0
 ·subst hc
  obtain⟨fn,tmps,assign,body,hy,hR⟩:=HY.out (n-1) [] () (wr.alloc (.cells #[.int .i64 4,.int .i64 3,.int .i64 0,.slice none 0 0,.int .i64 2] 71)) (Q8 HJ.out HJK.out bq) rfl
  have HR:=hid hR
  clear hR
  simp only[Int.natCast_zero] 
  gi_wp2
  refine⟨(fun h=>by cases h),HR.out.mono ?_⟩
  rintro e W1 ⟨rfl,hJ1,hk1⟩
  have HJ1:=hid hJ1
  have HK1:=hid ((HKD.out.trans (KD.of_below (W:=wr) (W':=wr.alloc (.cells #[.int .i64 4,.int .i64 3,.int .i64 0,.slice none 0 0,.int .i64 2] 71)) bq)).trans hk1)
  clear hJ1 hk1 hy
  gi_wp2
  go_roundw
  case rel=>exact⟨1,by go_num,oq,HJ1.out,HK1.out⟩
  simp[intOf]
 obtain rfl:k=1:=oq
 gi_wp2
 go_end0
 exact⟨⟨_,rfl⟩,_,rfl,HJK.out⟩
theorem Zao (ai:Option Addr) (b1 bt n:Nat) (w:World) (hb1:vp w b1 ai (some ⟨bt,0,none⟩)) (hbt:EF w bt) :
  Zbl Fence.wide n Tryz.prog 75 #[.pointer (some ⟨b1,0,none⟩)] (fun _:Unit=>#[.agg #[.int .i64 0,.slice none 0 0],.int .i64 2]) (fun _=>True) (fun pre _ _=>pre=[]) (KD b1 bt) (fun xs=>xs=[()]) w:=fun l J W hW hJ _ hY h0 =>
 ZcA ai b1 bt n l J W hJ (fun m pre x W1 hj ho=>YieldAt.deep rfl m (hY pre x W1 hj ho)) ((hW.block _ (Zb hb1)).trans hb1) ((hW.block _ (Zb hbt)).trans hbt) h0
end Go.Proofs.YtgigilkpndhddaaGreatDoor.syn
