/-
  Parts of the proof: Dl10, Dl11.
-/
import Derived.Test.YtgigilkpndhddaaGreatDoorQ32
import Derived.Test.YtgigilkpndhddaaGreatDoorQ35
import Derived.Test.YtgigilkpndhddaaGreatDoorQ36
namespace Go.Proofs.YtgigilkpndhddaaGreatDoor.syn
set_option linter.unusedVariables false
set_option linter.unusedSimpArgs false
set_option linter.unnecessarySimpa false
set_option maxRecDepth 100000
set_option maxHeartbeats 16000000
open Go.RowKit Go.Sort Go.Shelf
theorem uX {f:FD} {B:List (Nat × Nat)} {l:List AD} {n:Int} {j:Nat} (h:j<l.length):(l.take (j+1)).filterMap (fun a=>Qa f B a n)=(l.take j).filterMap (fun a=>Qa f B a n)++(match Qa f B l[j] n with|some x=>[x]|none=>[]):=by
 rw[Zv h,List.filterMap_append]
 congr 1
 cases hg:Qa f B l[j] n<;>simp[hg]
def Za9 (w:World) (f:FD) (ai an aT al:Option Addr) (ci cn ct cl:Nat) (u:Int) (wb pb cp:Nat) (ja:Option Addr) (cj:Nat) (B:List (Nat × Nat)) (e:Ending) (w':World):Prop :=
 e=.returned (.tuple #[])∧∃d,Qs w' f ai an aT al ci cn ct cl u wb pb cp ja cj B d∧NdS w' f B ja d B.length∧But (fun b=>jaB ja=some b) w w'
theorem uJ {wS w:World} (f:FD) (ai an aT al:Option Addr) (ci cn ct cl:Nat) (hf:FAP wS f ai an aT al) (hlow:Below wS.heap.size wS w) (hr:RgF f) (order:List Int) (ho:YN f order) (u:Int) (B:List (Nat × Nat)) (hB:Xv f order u B) (wb pb cp:Nat) (ja:Option Addr) (cj:Nat)
  (hge:∀b,jaB ja=some b→wS.heap.size≤b) (hw:Qs w f ai an aT al ci cn ct cl u wb pb cp ja cj B (B.map (mkJ f)).toArray) (hN:B.length≤1000000) :
  Calls Tryz.prog 25 #[.pointer (some ⟨wb,0,none⟩)] w (Za9 w f ai an aT al ci cn ct cl u wb pb cp ja cj B):=by
 have hlens:=hf.lens
 have HOR:=hid (fun(W:World) (d:Array YA) (h1:Below wS.heap.size wS W) (h2:Qs W f ai an aT al ci cn ct cl u wb pb cp ja cj B d) (t:Nat) (ht:t<f.tasks.length) (n:Nat) (hn:n<Qg f u t) (a:AD) (ha:a∈(tkO f t).args) (hl:a.ops.length≤1000) (ad:Option Addr) (cap:Nat) (hrow:Row OpR 3 W a.ops ad)=>GG (W:=W) f B wb pb ci cp ai hlens.1 hr.few (Zb h2.box) (YS h2.box).1.1 (YS h2.box).1.2.2.2.2.2.2 (h2.pl W (BC.of_but (But.refl _ _))) a ad cap hrow hl (Eg hr.few hlens.1 (hr.fits t ht a ha)) (n:Int)
  (fun x hx=>by obtain⟨p,s,k,_,h3,h4,h5,h6,h7,h8,h9,_,_⟩:=zu hB ho (hr.fits t ht a ha) ((Qz (hr.clk t ht).1 n).1 hn) hx;exact⟨s,k,h4,h6,h7,h8⟩))
 have HTK:=hid (fun(W:World) (h1:Below wS.heap.size wS W)=>hf.tasks.below Gq h1)
 have HAR:=hid (fun t (ht:t<f.tasks.length)=>(show(tkO f t).args.length≤1000∧∀a∈(tkO f t).args,a.ops.length≤1000 from by rw[←VL ht];exact⟨(hf.args _ (Zi ht)).1,fun a ha=>((hf.args _ (Zi ht)).2 a ha).1⟩))
 have HMB:=hid (fun q (hq:q<B.length)=>(show(B.getD q (0,0)).1<f.tasks.length∧(B.getD q (0,0)).2<Qg f u (B.getD q (0,0)).1 from by rw[Zf,Ze hq];exact(hB.mem ho (t:=B[q].1) (n:=B[q].2)).1 (Zi hq)))
 have HGE:=hid hge
 have HLOW:=hid hlow
 have HW:=hid hw
 have hszw:=hlow.size
 obtain⟨⟨c0,c1,c2,c3,c4,c5,c6⟩,cf⟩:=YS hw.box
 have hds:(B.map (mkJ f)).toArray.size=B.length:=by simp
 rw[hds] at c5
 obtain⟨N,hNN⟩:∃N,B.length=N:=⟨_,rfl⟩
 rw[hNN] at c5 hN HMB
 have HNN:=hid hNN
 have hwb0:=Zb hw.box
 clear hf hlow hr ho hB hge hw hds hNN hlens c0 c1 c2 c3 c4 c6 cf
 go_enter Tryz.func25,Tryz.ntmps25
 go_wp2
 clear c5
 go_loopw [14] (fun s14 wr=>Hid (∃(i:Nat) (d:Array YA),s14=.int .i64 (i:Int)∧i≤N∧Qs wr f ai an aT al ci cn ct cl u wb pb cp ja cj B d∧NdS wr f B ja d i∧But (fun b=>jaB ja=some b) w wr)) (fun s _=>N-(intOf s).toNat)
 case atStart=>exact⟨0,_,rfl,Zk _,HW.out,NdS.start _ _ _ _,But.refl _ _⟩
 clear HW
 obtain⟨wo,rfl⟩:∃wo:World,wo=wr:=⟨_,rfl⟩
 obtain⟨i,d,rfl,hi,hwm,hnd,hbt⟩:=hrel.out
 clear hrel
 have hwo:=hbt.size
 have hlowo:Below wS.heap.size wS wo:=HLOW.out.trans (hbt.below hszw (fun b e=>HGE.out b e))
 have HLO:=hid hlowo
 have HWM:=hid hwm
 have HND:=hid hnd
 have HBT:=hid hbt
 have hdz:d.size=N:=by rw[hwm.sz,HNN.out]
 have HDZ:=hid hdz
 by_cases hlt:i<N
 ·obtain⟨g,hja,hjh⟩:=hwm.jobs.resolve_left oq
  obtain⟨⟨y0,y1,y2,y3,y4⟩,yf3,yf4⟩:=hjh.cell (i:=i) oq
  obtain⟨b0,b1,b2,b3⟩:=hnd.base i (by rw[HNN.out];exact hlt)
  obtain⟨hm1,hm2⟩:=HMB.out i hlt
  have HOG:=hid (show Vo f B i=(tkO f (B.getD i (0,0)).1).args.filterMap (fun a=>Qa f B a ((B.getD i (0,0)).2:Int)) from rfl)
  obtain⟨⟨t,n⟩,hbb⟩:∃b,B.getD i (0,0)=b:=⟨_,rfl⟩
  rw[hbb] at b0 b1 b2 b3 hm1 hm2 HOG
  simp only at b0 b1 hm1 hm2 HOG
  rw[b0] at y0
  rw[b1] at y1
  obtain⟨r1,hr1⟩:∃r1,d[i]!.r=r1:=⟨_,rfl⟩
  obtain⟨r2,hr2⟩:∃r2,d[i]!.d=r2:=⟨_,rfl⟩
  obtain⟨q1,hq1⟩:∃q1,d[i]!.na=q1:=⟨_,rfl⟩
  obtain⟨q2,hq2⟩:∃q2,d[i]!.nl=q2:=⟨_,rfl⟩
  obtain⟨q3,hq3⟩:∃q3,d[i]!.nc=q3:=⟨_,rfl⟩
  rw[hr1] at y2
  rw[hr2] at y3
  rw[hq1,hq2,hq3] at y4
  simp only[ZD] at y0 y1 y2 y3 y4
  obtain⟨bt,ot,ta,tc,haT,hbt4,z0,z1,z2,z3,hrow⟩:=GM (HTK.out wo hlowo) hm1
  obtain⟨⟨c0,c1,c2,c3,c4,c5,c6⟩,cf⟩:=YS hwm.box
  rw[haT] at c2
  have hal:=(HAR.out t hm1).1
  have i0:(0:Int)≤(i:Int):=oq
  have i1:(i:Int)<(N:Int):=oq
  have t0:(0:Int)≤(t:Int):=oq
  have t1:(t:Int)<(f.tasks.length:Int):=oq
  have gl:=hjh.lt
  have hwbl:=Zb hwm.box
  have HJA:=hid (show ∀b,jaB ja=some b→b=g by rw[hja];intro b e;injection e with e;exact e.symm)
  have HJG:=hid (show jaB ja=some g by rw[hja];rfl)
  have HJA2:=hid hja
  have hgwb:g≠wb:=fun e=>hwm.ne (by rw[←e,hja];rfl)
  have hgS:wS.heap.size≤g:=HGE.out g (by rw[hja];rfl)
  have HROW:=hid hrow
  clear hwm hnd hbt b0 b1 b2 b3 hbb hr1 hr2 hq1 hq2 hq3 hrow c0 c1 c3 c4 c5 c6 cf hjh yf3 yf4 hdz z0 z1 z2
  try simp only at haT
  subst hja
  clear haT
  go_upto_region 4 with fail
  obtain⟨W1,hW1⟩:∃W1,wo.alloc (.cells #[.int .i64 (t:Int),.int .i64 (n:Int),.int .i64 r1,.int .i64 r2,.slice q1 q2 q3] 43)=W1:=⟨_,rfl⟩
  have hb1:RowKit.Below wo.heap.size wo W1:=by rw[←hW1];exact bq
  have hs1:wo.heap.size<W1.heap.size:=by rw[←hW1];simp
  have hx1:W1.heap[wo.heap.size]?=some (.cells #[.int .i64 (t:Int),.int .i64 (n:Int),.int .i64 r1,.int .i64 r2,.slice q1 q2 q3] 43 (0,0)):=by rw[←hW1];exact Yp wo _
  rw[hW1]
  clear hW1 y0 y1 y2 y3 y4
  have x0:=Z7 W1 wo.heap.size 0 _ _ _ hx1
  have e2:=(hb1.cell (p:=⟨wb,2,none⟩) hwbl).trans c2
  have e3:=(hb1.cell (p:=⟨bt,ot+t*4+3,none⟩) hbt4).trans z3
  have HB1:=hid hb1
  have HX1:=hid hx1
  simp only[List.getElem?_toArray,List.getElem?_cons_zero] at x0
  clear hb1 hx1 c2 z3
  obtain⟨ar,har⟩:∃ar,(tkO f t).args=ar:=⟨_,rfl⟩
  rw[har] at e3 hal HROW HOG
  have HAR2:=hid har
  clear har
  go_still kq
  change Exit.then _ _ Exit.normal _ W1.drew
  go_wp2
  clear e2 e3 x0
  go_loopw [4,30] (fun s4 s30 wr=>Hid (∃j:Nat,s30=.int .i64 (j:Int)∧j≤ar.length∧QV wr W1.heap.size s4 ((ar.take j).filterMap (fun a=>Qa f B a (n:Int)))∧RowKit.Below W1.heap.size W1 wr)) (fun _ s _=>ar.length-(intOf s).toNat)
  case atStart=>exact⟨0,rfl,Zk _,Yf _ _ _ _,(RowKit.Below.refl _ _).drew⟩
  obtain⟨wi,rfl⟩:∃wi:World,wi=wr:=⟨_,rfl⟩
  obtain⟨j,rfl,hj,hown,hbi⟩:=hrel.out
  clear hrel
  have HBI:=hid hbi
  have hwi:=hbi.size
  obtain⟨a4,c4,rfl⟩:=Yy hown
  have hml:((ar.take j).filterMap (fun a=>Qa f B a (n:Int))).length≤j:=Zm (List.length_filterMap_le _ _) (by simp;omega)
  have HOWN:=hid hown
  have hox:wi.heap[wo.heap.size]?=_:=(hbi.block _ hs1).trans HX1.out
  have n1:=Z7 wi wo.heap.size 1 _ _ _ hox
  simp only[List.getElem?_toArray,List.getElem?_cons_succ,List.getElem?_cons_zero] at n1
  have HLI:=hid (HLO.out.trans (((HB1.out.trans (hbi.mono oq))).mono oq))
  have HWI:=hid (HWM.out.below (HB1.out.trans (hbi.mono oq)))
  have hlox:=Zb hox
  clear hbi hown hox
  by_cases hjl:j<ar.length
  ·obtain⟨ba,oa,haa,hba,g0,ga,gc,g1,grow⟩:=(HROW.out.below jf (HB1.out.trans (HBI.out.mono oq))).at hjl
   have htk:=uX (f:=f) (B:=B) (n:=(n:Int)) hjl
   have hao:=(HAR.out t hm1).2
   rw[HAR2.out] at hao
   have hmem:=Zi hjl
   have haol:=hao _ hmem
   obtain⟨x,hx⟩:∃x,ar[j]=x:=⟨_,rfl⟩
   rw[hx] at g0 g1 grow htk haol hmem
   obtain⟨src,ops⟩:=x
   simp only at g0 g1 grow haol
   have HOC:=hid (fun(W:World) (h1:RowKit.Below wi.heap.size wi W)=>HOR.out W d (HLI.out.trans (h1.mono (by have:=HLI.out.size;omega))) (HWI.out.below h1) t hm1 n hm2 ⟨src,ops⟩ (by rw[HAR2.out];exact hmem) haol ga gc (grow.below Uf h1))
   have j0:(0:Int)≤(j:Int):=oq
   have j1:(j:Int)<(ar.length:Int):=oq
   have HTKE:=hid htk
   obtain⟨l4,hl4⟩:∃l4,(ar.take j).filterMap (fun a=>Qa f B a (n:Int))=l4:=⟨_,rfl⟩
   rw[hl4] at HOWN HTKE hml
   try rw[hl4]
   subst haa
   clear htk hao hmem hx hl4 grow
   cases ho:Qa f B ⟨src,ops⟩ (n:Int) with
   | none =>
    rw[ho] at HOC HTKE
    simp only[List.append_nil] at HTKE
    unfold yP at HOC
    simp only[Option.getD_none,Option.isSome_none] at HOC
    clear ho
    go_wp2_with (go_at_call 69;refine(HOC.out _ bq).mono ?_;rintro y w2 ⟨rfl,hb2⟩;have HB2:=hid (show RowKit.Below wi.heap.size wi w2 from bq);clear hb2)
    refine⟨hid ⟨j+1,by go_num,hjl,by rw[HTKE.out];exact own_below HOWN.out HB2.out,HBI.out.trans (HB2.out.mono hwi)⟩,by simp[intOf];omega⟩
   | some x =>
    rw[ho] at HOC HTKE
    unfold yP at HOC
    simp only[Z9,Option.isSome_some] at HOC
    clear ho
    obtain⟨i0',hi0',hi1',hi2',hi3'⟩:=info_parts JK
    have HI:=hid (Zh hi0' (Zh hi1' (Zh hi2' hi3')))
    clear hi0' hi1' hi2' hi3'
    go_wp2_with (first|(go_at_call 69;refine(HOC.out _ bq).mono ?_;rintro y w2 ⟨rfl,hb2⟩;have HB2:=hid (show RowKit.Below wi.heap.size wi w2 from bq);have hs2:=HB2.out.size;clear hb2)|(refine lite.XC _ (by rfl) _ _ _ (by rfl) W1.heap.size 3 i0' _ 1 8 Tryz.underlying41 HI.out.1 HI.out.2.1 HI.out.2.2.1 HI.out.2.2.2 rfl oq (.slice a4 l4.length c4) l4.length (ints l4) (by rfl) (own_below HOWN.out bq) (some ⟨w2.heap.size,0,none⟩) 1 1 [.int .i64 x] (by rfl) (by rfl) (fun j u h=>⟨_,rfl,World.news_of_block (Zz _ _) j u h⟩) (by simp[Value.oneCell']) (by unfold maxLen;omega) oq (by first|omega|(simp;omega)) ?_;intro v4 w4 hown4 hg4 hl4;have HO4:=hid hown4;have HB4:=hid (show But (fun k=>(Value.slice a4 l4.length c4).ownBlock=some k) w2 w4 from(But.of_below ((RowKit.Below.refl _ _).alloc (Zc _) _)).then (But.of_grown hg4) (fun _ _ e=>e));clear hown4 hg4 hl4))
    have hgo:=World.ownsRow.lt HOWN.out
    have hb5:But (fun k=>(Value.slice a4 l4.length c4).ownBlock=some k) wi w4:=(But.of_below HB2.out).then HB4.out (fun _ _ e=>e)
    refine⟨hid ⟨j+1,by go_num,hjl,?_,HBI.out.trans (hb5.below hwi (fun k hk=>(hgo k hk).1))⟩,by simp[intOf];omega⟩
    rw[HTKE.out]
    unfold QV
    rw[Zx,←Jq]
    exact HO4.out
  obtain rfl:j=ar.length:=oq
  rw[ZS] at HOWN hml ⊢
  have hq0:QV wi W1.heap.size (.slice a4 (ar.filterMap (fun a=>Qa f B a (n:Int))).length c4) (Vo f B i):=by rw[HOG.out];exact HOWN.out
  have hol:(Vo f B i).length≤1000:=by rw[HOG.out];omega
  have hnl:(YT f B i).length≤1000:=by unfold YT;have:=QB ((Vo f B i).mergeSort (fun x y=>decide (x≤y)));rw[List.length_mergeSort] at this;omega
  have HS:=hid (zY (w:=wi) _ _ hq0 oq)
  have HC:=hid (fun(W:World) (v:Value) (hW:QV W W1.heap.size v ((Vo f B i).mergeSort (fun x y=>decide (x≤y))))=>U6 (w:=W) v _ hW (by rw[List.length_mergeSort];omega))
  have hgo:=World.ownsRow.lt HOWN.out
  obtain⟨L4,hL4⟩:∃L4,(ar.filterMap (fun a=>Qa f B a (n:Int))).length=L4:=⟨_,rfl⟩
  rw[hL4] at HS hgo
  rw[hL4]
  have HGO:=hid hgo
  have hjl2:¬(ar.length:Int)<(ar.length:Int):=oq
  have z5:=(YS HWI.out.box).1.2.2.2.2.2.1
  rw[HDZ.out] at z5
  have HZ5:=hid z5
  have hwbi:=Zb HWI.out.box
  have hgi:g<wi.heap.size:=by have:=HB1.out.size;omega
  have hg1:g<W1.heap.size:=oq
  have hwb1:wb<W1.heap.size:=oq
  clear hq0 HOWN HROW HOR HAR HTK n1 hL4 hgo z5
  go_upto_region 12 with (go_at_call 70;refine HS.out.mono ?_;rintro y w2 ⟨rfl,hq2,hb2⟩;have HQ2:=hid hq2;have HB2:=hid hb2;clear hq2 hb2)
  have hs2:=HB2.out.size
  have nwb:¬(Value.slice a4 L4 c4).ownBlock=some wb:=fun e=>by have:=(HGO.out _ e).1;omega
  have ng:¬(Value.slice a4 L4 c4).ownBlock=some g:=fun e=>by have:=(HGO.out _ e).1;omega
  have k5:w2.cell? ⟨wb,5,none⟩=some (.slice (some ⟨g,0,none⟩) N cj):=(Zn (w:=wi) (a:=⟨wb,5,none⟩) (HB2.out.block wb hwbi nwb)).trans HZ5.out
  have KS1:=hid (show(fun w':World=>w'.cell? ⟨wb,5,none⟩=some (.slice (some ⟨g,0,none⟩) N cj)) w2.drew from k5)
  have HJI:=hid (show JH wi g 0 d from by
   obtain⟨g2,e2,h2⟩:=HWI.out.jobs.resolve_left (by rw[HDZ.out];omega)
   injection e2 with e2
   injection e2 with e2
   subst e2
   exact h2)
  clear k5
  refine ZO (S:=(fun w':World=>w'.cell? ⟨wb,5,none⟩=some (.slice (some ⟨g,0,none⟩) N cj))) kq (by first|with_reducible exact KS1.out|with_reducible exact KS3.out|exact KS4.out _) (fun hHeld=>?_)
  refine tk 0 hHeld ?_
  refine tk 1 hHeld ?_
  refine tk 2 hHeld ?_
  refine tk 3 hHeld ?_
  refine tk 4 hHeld ?_
  refine tk 5 hHeld ?_
  refine ry 6 fun K hK=>?_
  (go_simp;go_at_call 71;refine(HC.out w2.drew _ HQ2.out).mono ?_;rintro y w3 ⟨⟨v3,rfl,hq3,hv3⟩,hb3⟩;have hs3:=hb3.size;obtain⟨a3,c3,rfl⟩:=Yy hq3;have hwn:=((HB2.out.imp (fun _ _ e=>e)).then (show But (fun k=>(Value.slice a4 L4 c4).ownBlock=some k) w2 w3 from((But.refl _ w2).drew.then hb3 (fun _ _ e=>e))) (fun _ _ e=>e));have HWN:=hid hwn;have HQ3:=hid hq3;have k5:w3.cell? ⟨wb,5,none⟩=some (.slice (some ⟨g,0,none⟩) N cj):=(Zn (w:=wi) (a:=⟨wb,5,none⟩) (hwn.block wb hwbi nwb)).trans HZ5.out;have KS3:=hid (show(fun w':World=>w'.cell? ⟨wb,5,none⟩=some (.slice (some ⟨g,0,none⟩) N cj)) w3 from k5);have KS4:=hid (fun(v:Value)=>(show(fun w':World=>w'.cell? ⟨wb,5,none⟩=some (.slice (some ⟨g,0,none⟩) N cj)) (w3.setCell ⟨g,i*5+4,none⟩ v) from(ZG w3 ⟨g,i*5+4,none⟩ ⟨wb,5,none⟩ v hgwb).trans KS3.out));have hj3:JH w3 g 0 d:=HJI.out.but (hwn.block g hgi ng);have HJ3:=hid hj3;obtain⟨⟨_,_,_,_,y4⟩,_,yf4⟩:=hj3.cell (i:=i) (by rw[HDZ.out];exact hlt);simp only[ZD] at y4 yf4;clear hwn hq3 hb3 k5 hj3)
  refine hK.out _ _ (fun hHeld=>?_) (by first|with_reducible exact KS1.out|with_reducible exact KS3.out|exact KS4.out _|exact KS4.out)
  clear hK K
  refine tk 7 hHeld ?_
  refine tk 8 hHeld ?_
  refine ry 9 fun K hK=>?_
  go_simp
  refine hK.out _ _ (fun hHeld=>?_) (by first|with_reducible exact KS1.out|with_reducible exact KS3.out|exact KS4.out _|exact KS4.out)
  clear hK K
  refine Zy kq ?_ _
  have hbw3:RowKit.Below wo.heap.size wo w3:=(HB1.out.trans (HBI.out.mono oq)).trans (HWN.out.below (by have:=HB1.out.size;omega) (fun k e=>by have:=(HGO.out k e).1;have:=HB1.out.size;omega))
  have hW2:But (fun b=>jaB (some ⟨g,0,none⟩)=some b) wo (w3.setCell ⟨g,i*5+4,none⟩ (.slice a3 (YT f B i).length c3)):=(But.of_below hbw3).then (But.set (S:=fun k=>k=g) rfl _) (fun k _ e=>by rw[e];exact HJG.out)
  have hidz:i<d.size:=by rw[HDZ.out];exact hlt
  have hput:JH (w3.setCell ⟨g,i*5+4,none⟩ (.slice a3 (YT f B i).length c3)) g 0 (d.setIfInBounds i { d[i]! with na:=a3,nl:=(YT f B i).length,nc:=c3 }):=by have h:=HJ3.out.put (i:=i) (c:=4) (v:=.slice a3 (YT f B i).length c3) (x:={ d[i]! with na:=a3,nl:=(YT f B i).length,nc:=c3 }) hidz oq rfl;simpa only [ZD] using h
  have hq3:QV (w3.setCell ⟨g,i*5+4,none⟩ (.slice a3 (YT f B i).length c3)) W1.heap.size (.slice a3 (YT f B i).length c3) (YT f B i):=Xm HQ3.out hg1 _
  have HNX:=hid (show Qs (w3.setCell ⟨g,i*5+4,none⟩ (.slice a3 (YT f B i).length c3)) f ai an aT al ci cn ct cl u wb pb cp (some ⟨g,0,none⟩) cj B (d.setIfInBounds i { d[i]! with na:=a3,nl:=(YT f B i).length,nc:=c3 }) from HWM.out.but hW2 (by simp) (.inr ⟨g,rfl,hput⟩))
  have HND2:=hid (HND.out.put (c:=c3) (BC.of_but hW2) hidz (by rw[HDZ.out,HNN.out]) (fun W2 h2=>(gW hq3 (fun k hk=>by rw[HJA.out k hk];exact hg1) h2).2))
  have HB9:=hid (HBT.out.then hW2 (fun _ _ e=>e))
  clear hbw3 hW2 hput hq3
  go_wp2
  exact⟨hid ⟨i+1,_,by go_num,hlt,HNX.out,HND2.out,HB9.out⟩,by simp[intOf];omega⟩
 obtain rfl:i=N:=oq
 have i1:¬(i:Int)<(i:Int):=oq
 clear hwm hnd hbt
 go_wp2
 go_end0
 exact⟨rfl,d,HWM.out,by rw[HNN.out];exact HND.out,HBT.out⟩
attribute [local go_sem] ZT
theorem Qs.bcE {W W':World} {f:FD} {ai an aT al:Option Addr} {ci cn ct cl:Nat} {u:Int} {wb pb cp:Nat} {ja:Option Addr} {cj:Nat} {B:List (Nat × Nat)} {d:Array YA} (h:Qs W f ai an aT al ci cn ct cl u wb pb cp ja cj B d) (hb:BC (fun _=>False) W W'):Qs W' f ai an aT al ci cn ct cl u wb pb cp ja cj B d :=
 ⟨hb.block _ _ _ _ h.box (fun e=>e),h.ne,h.jobs.bc hb (fun _ _ e=>e),fun W2 h2=>h.pl W2 (BC.then ⟨hb.size,fun k cs t fr hk _=>hb.block k cs t fr hk (fun e=>e)⟩ h2),h.sz⟩
theorem Gg {A B:World} {row:Option Nat} (hg:A.grownBy B row) (hr:∀r,row=some r→∃o:Obj,A.heap[r]?=some o∧o.isCells=false):BC (fun _=>False) A B :=
 ⟨hg.size,fun k cs t fr hk _=>(hg.block k (Zb hk) (fun e=>by obtain⟨o,ho,hc⟩:=hr k e.symm;rw[hk] at ho;injection ho with ho;subst ho;cases hc)).trans hk⟩
theorem Xf {A B:World} {row:Option Nat} {b:Nat} {cs:Array Value} {t:TypeId} {fr:Nat × Nat} (h:A.heap[b]?=some (.cells cs t fr)) (hg:A.grownBy B row) (hr:∀r,row=some r→∃o:Obj,A.heap[r]?=some o∧o.isCells=false):B.heap[b]?=some (.cells cs t fr):=(Gg hg hr).block b cs t fr h (fun e=>e)
def UI (d:Array YA) (o:Option Int) (x:Int):Array YA:=match o with
 | none=>d
 | some p=>Xr d p.toNat x
def tellN (f:FD) (B:List (Nat × Nat)) (t:LD) (d:Array YA) (n:Nat):Array YA:=(List.range n).foldl (fun d (k:Nat)=>UI d (Qa f B t.arg (k:Int)) (t.ph+(k:Int)*t.per+t.dl)) d
theorem Vv (f:FD) (B:List (Nat × Nat)) (t:LD) (d:Array YA) (n:Nat):tellN f B t d (n+1)=UI (tellN f B t d n) (Qa f B t.arg (n:Int)) (t.ph+(n:Int)*t.per+t.dl):=by unfold tellN;rw[List.range_succ,List.foldl_append];rfl
def QO (f:FD) (B:List (Nat × Nat)) (u:Int) (d:Array YA) (l:List LD):Array YA:=l.foldl (fun d t=>tellN f B t d (JD t.per t.ph u)) d
theorem xm {f:FD} {B:List (Nat × Nat)} {u:Int} {d:Array YA} {l:List LD} {i:Nat} (h:i<l.length):QO f B u d (l.take (i+1))=tellN f B l[i] (QO f B u d (l.take i)) (JD l[i].per l[i].ph u):=by
 unfold QO
 rw[Zv h,List.foldl_append]
 rfl
def Zbb (w:World) (f:FD) (ai an aT al:Option Addr) (ci cn ct cl:Nat) (u:Int) (wb pb cp:Nat) (ja:Option Addr) (cj:Nat) (B:List (Nat × Nat)) (d:Array YA) (e:Ending) (w':World):Prop :=
 e=.returned (.tuple #[])∧Qs w' f ai an aT al ci cn ct cl u wb pb cp ja cj B (QO f B u d f.tells)∧But (fun b=>jaB ja=some b) w w'
theorem Vb {w:World} {b:Nat} {v0 v1 v2 v3 v4:Value} {t:TypeId} (h:w.heap[b]?=some (.cells #[v0,v1,v2,v3,v4] t (0,0))) :
  (w.cell? ⟨b,0,none⟩=some v0∧w.cell? ⟨b,1,none⟩=some v1∧w.cell? ⟨b,2,none⟩=some v2∧w.cell? ⟨b,3,none⟩=some v3∧w.cell? ⟨b,4,none⟩=some v4)∧∀o,w.frozen? ⟨b,o,none⟩=false:=by
 refine⟨⟨?_,?_,?_,?_,?_⟩,?_⟩
 all_goals first|(intro o;simp[World.frozen?,h])|simp[World.cell?,h]
theorem JH.cells {W:World} {g:Nat} {d:Array YA} (h:JH W g 0 d) (h0:0<d.size):∃cs t fr,W.heap[g]?=some (.cells cs t fr):=by
 have h1:=(h.cell (i:=0) h0).1.1
 cases ho:W.heap[g]? with
 | none=>simp[World.cell?,ho] at h1
 | some o =>
  cases o with
  | cells cs t fr=>exact⟨cs,t,fr,rfl⟩
  | _=>simp[World.cell?,ho] at h1
theorem Eo {B g:Nat} {W W':World} (hb:But (fun k=>k=g) W W') (hc:∃cs t fr,W.heap[g]?=some (.cells cs t fr)):KeepsFrom B W W':=by
 obtain⟨cs,t,fr,hg⟩:=hc
 refine⟨hb.size,fun k o _ hk hc=>(hb.block k (Zb hk) (fun e=>?_)).trans hk⟩
 subst e
 rw[hg] at hk
 injection hk with hk
 subst hk
 cases hc
theorem U1 {B:Nat} {W W':World} (hb:RowKit.Below W.heap.size W W'):KeepsFrom B W W':=⟨hb.size,fun k o _ hk _=>(hb.block k (Zb hk)).trans hk⟩
def Zb9 (W:World) (b:Nat) (x:LD) (ad:Option Addr) (cap:Nat):Prop:=W.heap[b]?=some (.cells #[.int .i64 x.per,.int .i64 x.ph,.int .i64 x.arg.src,.slice ad x.arg.ops.length cap,.int .i64 x.dl] 71 (0,0))
theorem ka {wS w:World} (f:FD) (ai an aT al:Option Addr) (ci cn ct cl:Nat) (hf:FAP wS f ai an aT al) (hlow:RowKit.Below wS.heap.size wS w) (hr:RgF f) (order:List Int) (ho:YN f order) (u:Int) (hu:u≤20000) (B:List (Nat × Nat)) (hB:Xv f order u B) (wb pb cp:Nat) (ja:Option Addr) (cj:Nat)
  (hge:∀b,jaB ja=some b→wS.heap.size≤b) (d:Array YA) (hw:Qs w f ai an aT al ci cn ct cl u wb pb cp ja cj B d) (hN:B.length≤1000000) :
  Calls Tryz.prog 26 #[.pointer (some ⟨wb,0,none⟩)] w (Zbb w f ai an aT al ci cn ct cl u wb pb cp ja cj B d):=by
 have hlens:=hf.lens
 have HOR:=hid (fun(W:World) (d:Array YA) (h2:Qs W f ai an aT al ci cn ct cl u wb pb cp ja cj B d) (t:LD) (ht:t∈f.tells) (n:Nat) (hn:n<JD t.per t.ph u) (hl:t.arg.ops.length≤1000) (ad:Option Addr) (cap:Nat) (hrow:Row OpR 3 W t.arg.ops ad)=>GG (W:=W) f B wb pb ci cp ai hlens.1 hr.few (Zb h2.box) (YS h2.box).1.1 (YS h2.box).1.2.2.2.2.2.2 (h2.pl W (BC.of_but (But.refl _ _))) t.arg ad cap hrow hl (Eg hr.few hlens.1 (hr.tel t ht).2) (n:Int)
  (fun x hx=>by obtain⟨p,s,k,_,h3,h4,h5,h6,h7,h8,h9,_,_⟩:=zu hB ho (hr.tel t ht).2 ((Qz (clock.Xd.1 (XZ (hr.tel t ht).2).1).1 n).1 hn) hx;exact⟨s,k,h4,h6,h7,h8⟩))
 have HOP:=hid (fun(t:LD) (ht:t∈f.tells) (n:Nat) (hn:n<JD t.per t.ph u) (x:Int) (hx:Qa f B t.arg (n:Int)=some x)=>(show ∃p:Nat,x=(p:Int)∧p<B.length from by obtain⟨p,s,k,h2,h3,_⟩:=zu hB ho (hr.tel t ht).2 ((Qz (clock.Xd.1 (XZ (hr.tel t ht).2).1).1 n).1 hn) hx;exact⟨p,h2,(ZA.1 h3).1⟩))
 have HTL:=hid (fun(W:World) (h1:RowKit.Below wS.heap.size wS W)=>hf.tells.below eu h1)
 have HTO:=hid (fun(t:LD) (ht:t∈f.tells)=>(hf.tops t ht).1)
 have HTR:=hid (fun(t:LD) (ht:t∈f.tells)=>(show(1≤t.per∧t.per≤2000∧0≤t.ph∧t.ph≤2000)∧1≤t.dl∧t.dl≤1000 from ⟨clock.Xd.1 (XZ (hr.tel t ht).2).1,(hr.tel t ht).1⟩))
 have HGL:=hid (show 0<B.length→∀b,jaB ja=some b→b<w.heap.size from fun h0 b e=>by
  obtain⟨g,e2,hj⟩:=hw.jobs.resolve_left (by rw[hw.sz];omega)
  subst e2
  injection e with e
  subst e
  exact hj.lt)
 have HGE:=hid hge
 have HLOW:=hid hlow
 have HW:=hid hw
 have hszw:=hlow.size
 obtain⟨L,hLL⟩:∃L,f.tells.length=L:=⟨_,rfl⟩
 have hL:L≤1000:=oq
 have HLL:=hid hLL
 have hwb0:=Zb hw.box
 clear hf hlow hr ho hB hge hw hlens hLL
 refine(Zt (n:=6)).1 ?_
 refine callsIn_of_wp_marks Tryz.func26 rfl trivial ?_ rfl
 simp only[Tryz.ntmps26,ZI,Zp,Zw,Nat.reduceAdd,Nat.reduceSub,ZF,ZE,ZL,ZJ,ZM,ZC]
 gi_upto_region 1 with fail
 obtain⟨W0,hW0⟩:∃W0,w.alloc (.cells #[.pointer (some ⟨wb,0,none⟩)] 80)=W0:=⟨_,rfl⟩
 have hb0:RowKit.Below w.heap.size w W0:=by rw[←hW0];exact bq
 have hx0:Boxed W0 w.heap.size 80 (.pointer (some ⟨wb,0,none⟩)):=by rw[←hW0];exact Boxed.new _ _ _
 rw[hW0]
 clear hW0
 have HW0:=hid (HW.out.below hb0)
 obtain⟨⟨c0,c1,c2,c3,c4,c5,c6⟩,cf⟩:=YS HW0.out.box
 rw[HLL.out] at c3
 have cx:=hx0.cell
 have HX0:=hid hx0
 have HBT0:=hid (But.of_below (S:=fun b=>jaB ja=some b) hb0)
 clear c0 c1 c2 c4 c5 c6 cf hx0 hb0
 gi_wp2
 clear c3 cx
 refine wpIn_loop (fun a' wr=>Hid (∃(i:Nat) (ds:List Deferred),a'.defers=ds∧a'.tmps.size=44∧slt a'.tmps 1=.pointer (some ⟨w.heap.size,0,none⟩)∧slt a'.tmps 12=.slice al L cl∧slt a'.tmps 13=.int .i64 (L:Int)∧slt a'.tmps 14=.int .i64 (i:Int) ∧
  i≤L∧Qs wr f ai an aT al ci cn ct cl u wb pb cp ja cj B (QO f B u d (f.tells.take i))∧Boxed wr w.heap.size 80 (.pointer (some ⟨wb,0,none⟩))∧But (fun b=>jaB ja=some b) w wr∧Mk w.heap.size wr.heap.size ds wr)) (fun a' _=>L-(intOf (slt a'.tmps 14)).toNat) ?start ?round
 case start=>exact hid ⟨0,_,rfl,rfl,rfl,rfl,rfl,rfl,Zk _,HW0.out,HX0.out,HBT0.out,Mk.nil _ _ _⟩
 clear HW0 HX0 HBT0 HW
 rintro⟨t,ds0⟩ wr hI
 obtain⟨i,ds,h0,hsz,h1,h12,h13,h14,hi,hwm,hbx,hbt,hmk⟩:=hI.out
 clear hI
 simp only at h0 hsz h1 h12 h13 h14
 subst h0
 have hmu:(L-(intOf (slt (⟨t,ds0⟩:Act).tmps 14)).toNat)=L-i:=by show L-(intOf (slt t 14)).toNat=_;rw[h14];simp[intOf]
 rw[hmu]
 clear hmu
 rw[eK hsz,h1,h12,h13,h14]
 generalize slt t 0=u0,slt t 2=u2,slt t 3=u3,slt t 4=u4,slt t 5=u5,slt t 6=u6,slt t 7=u7,slt t 8=u8,slt t 9=u9,slt t 10=u10,slt t 11=u11,slt t 15=u15,slt t 16=u16,slt t 17=u17,slt t 18=u18,slt t 19=u19,slt t 20=u20,slt t 21=u21,slt t 22=u22,slt t 23=u23,slt t 24=u24,slt t 25=u25,slt t 26=u26,slt t 27=u27,slt t 28=u28,slt t 29=u29,slt t 30=u30,slt t 31=u31,slt t 32=u32,slt t 33=u33,slt t 34=u34,slt t 35=u35,slt t 36=u36,slt t 37=u37,slt t 38=u38,slt t 39=u39,slt t 40=u40,slt t 41=u41,slt t 42=u42,slt t 43=u43
 clear hsz h1 h12 h13 h14 t
 have HWM:=hid hwm
 have HBX:=hid hbx
 have HBT:=hid hbt
 have HMK:=hid hmk
 have hwr:=hbt.size
 have hlowr:RowKit.Below wS.heap.size wS wr:=HLOW.out.trans (hbt.below hszw (fun b e=>HGE.out b e))
 have HLR:=hid hlowr
 have cx:=hbx.cell
 have cxl:=hbx.lt
 clear hwm hbx hbt hmk
 by_cases hlt:i<L
 ·have hlt2:i<f.tells.length:=by rw[HLL.out];exact hlt
  obtain⟨b,o,hal,hb,y0,y1,y2,y4,ad,cap,y3,hrow⟩:=(HTL.out wS (RowKit.Below.refl _ _)).at hlt2
  have hcr:=fun oo=>hlowr.cell (p:=⟨b,oo,none⟩) hb
  have hmem:=Zi hlt2
  have hts:=xm (f:=f) (B:=B) (u:=u) (d:=d) hlt2
  obtain⟨x,hx⟩:∃x,f.tells[i]=x:=⟨_,rfl⟩
  rw[hx] at y0 y1 y2 y3 y4 hrow hmem hts
  have HTS:=hid hts
  have HMEM:=hid hmem
  have hrt:=HTR.out x hmem
  have hol:=HTO.out x hmem
  have HRT:=hid hrt
  have i1:(i:Int)<(L:Int):=oq
  have i0:(0:Int)≤(i:Int):=oq
  have HDA:=hid (fun W=>UO (w:=W) x.per x.ph u)
  have HROW:=hid hrow
  replace y0:=(hcr _).trans y0
  replace y1:=(hcr _).trans y1
  replace y2:=(hcr _).trans y2
  replace y3:=(hcr _).trans y3
  replace y4:=(hcr _).trans y4
  have hbwr:b<wr.heap.size:=by have:=hlowr.size;omega
  clear hx hmem hts hrt hrow hlowr hcr
  subst hal
  gi_upto_region 4 with fail
  obtain⟨W1,hW1⟩:∃W1,wr.alloc (.cells #[.int .i64 x.per,.int .i64 x.ph,.int .i64 x.arg.src,.slice ad x.arg.ops.length cap,.int .i64 x.dl] 71)=W1:=⟨_,rfl⟩
  have hb1:RowKit.Below wr.heap.size wr W1:=by rw[←hW1];exact bq
  have hs1:wr.heap.size<W1.heap.size:=by rw[←hW1];simp
  have hs1':W1.heap.size≤wr.heap.size+1:=by rw[←hW1];simp
  have hx1:Zb9 W1 wr.heap.size x ad cap:=by rw[←hW1];exact Yp wr _
  rw[hW1]
  clear hW1 y0 y1 y2 y3 y4 cx
  have k0:=Z7 W1 wr.heap.size 0 _ _ _ hx1
  have k1:=Z7 W1 wr.heap.size 1 _ _ _ hx1
  simp only[List.getElem?_toArray,List.getElem?_cons_succ,List.getElem?_cons_zero] at k0 k1
  have hbx1:Boxed W1 w.heap.size 80 (.pointer (some ⟨wb,0,none⟩)):=(hb1.block _ HBX.out.lt).trans HBX.out
  have cx:=hbx1.cell
  have HWM1:=hid (HWM.out.below hb1)
  have c4:=(YS HWM1.out.box).1.2.2.2.2.1
  have HB1:=hid hb1
  have HX1:=hid hx1
  have HBX1:=hid hbx1
  clear hb1 hx1 hbx1
  refine wpIn_wide.2 (wp_region_noPanic ?_)
  go_still_tail 6,kq
  change wpList _ _ _ _ _ W1.drew
  go_wp2_with (go_at_call 65;refine(HDA.out _).mono ?_;rintro e w2 ⟨rfl,hb2,hs2,hk2,hu2⟩;have HB2:=hid (show RowKit.Below W1.heap.size W1 w2 from((RowKit.Below.refl _ W1).drew.trans hb2));have HS2:=hid (show w2.heap.size=W1.heap.size+2 from hs2);have HK2:=hid (show UV w2 W1.heap.size x.per x.ph∧Boxed w2 (W1.heap.size+1) 2 (.int .i64 u) from ⟨hk2,hu2⟩);clear hb2 hs2 hk2 hu2)
  refine NoPanic.normal ?_
  clear k0 k1 cx c4
  gi_wp2
  have hb2:=HB2.out
  have hs2:=HS2.out
  have hbe:RowKit.Below wr.heap.size wr w2:=HB1.out.trans (hb2.mono oq)
  have HI2:=hid (Zh (HWM.out.below hbe) (Zh ((hbe.block _ cxl).trans HBX.out) (Zh (show Zb9 w2 wr.heap.size x ad cap from(hb2.block _ hs1).trans HX1.out) (Zh (HBT.out.then (But.of_below (S:=fun _=>False) hbe) (fun _ _ e=>e.elim)) (HMK.out.below hbe)))))
  obtain⟨d0,hd0⟩:∃d0,QO f B u d (f.tells.take i)=d0:=⟨_,rfl⟩
  rw[hd0] at HI2 HTS
  have hd0s:d0.size=B.length:=(HI2.out.1).sz
  clear hb2 hbe HX1 HBX1 HWM1 HWM HBX HBT HMK
  refine GT (F:=Fence.wide) (gf:=108) (lb:=#[.pointer (some ⟨W1.heap.size,0,none⟩),.pointer (some ⟨W1.heap.size+1,0,none⟩)]) rfl oq rfl trivial (enters_of Tryz.func108 kq rfl)
   (UG x.per x.ph u HRT.out.1 hu W1.heap.size (W1.heap.size+1) _ w2 HK2.out.1 HK2.out.2) (fun h k=>h.trans k) (fun W l o o' _ h hc=>KD.putObj W l o o' h hc) (fun W W' h=>KD.of_below h) (fun _=>rfl)
   (fun pre W=>Qs W f ai an aT (some ⟨b,o,none⟩) ci cn ct cl u wb pb cp ja cj B (tellN f B x d0 pre.length)∧Boxed W w.heap.size 80 (.pointer (some ⟨wb,0,none⟩))∧Zb9 W wr.heap.size x ad cap∧But (fun b=>jaB ja=some b) w W∧Mk w.heap.size wr.heap.size ds0 W)
   (fun s A C row hs hg hrw=>by
    obtain⟨g1,g2,g3,g4,g5⟩:=hs
    exact⟨g1.bcE (Gg hg (fun r e=>(hrw r e).2)),boxed_own _ _ (fun(_:Unit)=>Value.pointer (some ⟨wb,0,none⟩)) () A C row g2 hg (fun r e=>(hrw r e).2),Xf g3 hg (fun r e=>(hrw r e).2),g4.then (But.of_grown hg) (fun k hk e=>by have:=(hrw k e).1;omega),Mk.own (β:=Unit) (show wr.heap.size≤w2.heap.size by omega) () A C row g5 hg hrw⟩)
   (fun _ _ _=>trivial) HI2.out
   (fun pre y a' _=>y=pre.length∧y<JD x.per x.ph u∧a'.tmps.size=44∧slt a'.tmps 1=.pointer (some ⟨w.heap.size,0,none⟩)∧slt a'.tmps 3=.pointer (some ⟨wr.heap.size,0,none⟩)∧slt a'.tmps 4=.int .i64 (y:Int)∧slt a'.tmps 5=.int .i64 (x.ph+(y:Int)*x.per)∧a'.defers=[])
   (fun pre y a' s A C row hs _ _=>hs) ?assign ?body ?done
  case assign =>
   rintro l pre y W K hi ⟨rfl,hx⟩ hK
   gi_wp2
   exact hK _ _ (RowKit.Below.refl _ _) hi ⟨by simp,hx,by simp,by simp[slt],by simp[slt],by simp[slt],by simp[slt],rfl⟩
  case body =>
   rintro l pre y ⟨t,dd⟩ W hl hr ⟨g1,g2,g3,g4,g5⟩ ⟨rfl,hx,hsz,s1,s3,s4,s5,hd⟩
   simp only at hsz s1 s3 s4 s5 hd
   subst hd
   rw[eK hsz,s1,s3,s4,s5]
   generalize slt t 0=u0,slt t 2=u2,slt t 6=u6,slt t 7=u7,slt t 8=u8,slt t 9=u9,slt t 10=u10,slt t 11=u11,slt t 12=u12,slt t 13=u13,slt t 14=u14,slt t 15=u15,slt t 16=u16,slt t 17=u17,slt t 18=u18,slt t 19=u19,slt t 20=u20,slt t 21=u21,slt t 22=u22,slt t 23=u23,slt t 24=u24,slt t 25=u25,slt t 26=u26,slt t 27=u27,slt t 28=u28,slt t 29=u29,slt t 30=u30,slt t 31=u31,slt t 32=u32,slt t 33=u33,slt t 34=u34,slt t 35=u35,slt t 36=u36,slt t 37=u37,slt t 38=u38,slt t 39=u39,slt t 40=u40,slt t 41=u41,slt t 42=u42,slt t 43=u43
   clear hsz s1 s3 s4 s5 t
   have hrt:=HRT.out
   have hdt:=(Qz (u:=u) hrt.1.1 pre.length).1 hx
   have hp0:=HOP.out x HMEM.out pre.length hx
   have hd1:0≤x.ph+(pre.length:Int)*x.per:=by have:=Int.mul_nonneg (show 0≤(pre.length:Int) by omega) (show 0≤x.per by omega);omega
   have htn:=Vv f B x d0 pre.length
   have hlowW:RowKit.Below wS.heap.size wS W:=HLOW.out.trans (g4.below hszw (fun b e=>HGE.out b e))
   have HOC:=hid (HOR.out W _ g1 x HMEM.out pre.length hx hol ad cap (HROW.out.below Uf hlowW))
   obtain⟨date,hdate⟩:∃date,x.ph+(pre.length:Int)*x.per=date:=⟨_,rfl⟩
   rw[hdate] at hdt hd1 htn
   try rw[hdate]
   obtain⟨dn,hdn⟩:∃dn,tellN f B x d0 pre.length=dn:=⟨_,rfl⟩
   rw[hdn] at g1 htn
   have HTN:=hid (show tellN f B x d0 (pre++[pre.length]).length=UI dn (Qa f B x.arg (pre.length:Int)) (date+x.dl) by rw[show(pre++[pre.length]).length=pre.length+1 by simp];exact htn)
   obtain⟨⟨x0,x1,x2,x3,x4⟩,xf⟩:=Vb g3
   have cb:=g2.cell
   have hw64:IntKind.i64.wrap (date+x.dl)=date+x.dl:=ZK _ oq
   have HG1:=hid g1
   have HG2:=hid g2
   have HG3:=hid g3
   have HG4:=hid g4
   have HG5:=hid g5
   clear g1 g2 g3 g4 g5 htn hdn hdate hrt
   cases ho:Qa f B x.arg (pre.length:Int) with
   | none =>
    rw[ho] at HOC HTN
    unfold yP at HOC
    simp only[Option.getD_none,Option.isSome_none] at HOC
    simp only[UI] at HTN
    clear ho hp0
    gi_wp2_with (refine⟨trivial,?_⟩;gi_at_call 69;refine(CallsIn.inRound l (Zt.2 HOC.out)).mono ?_;rintro e w3 ⟨rfl,hb3⟩;have HB3:=hid hb3;clear hb3)
    refine⟨U1 HB3.out,KD.of_below HB3.out,(by rw[HTN.out];exact HG1.out.below HB3.out),(HB3.out.block _ HG2.out.lt).trans HG2.out,(HB3.out.block _ (Zb HG3.out)).trans HG3.out,HG4.out.then (But.of_below (S:=fun _=>False) HB3.out) (fun _ _ e=>e.elim),HG5.out.below HB3.out⟩
   | some p =>
    rw[ho] at HOC HTN
    unfold yP at HOC
    simp only[Z9,Option.isSome_some] at HOC
    simp only[UI] at HTN
    obtain⟨q,rfl,hq⟩:=hp0 p ho
    rw[ZQ] at HTN
    clear ho
    have hds:dn.size=B.length:=HG1.out.sz
    obtain⟨g,hja,hjh⟩:=HG1.out.jobs.resolve_left oq
    have hgl:=HGL.out oq g (by rw[hja];rfl)
    have hcw:=(YS HG1.out.box).1.2.2.2.2.2.1
    rw[hja] at hcw
    have HJA:=hid hja
    have HJH:=hid hjh
    have hwbW:=Zb HG1.out.box
    have HBR:=hid (fun(w3:World) (h:RowKit.Below W.heap.size W w3)=>Ez (W:=w3) wb g 0 cj dn ((h.cell (p:=⟨wb,5,none⟩) hwbW).trans hcw) (hjh.but (h.block g hjh.lt)) q oq (date+x.dl))
    have hjs:jaB ja=some g:=by rw[hja];rfl
    have HJS:=hid hjs
    have hjl:=hjh.lt
    clear hjs hja hcw hjh
    gi_wp2_with (first|(refine⟨trivial,?_⟩;gi_at_call 69;refine(CallsIn.inRound l (Zt.2 HOC.out)).mono ?_;rintro e w3 ⟨rfl,hb3⟩;have HB3:=hid hb3;have cb3:=Boxed.cell ((hb3.block _ HG2.out.lt).trans HG2.out);obtain⟨⟨z0,z1,z2,z3,z4⟩,zf⟩:=Vb ((hb3.block _ (Zb HG3.out)).trans HG3.out);clear hb3)|(refine⟨trivial,?_⟩;gi_at_call 72;refine(CallsIn.inRound l (Zt.2 (HBR.out _ HB3.out))).mono ?_;rintro e w4 ⟨rfl,hj4,hb4⟩;have HJ4:=hid hj4;have HB4:=hid hb4;clear hj4 hb4))
    have hj3:JH w3 g 0 dn:=HJH.out.but (HB3.out.block g hjl)
    have hbw:But (fun b=>jaB ja=some b) W w4:=(But.of_below HB3.out).then HB4.out (fun k _ e=>by rw[e];exact HJS.out)
    have hnb:∀k,w.heap.size≤k→¬jaB ja=some k:=fun k hk e=>by rw[HJS.out] at e;injection e with e;omega
    have hkf:∀Bb,KeepsFrom Bb W w4:=fun Bb=>(U1 HB3.out).trans (Eo HB4.out (hj3.cells oq))
    have hwr0:=hwr
    refine⟨hkf _,(KD.of_below HB3.out).trans (KD.of_but HB4.out oq oq),(by rw[HTN.out];exact HG1.out.but hbw (Jg _ _ _) (.inr ⟨g,HJA.out,HJ4.out⟩)),(hbw.block _ HG2.out.lt (hnb _ (Zc _))).trans HG2.out,(hbw.block _ (Zb HG3.out) (hnb _ hwr0)).trans HG3.out,HG4.out.then hbw (fun _ _ e=>e),HG5.out.from (hkf _)⟩
  rintro D xs W hD rfl ⟨g1,g2,g3,g4,g5⟩ hk
  rw[List.length_range,←HTS.out] at g1
  gi_wp2
  refine⟨hid ⟨i+1,_,rfl,by simp,by simp[slt],by simp[slt],by simp[slt],by first|(simp[slt];done)|(simp[slt];go_num),hlt,g1,g2,g4,g5.cons oq oq hk⟩,?_⟩
  simp[slt,intOf]
  omega
 obtain rfl:i=L:=oq
 have i1:¬(i:Int)<(i:Int):=oq
 have hfin:=HWM.out
 rw[←HLL.out,ZS] at hfin
 have HFIN:=hid hfin
 clear hfin hlowr
 gi_wp2
 refine HMK.out.leaves (fun W' hW'=>⟨.tuple #[],?_,?_⟩)
 ·exact results_none rfl _ _ _
 exact⟨rfl,HFIN.out.mk' hW',HBT.out.then (show But (fun k=>w.heap.size≤k) wr W' from ⟨hW'.os,hW'.tape,hW'.output,Nat.le_of_eq hW'.size.symm,fun k _ hk=>hW'.low k oq⟩) (fun k hk e=>oq)⟩
end Go.Proofs.YtgigilkpndhddaaGreatDoor.syn
