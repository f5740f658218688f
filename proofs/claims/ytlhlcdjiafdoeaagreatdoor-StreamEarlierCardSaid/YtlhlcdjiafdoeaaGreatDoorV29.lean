/- Parts of the proof. -/
import Derived.Deep.OwnRows
import Derived.Test.YtlhlcdjiafdoeaaGreatDoorV28
set_option linter.all false
set_option maxRecDepth 100000
set_option maxHeartbeats 16000000
namespace Go.Proofs.YtlhlcdjiafdoeaaGreatDoor.syn
open Go.RowKit
def X7 (l:List Int) (n:Int):Int:=if n<0∨(l.length:Int)≤n then 0 else l.getD n.toNat 0
def Qj (w:World) (ad:Option Addr) (ll:List (List Int)):Prop:=ll=[]∨∃b o,ad=some ⟨b,o,none⟩∧b<w.heap.size∧∀(i:Nat) (l:List Int),ll[i]?=some l→∃a c,w.cell? ⟨b,o+i,none⟩=some (.slice a l.length c)∧Jq w (Value.int .i64) a l
theorem Qj.keep {w w':World} {ad:Option Addr} {ll:List (List Int)} (h:Qj w ad ll) (hk:∀b,b<w.heap.size→w'.heap[b]?=w.heap[b]?):Qj w' ad ll:=by
 rcases h with h|⟨b,o,e,hb,hc⟩
 ·exact .inl h
 exact .inr ⟨b,o,e,Zb ((hk b hb).trans (Yk hb)),fun i l hl=>by
 obtain⟨a,c,h1,h2⟩:=hc i l hl
 exact⟨a,c,(Zn (w:=w) (a:=⟨b,o+i,none⟩) (hk b hb)).trans h1,h2.keep hk⟩⟩
structure MnR (w:World) (mb:Nat) (ni:Nat) (inl vals:List (List Int)):Prop where
 lt:mb<w.heap.size
 flat0:∃a c,w.cell? ⟨mb,0,none⟩=some (.slice a ni c)
 ins:∃a c,w.cell? ⟨mb,4,none⟩=some (.slice a inl.length c)∧Qj w a inl
 vals:∃a c,w.cell? ⟨mb,5,none⟩=some (.slice a vals.length c)∧Qj w a vals
theorem MnR.keep {w w':World} {mb ni:Nat} {inl vals:List (List Int)} (h:MnR w mb ni inl vals) (hk:∀b,b<w.heap.size→w'.heap[b]?=w.heap[b]?):MnR w' mb ni inl vals:=by
 have hc:∀o,w'.cell? ⟨mb,o,none⟩=w.cell? ⟨mb,o,none⟩:=fun o=>Zn (w:=w) (a:=⟨mb,o,none⟩) (hk mb h.lt)
 obtain⟨a0,c0,h0⟩:=h.flat0
 obtain⟨a4,c4,h4,r4⟩:=h.ins
 obtain⟨a5,c5,h5,r5⟩:=h.vals
 exact⟨Zb ((hk mb h.lt).trans (Yk h.lt)),⟨a0,c0,(hc 0).trans h0⟩,⟨a4,c4,(hc 4).trans h4,r4.keep hk⟩,⟨a5,c5,(hc 5).trans h5,r5.keep hk⟩⟩
def GD (ni:Nat) (inl vals:List (List Int)) (i:Nat):List Int:=if ni≤i then vals.getD (i-ni) [] else inl.getD i []
theorem Zah {w:World} (l:List Int) (ad:Option Addr) (cap:Nat) (h:Jq w (Value.int .i64) ad l) (n:Int) :
  Calls Tryz.prog 55 #[.slice ad l.length cap,.int .i64 n] w fun y w'=>y=.returned (.int .i64 (X7 l n))∧w'=w:=by
 by_cases h0:n<0
 ·have e:X7 l n=0:=by unfold X7;rw[Z0 (.inl h0)]
  rw[e]
  clear e h
  go_enter Tryz.func55,Tryz.ntmps55
  go_wp2
  go_ret
  exact⟨rfl,rfl⟩
 by_cases h1:(l.length:Int)≤n
 ·have e:X7 l n=0:=by unfold X7;rw[Z0 (.inr h1)]
  rw[e]
  have h2:n≥(l.length:Int):=h1
  clear e h
  go_enter Tryz.func55,Tryz.ntmps55
  go_wp2
  go_ret
  exact⟨rfl,rfl⟩
 obtain⟨k,rfl⟩:∃k:Nat,n=(k:Int):=⟨n.toNat,oq⟩
 have hk:k<l.length:=oq
 obtain⟨v,hv⟩:∃v,l[k]?=some v:=⟨_,Ze hk⟩
 have e:X7 l (k:Int)=v:=by
  unfold X7
  rw[ZZ oq]
  simp[List.getD,hv]
 rw[e]
 obtain⟨b,o,rfl,hb,hc⟩:=h.resolve_left (fun e=>by rw[e] at hk;simp at hk)
 have c0:=hc k v hv
 have i0:(0:Int)≤(k:Int):=oq
 have i1:(k:Int)<(l.length:Int):=oq
 clear e hc hv
 go_enter Tryz.func55,Tryz.ntmps55
 go_wp2
 go_ret
 exact⟨rfl,rfl⟩
def Zbf (w:World) (l:List Int) (y:Ending):Prop:=∃ad cap,y=.returned (.slice ad l.length cap)∧Jq w (Value.int .i64) ad l
theorem yu {w:World} {mb ni:Nat} {inl vals:List (List Int)} (h:MnR w mb ni inl vals) (hvl:vals.length≤100000) (i:Nat) (hi:i<ni+vals.length) :
  Calls Tryz.prog 56 #[.pointer (some ⟨mb,0,none⟩),.int .i64 (i:Int)] w fun y w'=>Zbf w (GD ni inl vals i) y∧w'=w:=by
 obtain⟨a0,k0,c0⟩:=h.flat0
 obtain⟨a4,k4,c4,r4⟩:=h.ins
 obtain⟨a5,k5,c5,r5⟩:=h.vals
 clear h
 by_cases hn:ni≤i
 ·have hj:i-ni<vals.length:=oq
  obtain⟨l,hl⟩:∃l,vals[i-ni]?=some l:=⟨_,Ze hj⟩
  have e:GD ni inl vals i=l:=by
   unfold GD
   rw[Z0 hn]
   simp[List.getD,hl]
  rw[e]
  obtain⟨b,o,rfl,hb,hc⟩:=r5.resolve_left (fun e=>by rw[e] at hj;simp at hj)
  obtain⟨a,c,c1,hr⟩:=hc _ l hl
  have HR:=hid hr
  obtain⟨j,hjj⟩:∃j,i-ni=j:=⟨_,rfl⟩
  rw[hjj] at c1 hj
  have i0:(0:Int)≤(j:Int):=oq
  have i1:(j:Int)<(vals.length:Int):=oq
  have i2:(i:Int)-(ni:Int)=(j:Int):=oq
  have i5:wrap64 (j:Int)=(j:Int):=by unfold wrap64;omega
  have i3:(ni:Int)≤(i:Int):=oq
  have i4:(i:Int)≥(ni:Int):=i3
  clear hc hr r4 e hl
  go_enter Tryz.func56,Tryz.ntmps56
  go_wp2
  go_ret
  exact⟨⟨_,_,rfl,HR.out⟩,rfl⟩
 have i4:¬(i:Int)≥(ni:Int):=oq
 have i5:(i:Int)<(ni:Int):=oq
 by_cases hl:i<inl.length
 ·obtain⟨l,hl2⟩:∃l,inl[i]?=some l:=⟨_,Ze hl⟩
  have e:GD ni inl vals i=l:=by
   unfold GD
   rw[ZZ hn]
   simp[List.getD,hl2]
  rw[e]
  obtain⟨b,o,rfl,hb,hc⟩:=r4.resolve_left (fun e=>by rw[e] at hl;simp at hl)
  obtain⟨a,c,c1,hr⟩:=hc _ l hl2
  have HR:=hid hr
  have i0:(0:Int)≤(i:Int):=oq
  have i1:(i:Int)<(inl.length:Int):=oq
  clear hc hr r5 e hl2
  go_enter Tryz.func56,Tryz.ntmps56
  go_wp2
  go_ret
  exact⟨⟨_,_,rfl,HR.out⟩,rfl⟩
 have e:GD ni inl vals i=[]:=by
  unfold GD
  rw[ZZ hn]
  simp[List.getD,Ya (show inl.length≤i by omega)]
 rw[e]
 have i1:¬(i:Int)<(inl.length:Int):=oq
 clear r4 r5 e
 go_enter Tryz.func56,Tryz.ntmps56
 go_wp2
 go_ret
 exact⟨⟨_,_,rfl,.inl rfl⟩,rfl⟩
def UH (ni:Nat) (inl vals:List (List Int)) (src:Nat) (ops:List (Int × Int × Int)) (n:Int):Int :=
 if (index.XT ops n).2.2=1 then X7 (GD ni inl vals src) (index.XT ops n).1 else if (index.XT ops n).2.2=2 then (index.XT ops n).2.1 else 0
theorem yw {w:World} {mb ni:Nat} {inl vals:List (List Int)} (h:MnR w mb ni inl vals) (hvl:vals.length≤100000) (src:Nat) (hi:src<ni+vals.length) (ops:List (Int × Int × Int)) (oa:Option Addr) (oc:Nat) (hl:ops.length≤100000) (hA:index.OpA w oa ops) (n:Int) :
  Calls Tryz.prog 21 #[.pointer (some ⟨mb,0,none⟩),.agg #[.int .i64 (src:Int),.slice oa ops.length oc],.int .i64 n] w fun y w'=>y=.returned (.int .i64 (UH ni inl vals src ops n))∧Below w.heap.size w w':=by
 have HB:=hid (fun W (hb:Below w.heap.size w W)=>index.uT ops oa oc n W oq (hA.below hb (Zc _)))
 have HS:=hid (fun W (hb:Below w.heap.size w W)=>yu (w:=W) (h.keep hb.block) hvl src hi)
 obtain⟨⟨p,q,k⟩,hbp⟩:∃t,index.XT ops n=t:=⟨_,rfl⟩
 obtain⟨ans,hans⟩:∃ans,UH ni inl vals src ops n=ans:=⟨_,rfl⟩
 rw[hans]
 unfold UH at hans
 rw[hbp] at hans HB
 simp only at hans
 simp only[index.T3i] at HB
 have HH:=hid h
 clear h hA hbp
 go_enter Tryz.func21,Tryz.ntmps21
 go_upto_region 2 with (go_at_call 54;refine(HB.out _ ((Zg _ _).alloc (Zc _) _)).mono ?_;rintro y w1 ⟨rfl,hb1⟩;have q0:w1.cell? ⟨w.heap.size,0,none⟩=some (.int .i64 (src:Int)):=(by have hbk:=(hb1.block w.heap.size (by simp)).trans (Yt w _);simp[World.cell?,hbk]);have HBW:=hid (show Below w.heap.size w w1 from((Zg _ _).alloc (Zc _) _).trans (hb1.mono (by simp)));clear hb1)
 by_cases h1:k=1
 ·rw[Z0 h1] at hans
  subst h1
  subst hans
  go_wp2_with (first|(go_at_call 56;refine(HS.out w1 HBW.out).mono ?_;rintro y w2 ⟨⟨ad,cap,rfl,hr⟩,rfl⟩;have HR:=hid hr;clear hr)|(go_at_call 55;refine(Zah _ ad cap HR.out p).mono ?_;rintro y w3 ⟨rfl,rfl⟩))
  go_ret
  exact⟨rfl,HBW.out⟩
 rw[ZZ h1] at hans
 have e1:(k == 1)=false:=ZW.2 h1
 by_cases h2:k=2
 ·rw[Z0 h2] at hans
  subst h2
  subst hans
  go_wp2
  go_ret
  exact⟨rfl,HBW.out⟩
 rw[ZZ h2] at hans
 have e2:(k == 2)=false:=ZW.2 h2
 subst hans
 go_wp2
 go_ret
 exact⟨rfl,HBW.out⟩
theorem EZ:(Tryz.prog.info? 2).map (fun i=>(i.zero,i.size,i.bytes))=some (some (.int .i64 0),1,8):=by kernel_rfl
theorem jG {w:World} {l:List (Int × Int × Int)} {ad:Option Addr} (h:Row OpR 3 w l ad):index.OpA w ad l:=by
 intro k hk
 rcases h with h|⟨b,o,e,hb,hc⟩
 ·rw[h] at hk;simp at hk
 obtain⟨h1,h2,h3⟩:=hc k hk
 refine⟨b,o,e,hb,?_⟩
 rw[show l.getD k (0,0,0)=l[k] by simp[List.getD,hk]]
 exact⟨h1,h2,h3⟩
structure NE where
 bud:Int
 ps:List ByteArray
 e:PE
def NdE (w:World) (b o:Nat) (n:NE):Prop:=∃(nm:ByteArray) (pa:Option Addr) (pc:Nat) (ad:Option Addr) (cap:Nat) (x:Int),
 w.cell? ⟨b,o,none⟩=some (.string nm)∧w.cell? ⟨b,o+1,none⟩=some (.slice pa n.ps.length pc)∧w.cell? ⟨b,o+2,none⟩=some (.int .i64 n.bud)∧w.cell? ⟨b,o+3,none⟩=some (.int .i64 n.e.k)∧w.cell? ⟨b,o+4,none⟩=some (.string n.e.nm)∧w.cell? ⟨b,o+5,none⟩=some (.int .i64 n.e.n) ∧
 w.cell? ⟨b,o+6,none⟩=some (.int .i64 n.e.d)∧w.cell? ⟨b,o+7,none⟩=some (.slice ad n.e.args.len cap)∧w.cell? ⟨b,o+8,none⟩=some (.int .i64 n.e.a)∧w.cell? ⟨b,o+9,none⟩=some (.int .i64 x) ∧
 Jq w Value.string pa n.ps∧n.e.args.len≤cap∧SlA w (fun _=>True) n.e.args ad
theorem qw:Sta NdE:=fun w w' b o n hb hlt h=>by
 obtain⟨nm,pa,pc,ad,cap,x,h0,h1,h2,h3,h4,h5,h6,h7,h8,h9,h10,h11,h12⟩:=h
 have hc:=fun o=>hb.cell (p:=⟨b,o,none⟩) hlt
 exact⟨nm,pa,pc,ad,cap,x,(hc _).trans h0,(hc _).trans h1,(hc _).trans h2,(hc _).trans h3,(hc _).trans h4,(hc _).trans h5,(hc _).trans h6,(hc _).trans h7,(hc _).trans h8,(hc _).trans h9,h10.keep hb.block,h11,h12.keep ⟨hb.size,fun k _ hk=>hb.block k hk⟩⟩
structure NE.ok (n:NE):Prop where
 ps:n.ps.length≤1000
 sz:n.e.sz≤1000
 n64:n.e.n64
structure MnN (w:World) (mb:Nat) (nds:List NE):Prop where
 row:∃a c,w.cell? ⟨mb,1,none⟩=some (.slice a nds.length c)∧Row NdE 10 w nds a
 ok:∀n∈nds,n.ok
def Vk (ni:Nat) (inl vals:List (List Int)) (args:List AD) (n:Int):List Int:=args.map (fun a=>UH ni inl vals a.src.toNat a.ops n)
def KQ (ni:Nat) (inl vals:List (List Int)) (nd:NE) (args:List AD) (n:Int):Int:=evE (En nd.ps (Vk ni inl vals args n)) nd.e
structure zq (ni:Nat) (inl vals:List (List Int)) (args:List AD) (n:Int) (i:Nat) (L:List Int):Prop where
 le:i≤args.length
 len:L.length=args.length
 got:∀j,j<i→L[j]?=(Vk ni inl vals args n)[j]?
theorem zq.next {ni:Nat} {inl vals:List (List Int)} {args:List AD} {n:Int} {i:Nat} {L:List Int} (h:zq ni inl vals args n i L) (hi:i<args.length):zq ni inl vals args n (i+1) (L.set i (UH ni inl vals args[i].src.toNat args[i].ops n)):=by
 refine⟨hi,by rw[List.length_set];exact h.len,fun j hj=>?_⟩
 by_cases hji:j=i
 ·subst hji
  have:=h.len
  rw[List.getElem?_set_self oq]
  simp[Vk,hi]
 rw[List.getElem?_set_ne (fun e=>hji e.symm)]
 exact h.got j oq
theorem zq.all {ni:Nat} {inl vals:List (List Int)} {args:List AD} {n:Int} {L:List Int} (h:zq ni inl vals args n args.length L):L=Vk ni inl vals args n:=by
 apply List.ext_getElem?
 intro j
 by_cases hj:j<args.length
 ·exact h.got j hj
 have:=h.len
 rw[Ya oq,Ya (by simp[Vk];omega)]
theorem VA (z:Value) (n:Nat):madeCells #[z] n=(List.replicate n z).toArray:=by rw[←toList_madeCells_one]
theorem e9 {w:World} {mb ni:Nat} {inl vals:List (List Int)} (h:MnR w mb ni inl vals) (hvl:vals.length≤100000) {nds:List NE} (hn:MnN w mb nds) (nd:Nat) (hnd:nd<nds.length) (c1 c2:Int) (args:List AD) (ta:Option Addr) (tc:Nat) (hal:args.length≤1000) (hA:Row xw 2 w args ta)
  (hsrc:∀a∈args,0≤a.src∧a.src<((ni+vals.length:Nat):Int)∧a.ops.length≤1000) (n:Int) (h64:∀x∈Vk ni inl vals args n,B64 x) :
  Calls Tryz.prog 92 #[.pointer (some ⟨mb,0,none⟩),.agg #[.int .i64 (nd:Int),.int .i64 c1,.int .i64 c2,.slice ta args.length tc],.int .i64 n] w fun y w'=>y=.returned (.int .i64 (KQ ni inl vals nds[nd] args n))∧Below w.heap.size w w':=by
 have HH:=hid h
 have HN:=hid hn
 have HA:=hid hA
 have HSR:=hid hsrc
 have H64:=hid h64
 obtain⟨ev,hans⟩:∃ev,KQ ni inl vals nds[nd] args n=ev:=⟨_,rfl⟩
 rw[hans]
 have HANS:=hid hans
 clear hans
 obtain⟨T,hT⟩:∃T,args.length=T:=⟨_,rfl⟩
 have HT:=hid hT
 have hmk:=fun W=>run_make_row' (P:=Tryz.prog) 54 2 (.int .i64 0) 8 Tryz.underlying54 EZ rfl .i64 .i64 T oq oq W
 rw[hT]
 rw[hT] at hal
 clear h hn hA hsrc h64 hT
 go_enter Tryz.func92,Tryz.ntmps92
 go_wp2
 obtain⟨W,hW⟩:∃W,(w.alloc (.cells #[.int .i64 (nd:Int),.int .i64 c1,.int .i64 c2,.slice ta T tc] 53)).alloc (.cells (madeCells #[.int .i64 0] T) 2)=W:=⟨_,rfl⟩
 have hsW:W.heap.size=w.heap.size+2:=by rw[←hW];simp
 have hb0:Below w.heap.size w W:=by rw[←hW];exact((Zg _ _).alloc (Zc _) _).alloc (by simp) _
 have hbx:W.heap[w.heap.size]?=some (.cells #[.int .i64 (nd:Int),.int .i64 c1,.int .i64 c2,.slice ta T tc] 53 (0,0)):=by
  rw[←hW]
  exact(Za _ _ _ (by simp)).trans (Yt w _)
 have how:W.ownsRow (w.heap.size+1) 2 1 (.slice (some ⟨w.heap.size+1,0,none⟩) T T) T (ints (List.replicate T 0)):=by
  have h:=Yt (w.alloc (.cells #[.int .i64 (nd:Int),.int .i64 c1,.int .i64 c2,.slice ta T tc] 53)) (.cells (madeCells #[.int .i64 0] T) 2)
  rw[Zt,hW,VA] at h
  exact⟨by simp[ints],.inr ⟨w.heap.size+1,T,_,rfl,Zc _,h,Zc _,by unfold maxLen;omega,by simp,by simp[ints]⟩⟩
 have HOW:=hid how
 have HB0:=hid hb0
 have HBX:=hid hbx
 rw[hW]
 clear hW hb0 hbx how
 go_loopw [17] (fun s17 wr=>Hid (∃i L,s17=.int .i64 ((i:Nat):Int)∧zq ni inl vals args n i L∧wr.ownsRow (w.heap.size+1) 2 1 (.slice (some ⟨w.heap.size+1,0,none⟩) T T) T (ints L)∧But (fun k=>k=w.heap.size+1) W wr)) (fun s _=>T-(intOf s).toNat)
 case atStart=>exact⟨0,List.replicate T 0,rfl,⟨Zk _,by rw[HT.out];simp,fun j hj=>absurd hj (Yi _)⟩,HOW.out,But.refl _ _⟩
 clear HOW hmk
 obtain⟨wo,rfl⟩:∃wo:World,wo=wr:=⟨_,rfl⟩
 obtain⟨i,L,rfl,hal2,hown,hbut⟩:=hrel.out
 clear hrel
 have hbw:Below w.heap.size w wo:=HB0.out.trans (hbut.below oq (fun k e=>oq))
 have hle:=hal2.le
 have hLl:=hal2.len
 have HAL:=hid hal2
 have HOW:=hid hown
 have HBT:=hid hbut
 have HBW:=hid hbw
 have hz:=hbut.size
 rw[HT.out] at hle hLl
 by_cases hi:i<T
 ·have hia:i<args.length:=by rw[HT.out];exact hi
  obtain⟨b,o,rfl,hb,hrow⟩:=HA.out.resolve_left (fun e=>by rw[e] at hia;simp at hia)
  obtain⟨c0,oa,oc,c1',hops⟩:=EB w wo b _ _ hbw hb (hrow i hia)
  obtain⟨s1,s2,s3⟩:=HSR.out args[i] (Zi hia)
  obtain⟨src,hsr⟩:∃src:Nat,args[i].src=(src:Int):=⟨args[i].src.toNat,oq⟩
  have hsn:args[i].src.toNat=src:=oq
  obtain⟨v,hv⟩:∃v,UH ni inl vals src args[i].ops n=v:=⟨_,rfl⟩
  have hnx:=HAL.out.next hia
  rw[hsn,hv] at hnx
  rw[hsr] at c0
  have HNX:=hid hnx
  have HOPS:=hid (jG hops)
  have HVA:=hid (fun W' (hb:Below wo.heap.size wo W')=>yw (w:=W') (mb:=mb) (ni:=ni) (inl:=inl) (vals:=vals) (HH.out.keep (fun b hb2=>(hb.block b (Zd hb2 hbw.size)).trans (hbw.block b hb2))) hvl src oq args[i].ops oa oc oq (HOPS.out.below hb (Zc _)) n)
  rw[hv] at HVA
  have i0:(0:Int)≤(i:Int):=oq
  have i1:(i:Int)<(T:Int):=oq
  obtain⟨ol,hol⟩:∃ol,args[i].ops.length=ol:=⟨_,rfl⟩
  rw[hol] at c1' HVA
  clear hal2 hown hbut hbw hrow hops hnx hv hsn hsr s1 s2 s3 hol
  go_wp2_with (go_at_call 21;refine(HVA.out _ ((Zg _ _).alloc (Zc _) _)).mono ?_;rintro y w6 ⟨rfl,hb6⟩;have hb7:Below wo.heap.size wo w6:=((Zg _ _).alloc (Zc _) _).trans (hb6.mono (by simp));have HB7:=hid hb7;have HO6:=hid (own_below HOW.out hb7);have hcell:=(World.ownsRow.cellAt HO6.out i oq).trans (ints_at (l:=L) (i:=i) oq);have hfz:=World.ownsRow.frozenAt HO6.out i;clear hb6 hb7)
  refine⟨hid ⟨i+1,L.set i v,by rw[show((i+1:Nat):Int)=(i:Int)+1 by omega],HNX.out,?_,HBT.out.trans ((But.of_below HB7.out).trans (But.set (S:=fun k=>k=w.heap.size+1) rfl _))⟩,?_⟩
  ·have:=Jy HO6.out i (.int .i64 v) hi
   rwa [ints_set] at this
  show T-((i:Int)+1).toNat<T-(i:Int).toNat
  omega
 obtain rfl:i=T:=oq
 have hi2:¬(i:Int)<(i:Int):=oq
 have hall:=zq.all (show zq ni inl vals args n args.length L by rw[HT.out];exact HAL.out)
 obtain⟨an,cn,hn1,hnr⟩:=HN.out.row
 have n1:=(hbw.cell (p:=⟨mb,1,none⟩) HH.out.lt).trans hn1
 obtain⟨bn,on,rfl,hbn,hnrow⟩:=hnr.resolve_left (fun e=>by rw[e] at hnd;simp at hnd)
 obtain⟨nm,pa,pc,ad,cap,x,m0,m1,m2,m3,m4,m5,m6,m7,m8,m9,hps,hcap,hsl⟩:=qw w wo bn _ _ hbw hbn (hnrow nd hnd)
 have hok:=HN.out.ok _ (Zi hnd)
 have hlen:L.length=i:=hLl
 have hai:Jq wo (Value.int .i64) (some ⟨w.heap.size+1,0,none⟩) L:=.inr ⟨w.heap.size+1,0,rfl,oq,fun j y hy=>by
  have hj:=(Zz.1 hy).1
  rw[ZC]
  exact(World.ownsRow.cellAt HOW.out j oq).trans (by simp[ints,hy])⟩
 obtain⟨N,hN⟩:∃N,nds[nd]=N:=⟨_,rfl⟩
 have hj:evE (En N.ps L) N.e=ev:=by
  have h:=HANS.out
  unfold KQ at h
  rwa [hN,←hall] at h
 rw[hN] at m1 m2 m3 m4 m5 m6 m7 m8 hps hcap hsl hok
 have HEV:=hid (km (w:=wo.drew) nm N.ps pa pc N.bud x N.e ad cap L (some ⟨w.heap.size+1,0,none⟩) i (hps.keep (fun _ _=>rfl)) (hai.keep (fun _ _=>rfl)) (by have:=hok.ps;omega) oq hcap (hsl.keep ⟨Zc _,fun _ _ _=>rfl⟩) hok.sz hok.n64 (by rw[hall];exact H64.out))
 rw[hlen] at HEV
 have hq:=(hbut.block w.heap.size oq (fun e=>oq)).trans HBX.out
 have t0:wo.cell? ⟨w.heap.size,0,none⟩=some (.int .i64 (nd:Int)):=by simp[World.cell?,hq]
 have k0:(0:Int)≤(nd:Int):=oq
 have k1:(nd:Int)<(nds.length:Int):=oq
 obtain⟨p0,hp0⟩:∃p0,on+nd*10=p0:=⟨_,rfl⟩
 rw[hp0] at m0 m1 m2 m3 m4 m5 m6 m7 m8 m9
 rw[hj] at HEV
 clear hal2 hown hbut hn1 hnr hnrow hps hcap hsl hok hai hj hN hall hq
 go_upto_region 7 with fail
 go_region_with (go_at_call 129;refine HEV.out.mono ?_;rintro y w2 ⟨rfl,hb2⟩;have HB2:=hid hb2;clear hb2)
 all_goals go_wp2
 all_goals go_ret
 all_goals exact⟨rfl,hbw.drew.trans (HB2.out.mono hbw.size)⟩
def Jg (p f n:Int):Int:=if (1≤p∧p≤2000∧0≤f∧f≤2000)∧0≤n∧n≤1099511627776 then f+n*p else 0
theorem V3 (p f n:Int) (w:World):Calls Tryz.prog 20 #[.agg #[.int .i64 p,.int .i64 f],.int .i64 n] w fun e w'=>e=.returned (.int .i64 (Jg p f n))∧Below w.heap.size w w':=by
 unfold Jg
 by_cases h:(1≤p∧p≤2000∧0≤f∧f≤2000)∧0≤n∧n≤1099511627776
 ·rw[Z0 h]
  exact clock.uY p f n w h.1 h.2.1 h.2.2
 rw[ZZ h]
 exact clock.eT p f n w h
def Qh (ni:Nat) (inl:List (List Int)) (nds:List NE) (tks:List TD) (date:Int) (vals:List (List Int)) (t:Nat):List (List Int):=match tks[t]? with
 | none=>vals
 | some d=>match nds[d.node.toNat]? with
  | none=>vals
  | some nd=>if Jg d.per d.ph ((vals.getD t []).length:Int)=date then vals.set t (vals.getD t []++[KQ ni inl vals nd d.args ((vals.getD t []).length:Int)]) else vals
def JY (ni:Nat) (inl:List (List Int)) (nds:List NE) (tks:List TD) (order:List Nat) (date:Int) (vals:List (List Int)):List (List Int):=order.foldl (Qh ni inl nds tks date) vals
def Xi (ni:Nat) (inl:List (List Int)) (nds:List NE) (tks:List TD) (order:List Nat) (n:Nat):List (List Int):=(List.range n).foldl (fun vals (date:Nat)=>JY ni inl nds tks order (date:Int) vals) (List.replicate tks.length [])
def Pre (a b:List (List Int)):Prop:=a.length=b.length∧∀t,a.getD t [] <+: b.getD t []
theorem Pre.refl (a:List (List Int)):Pre a a:=⟨rfl,fun _=>List.prefix_refl _⟩
theorem Pre.trans {a b c:List (List Int)} (h:Pre a b) (k:Pre b c):Pre a c:=⟨h.1.trans k.1,fun t=>(h.2 t).trans (k.2 t)⟩
theorem Zav (a:List (List Int)) (t:Nat) (l:List Int):Pre a (a.set t (a.getD t []++l)):=by
 refine⟨by simp,fun i=>?_⟩
 by_cases hi:i=t
 ·subst hi
  by_cases hl:i<a.length
  ·rw[show(a.set i (a.getD i []++l)).getD i []=a.getD i []++l by simp[List.getD,List.getElem?_set_self hl]]
   exact List.prefix_append _ _
  rw[show a.getD i []=[] by simp[List.getD,Ya (by omega:a.length≤i)]]
  exact List.nil_prefix
 rw[show(a.set t (a.getD t []++l)).getD i []=a.getD i [] by simp[List.getD,List.getElem?_set_ne (fun e=>hi e.symm)]]
 exact List.prefix_refl _
theorem gp (ni:Nat) (inl:List (List Int)) (nds:List NE) (tks:List TD) (date:Int) (vals:List (List Int)) (t:Nat):Pre vals (Qh ni inl nds tks date vals t):=by
 unfold Qh
 repeat' split
 all_goals first
  | exact Pre.refl _
  | exact Zav _ _ _
theorem yO {α:Type} (g:List (List Int)→α→List (List Int)) (hg:∀v x,Pre v (g v x)):∀(l:List α) (v:List (List Int)),Pre v (l.foldl g v)
 | [],v=>Pre.refl v
 | x::l,v=>(hg v x).trans (yO g hg l (g v x))
theorem gm (ni:Nat) (inl:List (List Int)) (nds:List NE) (tks:List TD) (order:List Nat) (date:Int) (vals:List (List Int)):Pre vals (JY ni inl nds tks order date vals):=yO _ (fun v t=>gp ni inl nds tks date v t) order vals
theorem yP (ni:Nat) (inl:List (List Int)) (nds:List NE) (tks:List TD) (order:List Nat) (n m:Nat):Pre (Xi ni inl nds tks order n) (Xi ni inl nds tks order (n+m)):=by
 induction m with
 | zero=>exact Pre.refl _
 | succ m ih =>
  refine ih.trans ?_
  unfold Xi
  rw[show n+(m+1)=n+m+1 by omega,List.range_succ,List.foldl_append]
  exact gm _ _ _ _ _ _ _
theorem Eh (ni:Nat) (inl:List (List Int)) (nds:List NE) (tks:List TD) (order:List Nat) (n:Nat):(Xi ni inl nds tks order n).length=tks.length:=by
 have:=(yP ni inl nds tks order 0 n).1
 rw[ZC] at this
 rw[←this]
 simp[Xi]
structure StM (wI W0 w:World) (mb vb:Nat) (ai an aT:Option Addr) (ni ci cn:Nat) (nn:Nat) (tks:List TD) (ct:Nat) (ain:Option Addr) (inl:List (List Int)) (cin cv:Nat) (vs:List Value) (vals:List (List Int)):Prop where
 old:Below wI.heap.size wI W0
 but:But (fun k=>k=vb) W0 w
 lo:wI.heap.size≤vb∧wI.heap.size≤mb∧vb≠mb∧vb<W0.heap.size∧mb<W0.heap.size
 c0:W0.cell? ⟨mb,0,none⟩=some (.slice ai ni ci)
 c1:W0.cell? ⟨mb,1,none⟩=some (.slice an nn cn)
 c2:W0.cell? ⟨mb,2,none⟩=some (.slice aT tks.length ct)
 c4:W0.cell? ⟨mb,4,none⟩=some (.slice ain inl.length cin)
 c5:W0.cell? ⟨mb,5,none⟩=some (.slice (some ⟨vb,0,none⟩) vals.length cv)
 row:w.heap[vb]?=some (.cells vs.toArray 54 (0,0))
 fam:Fam w W0.heap.size 2 vs (vals.map ints)
section
variable {wI W0 w:World} {mb vb ni ci cn nn ct cin cv:Nat} {ai an aT ain:Option Addr} {tks:List TD} {inl vals:List (List Int)} {vs:List Value}
theorem StM.low (h:StM wI W0 w mb vb ai an aT ni ci cn nn tks ct ain inl cin cv vs vals):Below wI.heap.size wI w:=by
 obtain⟨l1,l2,l3,l4,l5⟩:=h.lo
 exact h.old.trans (h.but.below h.old.size (fun k e=>oq))
theorem StM.box (h:StM wI W0 w mb vb ai an aT ni ci cn nn tks ct ain inl cin cv vs vals) (o:Nat):w.cell? ⟨mb,o,none⟩=W0.cell? ⟨mb,o,none⟩:=by
 obtain⟨l1,l2,l3,l4,l5⟩:=h.lo
 exact Zn (w:=W0) (a:=⟨mb,o,none⟩) (h.but.block mb l5 (fun e=>l3 e.symm))
theorem StM.lens (h:StM wI W0 w mb vb ai an aT ni ci cn nn tks ct ain inl cin cv vs vals):vs.length=vals.length:=by
 have:=h.fam.len
 simpa using this
theorem StM.val (h:StM wI W0 w mb vb ai an aT ni ci cn nn tks ct ain inl cin cv vs vals) {t:Nat} (ht:t<vals.length):∃a c,vs[t]?=some (.slice a vals[t].length c)∧w.cell? ⟨vb,t,none⟩=some (.slice a vals[t].length c)∧w.ownsRow W0.heap.size 2 1 (.slice a vals[t].length c) vals[t].length (ints vals[t]):=by
 have hl:=h.lens
 obtain⟨v,hv⟩:∃v,vs[t]?=some v:=⟨_,Ze oq⟩
 have ho:=h.fam.own t v (ints vals[t]) hv (by simp[ht])
 rw[QX] at ho
 obtain⟨a,c,rfl⟩:=YD ho
 refine⟨a,c,hv,?_,ho⟩
 simp[World.cell?,h.row,hv]
theorem yJ {w:World} {base:Nat} {l:List Int} {a:Option Addr} {c:Nat} (h:w.ownsRow base 2 1 (.slice a l.length c) l.length (ints l)):Jq w (Value.int .i64) a l:=by
 have h2:=h
 rcases h.2 with ⟨_,hn⟩|⟨g,cap,cur,e,hb,hg,_⟩
 ·exact .inl (Yb hn)
 injection e with e1 e2 e3
 subst e1
 subst e3
 exact .inr ⟨g,0,rfl,Zb hg,fun i x hx=>by
  rw[ZC]
  exact(World.ownsRow.cellAt h2 i (by have:=(Zz.1 hx).1;omega)).trans (by simp[ints,hx])⟩
theorem StM.rows (h:StM wI W0 w mb vb ai an aT ni ci cn nn tks ct ain inl cin cv vs vals):Qj w (some ⟨vb,0,none⟩) vals:=by
 refine .inr ⟨vb,0,rfl,Zb h.row,fun i l hl=>?_⟩
 obtain⟨hi,rfl⟩:=Zz.1 hl
 obtain⟨a,c,_,h2,h3⟩:=h.val hi
 rw[ZC]
 exact⟨a,c,h2,yJ h3⟩
theorem StM.mnr (h:StM wI W0 w mb vb ai an aT ni ci cn nn tks ct ain inl cin cv vs vals) (hin:Qj wI ain inl):MnR w mb ni inl vals:=by
 obtain⟨l1,l2,l3,l4,l5⟩:=h.lo
 exact⟨Zd l5 h.but.size,⟨_,_,(h.box 0).trans h.c0⟩,⟨_,_,(h.box 4).trans h.c4,hin.keep h.low.block⟩,⟨_,_,(h.box 5).trans h.c5,h.rows⟩⟩
theorem StM.mnn (h:StM wI W0 w mb vb ai an aT ni ci cn nn tks ct ain inl cin cv vs vals) {nds:List NE} (hn:nds.length=nn) (hr:Row NdE 10 wI nds an) (hok:∀n∈nds,n.ok):MnN w mb nds :=
 ⟨⟨_,_,(h.box 1).trans (by rw[hn];exact h.c1),hr.below qw h.low⟩,hok⟩
end
theorem Zcy {T:ByteArray→Int} (hT:∀nm,B64 (T nm)) (e:PE) (h:e.n64):B64 (evE T e):=by
 have:=ju hT (.cons e.k e.nm e.n e.d e.args e.a .nil) ⟨h.1,h.2,trivial⟩ 0
 rwa [qe T _ 0 e rfl] at this
def Bv (m:Nat) (vals:List (List Int)):Prop:=∀l∈vals,l.length≤m∧∀x∈l,B64 x
theorem Bv.set {m:Nat} {vals:List (List Int)} (h:Bv m vals) (t:Nat) {v:Int} (hv:B64 v):Bv (m+1) (vals.set t (vals.getD t []++[v])):=by
 intro l hl
 have hm:∀l'∈vals,l'.length≤m+1∧∀x∈l',B64 x:=fun l' h'=>⟨by have:=(h l' h').1;omega,(h l' h').2⟩
 rcases List.mem_or_eq_of_mem_set hl with h1|h1
 ·exact hm l h1
 subst h1
 by_cases ht:t<vals.length
 ·have hg:vals.getD t []=vals[t]:=by simp[List.getD,ht]
  have h2:=h _ (Zi ht)
  rw[hg]
  refine⟨by simp;exact h2.1,fun x hx=>?_⟩
  rcases List.mem_append.1 hx with hx|hx
  ·exact h2.2 x hx
  rw[List.mem_singleton.1 hx];exact hv
 rw[List.set_eq_of_length_le oq] at hl
 have hg:vals.getD t []=[]:=by simp[List.getD,Ya (by omega:vals.length≤t)]
 rw[hg]
 exact⟨by simp,fun x hx=>by simp at hx;rw[hx];exact hv⟩
structure ZaU (ni:Nat) (nds:List NE) (tks:List TD):Prop where
 len:tks.length≤1000
 node:∀d∈tks,∃k:Nat,d.node=(k:Int)∧k<nds.length
 args:∀d∈tks,d.args.length≤1000∧∀a∈d.args,0≤a.src∧a.src<((ni+tks.length:Nat):Int)∧a.ops.length≤1000
def jP (tks:List TD):Prop:=∀d∈tks,∀a∈d.args,∀n,B64 (index.XT a.ops n).2.1
theorem kZ {l:List Int} (h:∀x∈l,B64 x) (n:Int):B64 (X7 l n):=by
 have h0:B64 0:=by unfold B64;omega
 unfold X7
 split
 ·exact h0
 rw[Zf]
 cases hg:l[n.toNat]? with
 | none=>exact h0
 | some x=>exact h x (Z8 hg)
theorem Zb2 {ni:Nat} {inl vals:List (List Int)} {m m':Nat} (h1:Bv m inl) (h2:Bv m' vals) (src:Nat) (ops:List (Int × Int × Int)) (n:Int) (hn:B64 (index.XT ops n).2.1):B64 (UH ni inl vals src ops n):=by
 have h0:B64 0:=by unfold B64;omega
 have hnil:∀x∈([]:List Int),B64 x:=fun x hx=>by cases hx
 have key:∀(ll:List (List Int)) (M:Nat),Bv M ll→∀i,∀x∈ll.getD i [],B64 x:=by
  intro ll M h i
  rw[Zf]
  cases hg:ll[i]? with
  | none=>exact hnil
  | some l=>exact(h l (Z8 hg)).2
 unfold UH
 split
 ·refine kZ ?_ _
  unfold GD
  split
  ·exact key _ _ h2 _
  exact key _ _ h1 _
 split
 ·exact hn
 exact h0
theorem jn {ni:Nat} {inl vals:List (List Int)} {m m':Nat} (h1:Bv m inl) (h2:Bv m' vals) {tks:List TD} (hn:jP tks) {d:TD} (hd:d∈tks) (n:Int):∀x∈Vk ni inl vals d.args n,B64 x:=by
 intro x hx
 obtain⟨a,ha,rfl⟩:=Yc.1 hx
 exact Zb2 h1 h2 _ _ _ (hn d hd a ha n)
theorem kI {ni:Nat} {inl vals:List (List Int)} {m m':Nat} (h1:Bv m inl) (h2:Bv m' vals) {tks:List TD} (hn:jP tks) {d:TD} (hd:d∈tks) {nd:NE} (ho:nd.ok) (n:Int):B64 (KQ ni inl vals nd d.args n) :=
 Zcy (jM _ (jn h1 h2 hn hd n)) _ ho.n64
theorem Bv.turn {ni:Nat} {inl vals:List (List Int)} {m m':Nat} (h1:Bv m' inl) (h2:Bv m vals) {nds:List NE} {tks:List TD} (hn:jP tks) (ho:∀n∈nds,n.ok) (date:Int) (t:Nat):Bv (m+1) (Qh ni inl nds tks date vals t):=by
 have hm:Bv (m+1) vals:=fun l' h'=>⟨by have:=(h2 l' h').1;omega,(h2 l' h').2⟩
 unfold Qh
 cases hd:tks[t]? with
 | none=>exact hm
 | some d =>
  simp only
  cases hk:nds[d.node.toNat]? with
  | none=>exact hm
  | some nd =>
   simp only
   split
   ·exact h2.set t (kI h1 h2 hn (Z8 hd) (ho nd (Z8 hk)) _)
   exact hm
end Go.Proofs.YtlhlcdjiafdoeaaGreatDoor.syn
