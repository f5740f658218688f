/- Parts of the proof. -/
import Derived.Test.YtlhlcdjiafdoeaaGreatDoorV20
import Derived.Test.YtlhlcdjiafdoeaaGreatDoorV21
set_option linter.all false
set_option maxRecDepth 100000
set_option maxHeartbeats 16000000
namespace Go.Proofs.YtlhlcdjiafdoeaaGreatDoor.syn
open Go.RowKit Go.Shelf
theorem Za2 {w:World} {b:Nat} {v0 v1 v2 v3:Value} {t:TypeId} (h:w.heap[b]?=some (.cells #[v0,v1,v2,v3] t (0,0))) (u0 u1 u2 u3:Value):((((w.setCell ⟨b,0,none⟩ u0).setCell ⟨b,1,none⟩ u1).setCell ⟨b,2,none⟩ u2).setCell ⟨b,3,none⟩ u3).heap[b]?=some (.cells #[u0,u1,u2,u3] t (0,0)):=by
 have h0:=Zj _ b 0 _ t u0 h
 have h1:=Zj _ b 1 _ t u1 h0
 have h2:=Zj _ b 2 _ t u2 h1
 have h3:=Zj _ b 3 _ t u3 h2
 simpa only [sA,sB,sC] using h3
theorem xk (w:World) (b:Nat) (u0 u1 u2 u3:Value):Upon b w ((((w.setCell ⟨b,0,none⟩ u0).setCell ⟨b,1,none⟩ u1).setCell ⟨b,2,none⟩ u2).setCell ⟨b,3,none⟩ u3) :=
 ((((Upon.refl b w).setAt (Or.inl rfl) _).setAt (Or.inl rfl) _).setAt (Or.inl rfl) _).setAt (Or.inl rfl) _
theorem YO.of_upon {e:TypeId} {w w':World} {b:Nat} {cur:Array Value} {fz:Nat × Nat} (h:w.heap[b]?=some (.cells cur e fz)) (hu:Upon b w w'):YO e w w':=by
 intro i cur' t fz' hi ht
 refine(hu.block i (Zb hi) (fun he=>?_)).trans hi
 subst he
 rw[h] at hi
 injection hi with hi
 injection hi with h1 h2 h3
 exact ht h2.symm
structure uN (w:World) (e:PE) (way:ByteArray) (ad:Option Addr) (cap X:Nat) (nd pp ff:Int) (al:List (Nat × List Op3)) (i:Nat) (v:Value) (wr:World):Prop where
 le:i≤al.length
 hX:w.heap.size+2≤X
 b0:wr.heap[w.heap.size]?=some (Uh e ad cap way)
 b1:wr.heap[w.heap.size+1]?=some (.cells #[.int .i64 0,.int .i64 0,.int .i64 0,.slice none 0 0] 53 (0,0))
 bx:wr.heap[X]?=some (.cells #[.int .i64 nd,.int .i64 pp,.int .i64 ff,v] 53 (0,0))
 row:Y1 (Vn w.heap.size) 75 2 wr w.heap.size v (al.take i)
 low:Below w.heap.size w wr
section
variable {w:World} {e:PE} {way:ByteArray} {ad:Option Addr} {cap X:Nat} {nd pp ff:Int} {al:List (Nat × List Op3)} {i:Nat} {v:Value} {wr:World}
theorem Em {α:Type} {l:List α} {i:Nat} (h:i<l.length):l.take (i+1)=l.take i++[l[i]]:=by
 rw[Zu h]
theorem uN.app (h:uN w e way ad cap X nd pp ff al i v wr) (hlt:i<al.length) {w6 w4:World} (hb6:Below wr.heap.size wr w6) {v6:Value} {sx:Nat} {ox:List Op3} (hx:al[i]=(sx,ox)) (hown6:w6.ownsRow w.heap.size 135 3 v6 ox.length (Qd ox)) {cs:List (List Value)} (h1:cs.length=(al.take i).length)
  (h2:wr.ownsRow w.heap.size 75 2 v i cs.flatten) (h3:∀c∈cs,c.length=2) (h4:∀j (hj:j<(al.take i).length) (hj':j<cs.length),Vn w.heap.size wr cs[j] (al.take i)[j]) {ob:Obj} {v':Value}
  (hown4:w4.ownsRow w.heap.size 75 2 v' (i+1) (cs.flatten++[.int .i64 (sx:Int),v6])) (hg4:(w6.alloc ob).grownBy w4 v.ownBlock) :
  (w4.cell? ⟨X,3,none⟩=some v∧w4.frozen? ⟨X,3,none⟩=false)∧uN w e way ad cap X nd pp ff al (i+1) v' (w4.setCell ⟨X,3,none⟩ v'):=by
 obtain⟨hst,hbe,hsz⟩:=VQ h2 hb6 hg4
 have htk:(al.take i).length=i:=by rw[Z9];omega
 have hst6:YO 75 w6 w4:=(YO.of_below ((Zg w6.heap.size w6).alloc (Zc _) ob)).trans (YO.of_grown (own_below (own_below h2 hb6) ((Zg _ _).alloc (Zc _) ob)) hg4)
 have hx4:=hst X _ _ _ h.bx (by decide)
 have hXX:=h.hX
 have hlw:=h.low.size
 have hset:YO 53 w4 (w4.setCell ⟨X,3,none⟩ v'):=YO.set w4 X 3 hx4 v'
 have hother:∀k,k≠X→(w4.setCell ⟨X,3,none⟩ v').heap[k]?=w4.heap[k]?:=fun k hk=>Zr _ _ _ _ hk
 refine⟨⟨by simp[World.cell?,hx4],by simp[World.frozen?,hx4]⟩,hlt,hXX,(hother _ oq).trans (hst _ _ _ _ h.b0 (by decide)),(hother _ oq).trans (hst _ _ _ _ h.b1 (by decide)),?_,?_,?_⟩
 ·have:=Zj _ X 3 _ _ v' hx4
  simpa only [sA,sB,sC] using this
 ·rw[Em hlt,hx]
  have hr:=QR (Pe:=Vn w.heap.size) h1 (by rw[htk];exact h2) h3 h4 (fun c x hc=>hc.stays hst (by decide)) (c:=[.int .i64 (sx:Int),v6]) rfl (x:=(sx,ox)) ⟨v6,rfl,Jl hown6 hst6 (by decide)⟩ (by rw[htk];exact hown4)
  exact hr.stays hset (by decide) (fun c x hc=>hc.stays hset (by decide))
 exact(h.low.trans (hbe _ (Zc _) hlw)).setCell (p:=⟨X,3,none⟩) (by show w.heap.size≤X;omega) _
end
def qZ (p:PG) (xIx fIx iIx:IE) (e:PE) (way:ByteArray) (r:Nat × List Op3):Prop:=∃N ops,Xl p.flows p.ins.length xIx fIx iIx N e way []=some (r.1,ops)∧r.2=ops.reverse
theorem GM {W0 w:World} (p:PG) (an ai af ao:Option Addr) (cn ci cf co:Nat) (hp:AP W0 p an ai af ao cn ci cf co) (hok:Jd p) (mc mi mf mn mx m:Nat) (Lc Li Lf Ln Lx:List (ByteArray × Value)) (hM:Mkr W0 p an ai af ao cn ci cf co mc mi mf mn mx m Lc Li Lf Ln Lx w)
  (xIx fIx iIx:IE) (hX:Xf Lx xIx) (hF:Xf Lf fIx) (hI:Xf Li iIx) (hxb:∀k j,xIx k=some j→j≤1000) (e:PE) (way:ByteArray) (ad:Option Addr) (cap:Nat) (hs:X9 W0 e ad cap way) (r:Nat × List Op3) (hr:qZ p xIx fIx iIx e way r) :
  Calls Tryz.prog 85 #[.pointer (some ⟨m,0,none⟩),spv e ad cap way] w fun x w'=>(∃v,x=.returned (.agg #[.int .i64 (r.1:Int),v])∧w'.ownsRow w.heap.size 135 3 v r.2.length (Qd r.2))∧Below w.heap.size w w':=by
 obtain⟨N,ops,h1,h2⟩:=hr
 refine(GN p an ai af ao cn ci cf co hp hok mc mi mf mn mx m Lc Li Lf Ln Lx hM xIx fIx iIx hX hF hI hxb N e way ad cap hs r.1 ops h1).mono ?_
 rintro x w' ⟨⟨v,h3,h4⟩,h5⟩
 exact⟨⟨v,h3,by rw[h2,List.length_reverse];exact h4⟩,h5⟩
theorem gT {W0 w:World} (p:PG) (an ai af ao:Option Addr) (cn ci cf co:Nat) (hp:AP W0 p an ai af ao cn ci cf co) (hok:Jd p) (mc mi mf mn mx m:Nat) (Lc Li Lf Ln Lx:List (ByteArray × Value)) (hM:Mkr W0 p an ai af ao cn ci cf co mc mi mf mn mx m Lc Li Lf Ln Lx w)
  (xIx fIx iIx nIx:IE) (hX:Xf Lx xIx) (hF:Xf Lf fIx) (hI:Xf Li iIx) (hN:Xf Ln nIx) (hxb:∀k j,xIx k=some j→j≤1000) (env:Env) (hC:Xt Lc env) (e:PE) (way:ByteArray) (ad:Option Addr) (cap:Nat) (hs:X9 W0 e ad cap way)
  (pp ff:Int) (ht:UX (Qk env) e=(pp,ff)) (al:List (Nat × List Op3)) (hlen:al.length=e.args.len) (hal:∀i c,e.args.at i=some c→∀h:i<al.length,qZ p xIx fIx iIx c (way++⟨#[47]⟩++dg i) al[i]) :
  Calls Tryz.prog 84 #[.pointer (some ⟨m,0,none⟩),spv e ad cap way] w fun x w'=>(∃v,x=.returned (.agg #[.int .i64 (((nIx e.nm).getD 0:Nat):Int),.int .i64 pp,.int .i64 ff,v])∧Y1 (Vn w.heap.size) 75 2 w' w.heap.size v al)∧Below w.heap.size w w':=by
 have hlm:=hM.lt
 have hw0:=hM.low.size
 have HCO:=hid (fun(w':World) (hb:Below w.heap.size w w')=>zK p an ai af ao cn ci cf co mc mi mf mn mx m Lc Li Lf Ln Lx env hC _ e (ZU _) hs.good w' ad cap hs.mem (hM.grow hb))
 rw[ht] at HCO
 dsimp only at HCO
 have HAR:=hid (fun(w':World) (hb:Below w.heap.size w w') i c (hc:e.args.at i=some c)=>Q5 (hM.low.trans (hb.mono hw0)) e c ad cap way i hs hc)
 have HAO:=hid (fun(w':World) (hb:Below w.heap.size w w') e5 way5 ad5 cap5 (hs5:X9 W0 e5 ad5 cap5 way5) r hr=>GM p an ai af ao cn ci cf co hp hok mc mi mf mn mx m Lc Li Lf Ln Lx (hM.grow hb) xIx fIx iIx hX hF hI hxb e5 way5 ad5 cap5 hs5 r hr)
 have HM:=hid hM
 have HN:=hid hN
 have HAL:=hid hal
 have hfew:=hs.few
 have hlsz:=X5 e.args
 obtain⟨⟨z0,z1,z2,z3,z4,z5,z6,z7,z8⟩,zf⟩:=YN (show w.heap[m]?=_ from hM.box)
 clear hM hp hok hX hF hI hN hxb hC hs ht hal
 unfold spv ev at *
 obtain⟨nd,hnd⟩:∃nd:Int,(((nIx e.nm).getD 0:Nat):Int)=nd:=⟨_,rfl⟩
 have hlk:(if false then Value.tuple #[(YT e.nm Ln).getD (.int .i64 0),.bool (YT e.nm Ln).isSome] else (YT e.nm Ln).getD (.int .i64 0))=.int .i64 nd:=by rw[←hnd,HN.out e.nm];cases nIx e.nm<;>rfl
 have HLK:=hid hlk
 rw[hnd]
 clear hnd hlk
 go_enter Tryz.func84,Tryz.ntmps84
 go_upto_region 1 with fail
 obtain⟨W2,hW2⟩:∃W2,(w.alloc (Uh e ad cap way)).alloc (.cells #[.int .i64 0,.int .i64 0,.int .i64 0,.slice none 0 0] 53)=W2:=⟨_,rfl⟩
 change Code.wp _ _ _ _ ((w.alloc (Uh e ad cap way)).alloc (.cells #[.int .i64 0,.int .i64 0,.int .i64 0,.slice none 0 0] 53))
 rw[hW2]
 have hB:Below w.heap.size w W2:=by rw[←hW2];exact bq
 have hs2:W2.heap.size=w.heap.size+2:=by rw[←hW2];simp
 have hq0:W2.heap[w.heap.size]?=some (Uh e ad cap way):=by rw[←hW2];exact(Za _ _ _ (by simp)).trans (Yt w _)
 have hq1:W2.heap[w.heap.size+1]?=some (.cells #[.int .i64 0,.int .i64 0,.int .i64 0,.slice none 0 0] 53 (0,0)):=by rw[←hW2];simpa using Yt (w.alloc (Uh e ad cap way)) (.cells #[.int .i64 0,.int .i64 0,.int .i64 0,.slice none 0 0] 53)
 have hM2:=HM.out.grow hB
 have HM2:=hid hM2
 clear z0 z1 z2 z3 z4 z5 z6 z7 z8 zf hW2
 obtain⟨⟨z0,z1,z2,z3,z4,z5,z6,z7,z8⟩,zf⟩:=YN (show W2.heap[m]?=_ from hM2.box)
 obtain⟨⟨x0,x1,x2,x3,x4,x5,x6⟩,xf⟩:=YP hq0
 have HB:=hid hB
 have HQ0:=hid hq0
 have HQ1:=hid hq1
 have lb0:m<W2.heap.size:=oq
 have lb1:w.heap.size<W2.heap.size:=oq
 have lb2:w.heap.size+1<W2.heap.size:=oq
 have lb3:w.heap.size+2≤W2.heap.size:=oq
 clear hB hq0 hq1 hM2 hs2
 go_cut [5] (fun s5 W=>Hid (∃X,s5=.pointer (some ⟨X,0,none⟩)∧W2.heap.size≤X∧W.heap[X]?=some (.cells #[.int .i64 nd,.int .i64 pp,.int .i64 ff,.slice none 0 0] 53 (0,0))∧Below W2.heap.size W2 W))
 case first =>
  have KB:=hid (show ∀W:World,Below W2.heap.size W2 W→(fun w'=>w'.cell? ⟨m,7,none⟩=some (.map (some mn))∧w'.cell? ⟨w.heap.size,0,none⟩=some (.int .i64 e.k)∧w'.cell? ⟨w.heap.size,1,none⟩=some (.string e.nm)∧w'.cell? ⟨w.heap.size,2,none⟩=some (.int .i64 e.n)∧w'.cell? ⟨w.heap.size,3,none⟩=some (.int .i64 e.d)∧w'.cell? ⟨w.heap.size,4,none⟩=some (.slice ad e.args.len cap)∧w'.cell? ⟨w.heap.size,5,none⟩=some (.int .i64 e.a)∧(Instr.lookup 159 (.map (some mn)) (.string e.nm) false).run Tryz.prog w'=.ok (.int .i64 nd) w') W from fun W hb=>by
   have h:=Xr QA (HM2.out.nd.below hb) e.nm false
   rw[HLK.out] at h
   exact⟨(hb.cell (p:=⟨m,7,none⟩) lb0).trans z7,(hb.cell (p:=⟨w.heap.size,0,none⟩) lb1).trans x0,(hb.cell (p:=⟨w.heap.size,1,none⟩) lb1).trans x1,(hb.cell (p:=⟨w.heap.size,2,none⟩) lb1).trans x2,(hb.cell (p:=⟨w.heap.size,3,none⟩) lb1).trans x3,(hb.cell (p:=⟨w.heap.size,4,none⟩) lb1).trans x4,(hb.cell (p:=⟨w.heap.size,5,none⟩) lb1).trans x5,h⟩)
  clear z0 z1 z2 z3 z4 z5 z6 z7 z8 zf x0 x1 x2 x3 x4 x5 x6 xf
  go_region_held3 (fun w'=>w'.cell? ⟨m,7,none⟩=some (.map (some mn))∧w'.cell? ⟨w.heap.size,0,none⟩=some (.int .i64 e.k)∧w'.cell? ⟨w.heap.size,1,none⟩=some (.string e.nm)∧w'.cell? ⟨w.heap.size,2,none⟩=some (.int .i64 e.n)∧w'.cell? ⟨w.heap.size,3,none⟩=some (.int .i64 e.d)∧w'.cell? ⟨w.heap.size,4,none⟩=some (.slice ad e.args.len cap)∧w'.cell? ⟨w.heap.size,5,none⟩=some (.int .i64 e.a)∧(Instr.lookup 159 (.map (some mn)) (.string e.nm) false).run Tryz.prog w'=.ok (.int .i64 nd) w') ((exact KB.out _ bq)) (first|(go_at_call 121;refine(HCO.out _ bq).mono ?_;rintro x w1 ⟨rfl,hb1⟩;have hz1:W2.heap.size≤w1.heap.size:=(by have h:=hb1.size;first|exact h|(simp at h;omega));first|(have hca:w1.heap[W2.heap.size]?=some (.cells #[.int .i64 0,.int .i64 0,.int .i64 0,.slice none 0 0] 53 (0,0)):=(hb1.block W2.heap.size (by simp)).trans (Yt W2.drew _);have hcc:=Yu hca;obtain⟨⟨v0,v1,v2,v3⟩,vf⟩:=hcc;have HCA:=hid hca;clear hca)|skip))
  all_goals
   go_wp2_with fail
   go_meet
   first|exact⟨_,rfl,(by first|exact Zc _|assumption|(simp;done)|omega),Za2 HCA.out _ _ _ _,bq⟩|exact⟨_,rfl,(by first|exact Zc _|assumption|(simp;done)|omega),Yt _ _,bq⟩
 obtain⟨X,rfl,hX,hXb,hBX⟩:=hcut.out
 clear hcut z0 z1 z2 z3 z4 z5 z6 z7 z8 zf x0 x1 x2 x3 x4 x5 x6 xf
 obtain⟨W3,rfl⟩:∃W3:World,W3=wc:=⟨_,rfl⟩
 have HT0:=hid (show uN w e way ad cap X nd pp ff al 0 (.slice none 0 0) W3 from ⟨Zk _,oq,(hBX.block _ lb1).trans HQ0.out,(hBX.block _ lb2).trans HQ1.out,hXb,by rw[List.take_zero];exact Y1.nil,HB.out.trans (hBX.mono oq)⟩)
 have hx0:=(hBX.block _ lb1).trans HQ0.out
 obtain⟨⟨x0,x1,x2,x3,x4,x5,x6⟩,xf⟩:=YP hx0
 clear hXb hBX hX hx0 HQ0 HQ1 HLK HCO
 go_wp2
 go_loopw [24] (fun s24 wr=>Hid (∃(i:Nat) (v:Value),s24=.int .i64 (i:Int)∧uN w e way ad cap X nd pp ff al i v wr)) (fun s24 _=>al.length-(intOf s24).toNat)
 case atStart=>exact⟨0,_,rfl,HT0.out⟩
 obtain⟨i,v,rfl,hT⟩:=hrel.out
 clear hrel HT0 x0 x1 x2 x3 x4 x5 x6 xf
 have HT:=hid hT
 obtain⟨⟨y0,y1,y2,y3⟩,yf⟩:=Yu hT.bx
 have hle:=hT.le
 have hXX:=hT.hX
 have hlX:=Zb hT.bx
 have hlw:=hT.low.size
 by_cases hlt:i<al.length
 ·have hil:(i:Int)<(e.args.len:Int):=oq
  obtain⟨⟨x0,x1,x2,x3,x4,x5,x6⟩,xf⟩:=YP hT.b0
  obtain⟨c,hc,_⟩:=PL.at_some e.args i oq
  have HAI:=hid (HAL.out i c hc hlt)
  obtain⟨⟨sx,ox⟩,hsx⟩:∃r,al[i]=r:=⟨_,rfl⟩
  rw[hsx] at HAI
  have HSX:=hid hsx
  have HARG:=hid (fun(w':World) (hb:Below wr.heap.size wr w')=>HAR.out w' (HT.out.low.trans (hb.mono hlw)) i c hc)
  obtain⟨cs,r1,r2,r3,r4⟩:=hT.row
  have htk:(al.take i).length=i:=by rw[Z9];omega
  rw[htk] at r2
  obtain⟨av,cv,rfl⟩:=YD r2
  have HR1:=hid r1
  have HR2:=hid r2
  have HR3:=hid r3
  have HR4:=hid r4
  obtain⟨i0,hi0,hi1,hi2,hi3⟩:=info_parts qs
  have HIO:=hid (Zh hi0 (Zh hi1 (Zh hi2 hi3)))
  obtain⟨k5,nm5,n5,d5,args5,a5⟩:=c
  simp only at HARG
  clear hT r1 r2 r3 r4 hsx hc hi0 hi1 hi2 hi3 htk
  go_upto_region 5 with fail
  have hX5:X<wr.heap.size:=hlX
  go_region_law (first|(refine step_append_lies _ (by rfl) _ _ _ (by rfl) w.heap.size 75 i0 _ 2 32 Tryz.underlying51 HIO.out.1 HIO.out.2.1 HIO.out.2.2.1 HIO.out.2.2.2 rfl oq (.slice av i cv) i cs.flatten (by rfl) ((own_below HR2.out HB6.out).alloc _) ⟨w6.heap.size,0,none⟩ 1 1 [.int .i64 (sx:Int),.slice av6 ox.length cv6] (by rfl) (by rfl) (World.news_of_block (Zy _ _)) (by simp[Value.oneCell']) oq (by unfold maxLen;omega) oq (by simp;have:=HB6.out.size;omega) (w6.heap.size+1) (by simp) ?_;intro gg cap4 w4 hown4 hgrow4 hat4 hlt4;have hAP:=HT.out.app hlt HB6.out HSX.out HO6.out HR1.out HR2.out HR3.out HR4.out hown4 hgrow4;obtain⟨⟨kz4,kf4⟩,hnx⟩:=hAP;have HNX:=hid hnx;clear hnx hown4 hgrow4)|(go_simp;first|(go_at_call 81;refine(HARG.out _ bq).mono ?_;rintro x w5 ⟨⟨ad5,cap5,rfl,hsp5⟩,hb5⟩;have hb5':Below wr.heap.size wr w5:=bq;obtain⟨⟨t0,t1,t2,t3⟩,tf⟩:=Yu ((hb5'.block X hX5).trans HT.out.bx);have HSP5:=hid hsp5;have HB5:=hid hb5';have hx5:X<w5.heap.size:=Zd hX5 hb5'.size;have hx5n:¬X=w5.heap.size:=Nat.ne_of_lt hx5;clear hb5 hb5' hsp5)|(go_at_call 85;refine(HAO.out w5 (HT.out.low.trans (HB5.out.mono hlw)) _ _ _ _ HSP5.out _ HAI.out).mono ?_;rintro x w6 ⟨⟨v6,rfl,ho6⟩,hb6⟩;obtain⟨av6,cv6,rfl⟩:=YD ho6;have hb6':Below wr.heap.size wr w6:=HB5.out.trans (hb6.mono HB5.out.size);obtain⟨⟨t0,t1,t2,t3⟩,tf⟩:=Yu ((hb6'.block X hX5).trans HT.out.bx);have HO6:=hid (Y6 ho6 (Zm hlw HB5.out.size));have HB6:=hid hb6';have hx6:X<w6.heap.size:=Zd hX5 hb6'.size;have hx6n:¬X=w6.heap.size:=Nat.ne_of_lt hx6;clear hb6 hb6' ho6)))
  all_goals
   go_wp2
   exact⟨hid ⟨i+1,_,by go_num,HNX.out⟩,by simp[intOf];omega⟩
 obtain⟨⟨q0,q1,q2,q3⟩,qf⟩:=Yu hT.b1
 have hxn:¬X=w.heap.size+1:=oq
 have hil:¬(i:Int)<(e.args.len:Int):=oq
 clear hT
 obtain⟨⟨x0,x1,x2,x3,x4,x5,x6⟩,xf⟩:=YP HT.out.b0
 obtain⟨av,cv,hav⟩:=HT.out.row.form
 rw[show(al.take i).length=i by rw[Z9];omega] at hav
 subst hav
 go_wp2
 have hu:=xk wr (w.heap.size+1) (.int .i64 nd) (.int .i64 pp) (.int .i64 ff) (.slice av i cv)
 refine Zl (v:=.agg #[.int .i64 nd,.int .i64 pp,.int .i64 ff,.slice av i cv]) ?_ rfl ⟨⟨_,rfl,?_⟩,?_⟩
 ·simp only[results,Tryz.results84];go_simp
 ·have hr:=HT.out.row
  rw[List.take_of_length_le oq] at hr
  have hst:=YO.of_upon HT.out.b1 hu
  exact hr.stays hst (by decide) (fun c x h=>h.stays hst (by decide))
 exact HT.out.low.trans (hu.below hlw (ZV _ 1))
end Go.Proofs.YtlhlcdjiafdoeaaGreatDoor.syn
