/-
  Parts of the proof: Flt15, Flt13.
-/
import Derived.Deep.CutBlock
import Derived.Deep.DeepCutAuto
import Derived.Test.YtgigilkpndhddaaGreatDoorQ05
import Derived.Test.YtgigilkpndhddaaGreatDoorQ27
import Derived.Test.YtgigilkpndhddaaGreatDoorQ28
import Derived.Test.YtgigilkpndhddaaGreatDoorQ40
namespace Go.Proofs.YtgigilkpndhddaaGreatDoor.syn
set_option linter.unusedVariables false
set_option linter.unusedSimpArgs false
set_option linter.unnecessarySimpa false
set_option maxRecDepth 100000
set_option maxHeartbeats 16000000
open Go.RowKit Go.Shelf
theorem ZbA {w:World} {b:Nat} {v0 v1 v2 v3:Value} {t:TypeId} (h:w.heap[b]?=some (.cells #[v0,v1,v2,v3] t (0,0))) (u0 u1 u2 u3:Value):((((w.setCell ⟨b,0,none⟩ u0).setCell ⟨b,1,none⟩ u1).setCell ⟨b,2,none⟩ u2).setCell ⟨b,3,none⟩ u3).heap[b]?=some (.cells #[u0,u1,u2,u3] t (0,0)):=by
 have h0:=Zj _ b 0 _ t u0 h
 have h1:=Zj _ b 1 _ t u1 h0
 have h2:=Zj _ b 2 _ t u2 h1
 have h3:=Zj _ b 3 _ t u3 h2
 simpa only [sA,sB,sC] using h3
theorem yT (w:World) (b:Nat) (u0 u1 u2 u3:Value):Upon b w ((((w.setCell ⟨b,0,none⟩ u0).setCell ⟨b,1,none⟩ u1).setCell ⟨b,2,none⟩ u2).setCell ⟨b,3,none⟩ u3) :=
 ((((Upon.refl b w).setAt (Or.inl rfl) _).setAt (Or.inl rfl) _).setAt (Or.inl rfl) _).setAt (Or.inl rfl) _
theorem YM.of_upon {e:TypeId} {w w':World} {b:Nat} {cur:Array Value} {fz:Nat × Nat} (h:w.heap[b]?=some (.cells cur e fz)) (hu:Upon b w w'):YM e w w':=by
 intro i cur' t fz' hi ht
 refine(hu.block i (Zb hi) (fun he=>?_)).trans hi
 subst he
 rw[h] at hi
 injection hi with hi
 injection hi with h1 h2 h3
 exact ht h2.symm
structure eO (w:World) (e:PE) (way:ByteArray) (ad:Option Addr) (cap X:Nat) (nd pp ff:Int) (al:List (Nat × List Op3)) (i:Nat) (v:Value) (wr:World):Prop where
 le:i≤al.length
 hX:w.heap.size+2≤X
 b0:wr.heap[w.heap.size]?=some (Ul e ad cap way)
 b1:wr.heap[w.heap.size+1]?=some (.cells #[.int .i64 0,.int .i64 0,.int .i64 0,.slice none 0 0] 65 (0,0))
 bx:wr.heap[X]?=some (.cells #[.int .i64 nd,.int .i64 pp,.int .i64 ff,v] 65 (0,0))
 row:Y6 (VM w.heap.size) 69 2 wr w.heap.size v (al.take i)
 low:Below w.heap.size w wr
section
variable {w:World} {e:PE} {way:ByteArray} {ad:Option Addr} {cap X:Nat} {nd pp ff:Int} {al:List (Nat × List Op3)} {i:Nat} {v:Value} {wr:World}
theorem EC {α:Type} {l:List α} {i:Nat} (h:i<l.length):l.take (i+1)=l.take i++[l[i]]:=by
 rw[Zv h]
theorem eO.app (h:eO w e way ad cap X nd pp ff al i v wr) (hlt:i<al.length) {w6 w4:World} (hb6:Below wr.heap.size wr w6) {v6:Value} {sx:Nat} {ox:List Op3} (hx:al[i]=(sx,ox)) (hown6:w6.ownsRow w.heap.size 156 3 v6 ox.length (Qf ox)) {cs:List (List Value)} (h1:cs.length=(al.take i).length)
  (h2:wr.ownsRow w.heap.size 69 2 v i cs.flatten) (h3:∀c∈cs,c.length=2) (h4:∀j (hj:j<(al.take i).length) (hj':j<cs.length),VM w.heap.size wr cs[j] (al.take i)[j]) {ob:Obj} {v':Value}
  (hown4:w4.ownsRow w.heap.size 69 2 v' (i+1) (cs.flatten++[.int .i64 (sx:Int),v6])) (hg4:(w6.alloc ob).grownBy w4 v.ownBlock) :
  (w4.cell? ⟨X,3,none⟩=some v∧w4.frozen? ⟨X,3,none⟩=false)∧eO w e way ad cap X nd pp ff al (i+1) v' (w4.setCell ⟨X,3,none⟩ v'):=by
 obtain⟨hst,hbe,hsz⟩:=Uh h2 hb6 hg4
 have htk:(al.take i).length=i:=by rw[Yb];omega
 have hst6:YM 69 w6 w4:=(YM.of_below ((Zg w6.heap.size w6).alloc (Zc _) ob)).trans (YM.of_grown (own_below (own_below h2 hb6) ((Zg _ _).alloc (Zc _) ob)) hg4)
 have hx4:=hst X _ _ _ h.bx (by decide)
 have hXX:=h.hX
 have hlw:=h.low.size
 have hset:YM 65 w4 (w4.setCell ⟨X,3,none⟩ v'):=YM.set w4 X 3 hx4 v'
 have hother:∀k,k≠X→(w4.setCell ⟨X,3,none⟩ v').heap[k]?=w4.heap[k]?:=fun k hk=>Zr _ _ _ _ hk
 refine⟨⟨by simp[World.cell?,hx4],by simp[World.frozen?,hx4]⟩,hlt,hXX,(hother _ oq).trans (hst _ _ _ _ h.b0 (by decide)),(hother _ oq).trans (hst _ _ _ _ h.b1 (by decide)),?_,?_,?_⟩
 ·have:=Zj _ X 3 _ _ v' hx4
  simpa only [sA,sB,sC] using this
 ·rw[EC hlt,hx]
  have hr:=Jb (Pe:=VM w.heap.size) h1 (by rw[htk];exact h2) h3 h4 (fun c x hc=>hc.stays hst (by decide)) (c:=[.int .i64 (sx:Int),v6]) rfl (x:=(sx,ox)) ⟨v6,rfl,Ju hown6 hst6 (by decide)⟩ (by rw[htk];exact hown4)
  exact hr.stays hset (by decide) (fun c x hc=>hc.stays hset (by decide))
 exact(h.low.trans (hbe _ (Zc _) hlw)).setCell (p:=⟨X,3,none⟩) (by show w.heap.size≤X;omega) _
end
def vj (p:PG) (xIx fIx iIx:IE) (e:PE) (way:ByteArray) (r:Nat × List Op3):Prop:=∃N ops,Xw p.flows p.ins.length xIx fIx iIx N e way []=some (r.1,ops)∧r.2=ops.reverse
theorem Es {W0 w:World} (p:PG) (an ai af ao:Option Addr) (cn ci cf co:Nat) (hp:AP W0 p an ai af ao cn ci cf co) (hok:Jy p) (mc mi mf mn mx m:Nat) (Lc Li Lf Ln Lx:List (ByteArray × Value)) (hM:Mkr W0 p an ai af ao cn ci cf co mc mi mf mn mx m Lc Li Lf Ln Lx w)
  (xIx fIx iIx:IE) (hX:Xh Lx xIx) (hF:Xh Lf fIx) (hI:Xh Li iIx) (hxb:∀k j,xIx k=some j→j≤1000) (e:PE) (way:ByteArray) (ad:Option Addr) (cap:Nat) (hs:Qe W0 e ad cap way) (r:Nat × List Op3) (hr:vj p xIx fIx iIx e way r) :
  Calls Tryz.prog 104 #[.pointer (some ⟨m,0,none⟩),spv e ad cap way] w fun x w'=>(∃v,x=.returned (.agg #[.int .i64 (r.1:Int),v])∧w'.ownsRow w.heap.size 156 3 v r.2.length (Qf r.2))∧Below w.heap.size w w':=by
 obtain⟨N,ops,h1,h2⟩:=hr
 refine(EB p an ai af ao cn ci cf co hp hok mc mi mf mn mx m Lc Li Lf Ln Lx hM xIx fIx iIx hX hF hI hxb N e way ad cap hs r.1 ops h1).mono ?_
 rintro x w' ⟨⟨v,h3,h4⟩,h5⟩
 exact⟨⟨v,h3,by rw[h2,List.length_reverse];exact h4⟩,h5⟩
theorem gd {W0 w:World} (p:PG) (an ai af ao:Option Addr) (cn ci cf co:Nat) (hp:AP W0 p an ai af ao cn ci cf co) (hok:Jy p) (mc mi mf mn mx m:Nat) (Lc Li Lf Ln Lx:List (ByteArray × Value)) (hM:Mkr W0 p an ai af ao cn ci cf co mc mi mf mn mx m Lc Li Lf Ln Lx w)
  (xIx fIx iIx nIx:IE) (hX:Xh Lx xIx) (hF:Xh Lf fIx) (hI:Xh Li iIx) (hN:Xh Ln nIx) (hxb:∀k j,xIx k=some j→j≤1000) (env:Env) (hC:Xy Lc env) (e:PE) (way:ByteArray) (ad:Option Addr) (cap:Nat) (hs:Qe W0 e ad cap way)
  (pp ff:Int) (ht:Kf (Qj env) e=(pp,ff)) (al:List (Nat × List Op3)) (hlen:al.length=e.args.len) (hal:∀i c,e.args.at i=some c→∀h:i<al.length,vj p xIx fIx iIx c (way++⟨#[47]⟩++dg i) al[i]) :
  Calls Tryz.prog 103 #[.pointer (some ⟨m,0,none⟩),spv e ad cap way] w fun x w'=>(∃v,x=.returned (.agg #[.int .i64 (((nIx e.nm).getD 0:Nat):Int),.int .i64 pp,.int .i64 ff,v])∧Y6 (VM w.heap.size) 69 2 w' w.heap.size v al)∧Below w.heap.size w w':=by
 have hlm:=hM.lt
 have hw0:=hM.low.size
 have HCO:=hid (fun(w':World) (hb:Below w.heap.size w w')=>yM p an ai af ao cn ci cf co mc mi mf mn mx m Lc Li Lf Ln Lx env hC _ e (ZW _) hs.good w' ad cap hs.mem (hM.grow hb))
 rw[ht] at HCO
 dsimp only at HCO
 have HAR:=hid (fun(w':World) (hb:Below w.heap.size w w') i c (hc:e.args.at i=some c)=>Jh (hM.low.trans (hb.mono hw0)) e c ad cap way i hs hc)
 have HAO:=hid (fun(w':World) (hb:Below w.heap.size w w') e5 way5 ad5 cap5 (hs5:Qe W0 e5 ad5 cap5 way5) r hr=>Es p an ai af ao cn ci cf co hp hok mc mi mf mn mx m Lc Li Lf Ln Lx (hM.grow hb) xIx fIx iIx hX hF hI hxb e5 way5 ad5 cap5 hs5 r hr)
 have HM:=hid hM
 have HN:=hid hN
 have HAL:=hid hal
 have hfew:=hs.few
 have hlsz:=Qt e.args
 obtain⟨⟨z0,z1,z2,z3,z4,z5,z6,z7,z8⟩,zf⟩:=YL (show w.heap[m]?=_ from hM.box)
 clear hM hp hok hX hF hI hN hxb hC hs ht hal
 unfold spv ev at *
 obtain⟨nd,hnd⟩:∃nd:Int,(((nIx e.nm).getD 0:Nat):Int)=nd:=⟨_,rfl⟩
 have hlk:(if false then Value.tuple #[(Y0 e.nm Ln).getD (.int .i64 0),.bool (Y0 e.nm Ln).isSome] else (Y0 e.nm Ln).getD (.int .i64 0))=.int .i64 nd:=by rw[←hnd,HN.out e.nm];cases nIx e.nm<;>rfl
 have HLK:=hid hlk
 rw[hnd]
 clear hnd hlk
 go_enter Tryz.func103,Tryz.ntmps103
 go_upto_region 1 with fail
 obtain⟨W2,hW2⟩:∃W2,(w.alloc (Ul e ad cap way)).alloc (.cells #[.int .i64 0,.int .i64 0,.int .i64 0,.slice none 0 0] 65)=W2:=⟨_,rfl⟩
 change Code.wp _ _ _ _ ((w.alloc (Ul e ad cap way)).alloc (.cells #[.int .i64 0,.int .i64 0,.int .i64 0,.slice none 0 0] 65))
 rw[hW2]
 have hB:Below w.heap.size w W2:=by rw[←hW2];exact bq
 have hs2:W2.heap.size=w.heap.size+2:=by rw[←hW2];simp
 have hq0:W2.heap[w.heap.size]?=some (Ul e ad cap way):=by rw[←hW2];exact(Za _ _ _ (by simp)).trans (Yp w _)
 have hq1:W2.heap[w.heap.size+1]?=some (.cells #[.int .i64 0,.int .i64 0,.int .i64 0,.slice none 0 0] 65 (0,0)):=by rw[←hW2];simpa using Yp (w.alloc (Ul e ad cap way)) (.cells #[.int .i64 0,.int .i64 0,.int .i64 0,.slice none 0 0] 65)
 have hM2:=HM.out.grow hB
 have HM2:=hid hM2
 clear z0 z1 z2 z3 z4 z5 z6 z7 z8 zf hW2
 obtain⟨⟨z0,z1,z2,z3,z4,z5,z6,z7,z8⟩,zf⟩:=YL (show W2.heap[m]?=_ from hM2.box)
 obtain⟨⟨x0,x1,x2,x3,x4,x5,x6⟩,xf⟩:=YO hq0
 have HB:=hid hB
 have HQ0:=hid hq0
 have HQ1:=hid hq1
 have lb0:m<W2.heap.size:=oq
 have lb1:w.heap.size<W2.heap.size:=oq
 have lb2:w.heap.size+1<W2.heap.size:=oq
 have lb3:w.heap.size+2≤W2.heap.size:=oq
 clear hB hq0 hq1 hM2 hs2
 go_cut [5] (fun s5 W=>Hid (∃X,s5=.pointer (some ⟨X,0,none⟩)∧W2.heap.size≤X∧W.heap[X]?=some (.cells #[.int .i64 nd,.int .i64 pp,.int .i64 ff,.slice none 0 0] 65 (0,0))∧Below W2.heap.size W2 W))
 case first =>
  have KB:=hid (show ∀W:World,Below W2.heap.size W2 W→(fun w'=>w'.cell? ⟨m,7,none⟩=some (.map (some mn))∧w'.cell? ⟨w.heap.size,0,none⟩=some (.int .i64 e.k)∧w'.cell? ⟨w.heap.size,1,none⟩=some (.string e.nm)∧w'.cell? ⟨w.heap.size,2,none⟩=some (.int .i64 e.n)∧w'.cell? ⟨w.heap.size,3,none⟩=some (.int .i64 e.d)∧w'.cell? ⟨w.heap.size,4,none⟩=some (.slice ad e.args.len cap)∧w'.cell? ⟨w.heap.size,5,none⟩=some (.int .i64 e.a)∧(Instr.lookup 186 (.map (some mn)) (.string e.nm) false).run Tryz.prog w'=.ok (.int .i64 nd) w') W from fun W hb=>by
   have h:=XK QH (HM2.out.nd.below hb) e.nm false
   rw[HLK.out] at h
   exact⟨(hb.cell (p:=⟨m,7,none⟩) lb0).trans z7,(hb.cell (p:=⟨w.heap.size,0,none⟩) lb1).trans x0,(hb.cell (p:=⟨w.heap.size,1,none⟩) lb1).trans x1,(hb.cell (p:=⟨w.heap.size,2,none⟩) lb1).trans x2,(hb.cell (p:=⟨w.heap.size,3,none⟩) lb1).trans x3,(hb.cell (p:=⟨w.heap.size,4,none⟩) lb1).trans x4,(hb.cell (p:=⟨w.heap.size,5,none⟩) lb1).trans x5,h⟩)
  clear z0 z1 z2 z3 z4 z5 z6 z7 z8 zf x0 x1 x2 x3 x4 x5 x6 xf
  go_region_held3 (fun w'=>w'.cell? ⟨m,7,none⟩=some (.map (some mn))∧w'.cell? ⟨w.heap.size,0,none⟩=some (.int .i64 e.k)∧w'.cell? ⟨w.heap.size,1,none⟩=some (.string e.nm)∧w'.cell? ⟨w.heap.size,2,none⟩=some (.int .i64 e.n)∧w'.cell? ⟨w.heap.size,3,none⟩=some (.int .i64 e.d)∧w'.cell? ⟨w.heap.size,4,none⟩=some (.slice ad e.args.len cap)∧w'.cell? ⟨w.heap.size,5,none⟩=some (.int .i64 e.a)∧(Instr.lookup 186 (.map (some mn)) (.string e.nm) false).run Tryz.prog w'=.ok (.int .i64 nd) w') ((exact KB.out _ bq)) (first|(go_at_call 132;refine(HCO.out _ bq).mono ?_;rintro x w1 ⟨rfl,hb1⟩;have hz1:W2.heap.size≤w1.heap.size:=(by have h:=hb1.size;first|exact h|(simp at h;omega));first|(have hca:w1.heap[W2.heap.size]?=some (.cells #[.int .i64 0,.int .i64 0,.int .i64 0,.slice none 0 0] 65 (0,0)):=(hb1.block W2.heap.size (by simp)).trans (Yp W2.drew _);have hcc:=Yq hca;obtain⟨⟨v0,v1,v2,v3⟩,vf⟩:=hcc;have HCA:=hid hca;clear hca)|skip))
  all_goals
   go_wp2_with fail
   go_meet
   first|exact⟨_,rfl,(by first|exact Zc _|assumption|(simp;done)|omega),ZbA HCA.out _ _ _ _,bq⟩|exact⟨_,rfl,(by first|exact Zc _|assumption|(simp;done)|omega),Yp _ _,bq⟩
 obtain⟨X,rfl,hX,hXb,hBX⟩:=hcut.out
 clear hcut z0 z1 z2 z3 z4 z5 z6 z7 z8 zf x0 x1 x2 x3 x4 x5 x6 xf
 obtain⟨W3,rfl⟩:∃W3:World,W3=wc:=⟨_,rfl⟩
 have HT0:=hid (show eO w e way ad cap X nd pp ff al 0 (.slice none 0 0) W3 from ⟨Zk _,oq,(hBX.block _ lb1).trans HQ0.out,(hBX.block _ lb2).trans HQ1.out,hXb,by rw[List.take_zero];exact Y6.nil,HB.out.trans (hBX.mono oq)⟩)
 have hx0:=(hBX.block _ lb1).trans HQ0.out
 obtain⟨⟨x0,x1,x2,x3,x4,x5,x6⟩,xf⟩:=YO hx0
 clear hXb hBX hX hx0 HQ0 HQ1 HLK HCO
 go_wp2
 go_loopw [24] (fun s24 wr=>Hid (∃(i:Nat) (v:Value),s24=.int .i64 (i:Int)∧eO w e way ad cap X nd pp ff al i v wr)) (fun s24 _=>al.length-(intOf s24).toNat)
 case atStart=>exact⟨0,_,rfl,HT0.out⟩
 obtain⟨i,v,rfl,hT⟩:=hrel.out
 clear hrel HT0 x0 x1 x2 x3 x4 x5 x6 xf
 have HT:=hid hT
 obtain⟨⟨y0,y1,y2,y3⟩,yf⟩:=Yq hT.bx
 have hle:=hT.le
 have hXX:=hT.hX
 have hlX:=Zb hT.bx
 have hlw:=hT.low.size
 by_cases hlt:i<al.length
 ·have hil:(i:Int)<(e.args.len:Int):=oq
  obtain⟨⟨x0,x1,x2,x3,x4,x5,x6⟩,xf⟩:=YO hT.b0
  obtain⟨c,hc,_⟩:=PL.at_some e.args i oq
  have HAI:=hid (HAL.out i c hc hlt)
  obtain⟨⟨sx,ox⟩,hsx⟩:∃r,al[i]=r:=⟨_,rfl⟩
  rw[hsx] at HAI
  have HSX:=hid hsx
  have HARG:=hid (fun(w':World) (hb:Below wr.heap.size wr w')=>HAR.out w' (HT.out.low.trans (hb.mono hlw)) i c hc)
  obtain⟨cs,r1,r2,r3,r4⟩:=hT.row
  have htk:(al.take i).length=i:=by rw[Yb];omega
  rw[htk] at r2
  obtain⟨av,cv,rfl⟩:=Yy r2
  have HR1:=hid r1
  have HR2:=hid r2
  have HR3:=hid r3
  have HR4:=hid r4
  obtain⟨i0,hi0,hi1,hi2,hi3⟩:=info_parts xV
  have HIO:=hid (Zh hi0 (Zh hi1 (Zh hi2 hi3)))
  obtain⟨k5,nm5,n5,d5,args5,a5⟩:=c
  simp only at HARG
  clear hT r1 r2 r3 r4 hsx hc hi0 hi1 hi2 hi3 htk
  go_upto_region 5 with fail
  have hX5:X<wr.heap.size:=hlX
  go_region_law (first|(refine step_append_lies _ (by rfl) _ _ _ (by rfl) w.heap.size 69 i0 _ 2 32 Tryz.underlying63 HIO.out.1 HIO.out.2.1 HIO.out.2.2.1 HIO.out.2.2.2 rfl oq (.slice av i cv) i cs.flatten (by rfl) ((own_below HR2.out HB6.out).alloc _) ⟨w6.heap.size,0,none⟩ 1 1 [.int .i64 (sx:Int),.slice av6 ox.length cv6] (by rfl) (by rfl) (World.news_of_block (Zz _ _)) (by simp[Value.oneCell']) oq (by unfold maxLen;omega) oq (by simp;have:=HB6.out.size;omega) (w6.heap.size+1) (by simp) ?_;intro gg cap4 w4 hown4 hgrow4 hat4 hlt4;have hAP:=HT.out.app hlt HB6.out HSX.out HO6.out HR1.out HR2.out HR3.out HR4.out hown4 hgrow4;obtain⟨⟨kz4,kf4⟩,hnx⟩:=hAP;have HNX:=hid hnx;clear hnx hown4 hgrow4)|(go_simp;first|(go_at_call 100;refine(HARG.out _ bq).mono ?_;rintro x w5 ⟨⟨ad5,cap5,rfl,hsp5⟩,hb5⟩;have hb5':Below wr.heap.size wr w5:=bq;obtain⟨⟨t0,t1,t2,t3⟩,tf⟩:=Yq ((hb5'.block X hX5).trans HT.out.bx);have HSP5:=hid hsp5;have HB5:=hid hb5';have hx5:X<w5.heap.size:=Zd hX5 hb5'.size;have hx5n:¬X=w5.heap.size:=Nat.ne_of_lt hx5;clear hb5 hb5' hsp5)|(go_at_call 104;refine(HAO.out w5 (HT.out.low.trans (HB5.out.mono hlw)) _ _ _ _ HSP5.out _ HAI.out).mono ?_;rintro x w6 ⟨⟨v6,rfl,ho6⟩,hb6⟩;obtain⟨av6,cv6,rfl⟩:=Yy ho6;have hb6':Below wr.heap.size wr w6:=HB5.out.trans (hb6.mono HB5.out.size);obtain⟨⟨t0,t1,t2,t3⟩,tf⟩:=Yq ((hb6'.block X hX5).trans HT.out.bx);have HO6:=hid (Xg ho6 (Zm hlw HB5.out.size));have HB6:=hid hb6';have hx6:X<w6.heap.size:=Zd hX5 hb6'.size;have hx6n:¬X=w6.heap.size:=Nat.ne_of_lt hx6;clear hb6 hb6' ho6)))
  all_goals
   go_wp2
   exact⟨hid ⟨i+1,_,by go_num,HNX.out⟩,by simp[intOf];omega⟩
 obtain⟨⟨q0,q1,q2,q3⟩,qf⟩:=Yq hT.b1
 have hxn:¬X=w.heap.size+1:=oq
 have hil:¬(i:Int)<(e.args.len:Int):=oq
 clear hT
 obtain⟨⟨x0,x1,x2,x3,x4,x5,x6⟩,xf⟩:=YO HT.out.b0
 obtain⟨av,cv,hav⟩:=HT.out.row.form
 rw[show(al.take i).length=i by rw[Yb];omega] at hav
 subst hav
 go_wp2
 have hu:=yT wr (w.heap.size+1) (.int .i64 nd) (.int .i64 pp) (.int .i64 ff) (.slice av i cv)
 refine Zl (v:=.agg #[.int .i64 nd,.int .i64 pp,.int .i64 ff,.slice av i cv]) ?_ rfl ⟨⟨_,rfl,?_⟩,?_⟩
 ·simp only[results,Tryz.results103];go_simp
 ·have hr:=HT.out.row
  rw[List.take_of_length_le oq] at hr
  have hst:=YM.of_upon HT.out.b1 hu
  exact hr.stays hst (by decide) (fun c x h=>h.stays hst (by decide))
 exact HT.out.low.trans (hu.below hlw (ZX _ 1))
theorem j4 {W:World}:∀(l:PL) (b o:Nat),AC W l b o→∃news:List Value,news.length=l.len*6∧(∀j,j<l.len*6→news[j]?=W.cell? ⟨b,o+j,none⟩∧(W.cell? ⟨b,o+j,none⟩).isSome)∧∀u∈news,u.oneCell'=true
 | .nil,b,o,_=>⟨[],by simp[PL.len],fun j h=>by simp[PL.len] at h,by simp⟩
 | .cons k nm n d args a tl,b,o,h=>by
  obtain⟨h0,h1,h2,h3,h5,hn,⟨ad,cap,h4,_⟩,ht⟩:=h
  obtain⟨news,hl,hj,h1c⟩:=j4 tl b (o+6) ht
  refine⟨.int .i64 k::.string nm::.int .i64 n::.int .i64 d::.slice ad args.len cap::.int .i64 a::news,by simp only[Zp,hl,PL.len];omega,?_,?_⟩
  ·intro j hlt
   match j,hlt with
   | 0,_=>exact⟨h0.symm,by rw[Nat.add_zero,h0];rfl⟩
   | 1,_=>exact⟨h1.symm,by rw[h1];rfl⟩
   | 2,_=>exact⟨h2.symm,by rw[h2];rfl⟩
   | 3,_=>exact⟨h3.symm,by rw[h3];rfl⟩
   | 4,_=>exact⟨h4.symm,by rw[h4];rfl⟩
   | 5,_=>exact⟨h5.symm,by rw[h5];rfl⟩
   | j+6,hlt =>
    have:=hj j (by simp only[PL.len] at hlt;omega)
    rw[show o+6+j=o+(j+6) by omega] at this
    exact this
  intro u hu
  simp only[ZR] at hu
  rcases hu with rfl|rfl|rfl|rfl|rfl|rfl|hu
  ·rfl
  ·rfl
  ·rfl
  ·rfl
  ·rfl
  ·rfl
  exact h1c u hu
theorem xw:(Tryz.prog.info? 88).map (fun i=>(i.zero,i.size,i.bytes))=some (some (.agg #[.int .i64 0,.string ⟨#[]⟩,.int .i64 0,.int .i64 0,.slice none 0 0,.int .i64 0]),6,72):=by kernel_rfl
theorem Zdf (w w3:World) (e:TypeId) (size:Nat) (h:w.heap.size≤w3.heap.size):(w3.alloc (.cells #[] e)).ownsRow w.heap.size e size (.slice (some ⟨w3.heap.size,0,none⟩) 0 0) 0 [] :=
 ⟨by simp,.inr ⟨w3.heap.size,0,#[],rfl,h,Yp w3 _,Zc _,by unfold maxLen;omega,by simp,by simp⟩⟩
theorem Zby (ad:Option Addr) (n cap:Nat) (w:World):(binOp BinOp.eql 86 (.slice ad n cap) (.slice none 0 0)).run Tryz.prog w=.ok (.bool ad.isNone) w:=by cases ad<;>kernel_rfl
def ClE (W0:World) (b o n base:Nat) (v:Value) (w':World):Prop:=∃ad' cap',v=.slice ad' n cap'∧n≤cap'∧(0<n→∃g cur,ad'=some ⟨g,0,none⟩∧base≤g∧w'.heap[g]?=some (.cells cur 88 (0,0))∧∀j,j<n*6→cur[j]?=W0.cell? ⟨b,o+j,none⟩)
theorem qG {W0 w:World} (l:PL) (ad:Option Addr) (cap:Nat) (h:AS W0 l ad) (hl:l.len≤1000) (hB:Below W0.heap.size W0 w) :
  Calls Tryz.prog 131 #[.slice ad l.len cap] w fun x w'=>(∃b o v,x=.returned v∧(0<l.len→ad=some ⟨b,o,none⟩)∧ClE W0 b o l.len w.heap.size v w')∧Below w.heap.size w w':=by
 obtain⟨i0,hi0,hi1,hi2,hi3⟩:=info_parts xw
 cases ad with
 | none =>
  have hl0:l.len=0:=by
   rcases h with rfl|⟨b,o,h,_⟩
   ·rfl
   cases h
  rw[hl0]
  have hnil:=fun w=>Zby none 0 cap w
  simp only[Option.isNone] at hnil
  go_enter Tryz.func131,Tryz.ntmps131
  go_wp2
  go_ret
  exact⟨⟨0,0,_,rfl,fun h=>absurd h oq,none,0,rfl,Zc _,fun h=>absurd h oq⟩,bq⟩
 | some adr =>
  obtain⟨b,o,news,hadr,hnl,hnj,hn1⟩:∃b o,∃news:List Value,(0<l.len→adr=⟨b,o,none⟩∧b<W0.heap.size)∧news.length=l.len*6∧(∀j,j<l.len*6→news[j]?=W0.cell? ⟨b,o+j,none⟩∧(W0.cell? ⟨b,o+j,none⟩).isSome)∧∀u∈news,u.oneCell'=true:=by
   rcases h with rfl|⟨b,o,h,hb,hac⟩
   ·exact⟨0,0,[],fun h=>absurd h (by simp[PL.len]),by simp[PL.len],fun j h=>by simp[PL.len] at h,by simp⟩
   obtain⟨news,h1,h2,h3⟩:=j4 l b o hac
   exact⟨b,o,news,fun _=>⟨Option.some.inj h,hb⟩,h1,h2,h3⟩
  have hnew:∀(w':World),Below W0.heap.size W0 w'→∀j u,news[j]?=some u→∃x:Addr,some adr=some x∧w'.cell? (x.add j)=some u:=by
   intro w' hw' j u hju
   have hj:j<l.len*6:=by rw[←hnl];exact(ZA.1 hju).1
   obtain⟨rfl,hb⟩:=hadr oq
   refine⟨_,rfl,?_⟩
   rw[show(⟨b,o,none⟩:Addr).add j=⟨b,o+j,none⟩ from by unfold Addr.add;split<;>simp_all]
   rw[hw'.cell (p:=⟨b,o+j,none⟩) hb,←(hnj j hj).1,hju]
  have hnil:=fun w=>Zby (some adr) l.len cap w
  simp only[Option.isNone] at hnil
  go_enter Tryz.func131,Tryz.ntmps131
  go_wp2_with (refine lite.XC _ (by rfl) _ _ _ (by rfl) w.heap.size 88 i0 _ 6 72 Tryz.underlying86 hi0 hi1 hi2 hi3 rfl oq (.slice (some ⟨w.heap.size,0,none⟩) 0 0) 0 [] (by rfl) (Zdf w w _ _ (Zc _)) (some adr) l.len cap news (by rfl) hnl (hnew _ ((hB.alloc (by have:=hB.size;omega) _))) hn1 (by unfold maxLen;omega) oq (by simp) ?_;intro v1 w4 hown4 hg4 hl4)
  go_ret
  have hb4:Below w.heap.size w w4:=Below.grown ((Zg w.heap.size w).alloc (Zc _) (.cells #[] 88)) hg4 (by simp) (fun k e=>by simp[Value.ownBlock] at e;omega)
  refine⟨⟨b,o,v1,rfl,fun h=>by rw[(hadr h).1],?_⟩,hb4⟩
  rw[ZD,ZM] at hown4
  rcases hown4.2 with ⟨rfl,h0⟩|⟨g,cap1,cur,rfl,hbg,hg,hnc,hcm,hcs,htk⟩
  ·exact⟨none,0,by rw[h0],oq,fun h=>oq⟩
  refine⟨_,cap1,rfl,hnc,fun h=>⟨g,cur,rfl,hbg,hg,fun j hj=>?_⟩⟩
  rw[←(hnj j hj).1,←htk,Yn hj,Array.getElem?_toList]
theorem ZcN {cur:Array Value} {p:Nat} (hs:p+6≤cur.size) (v0 v1 v2 v3 v4 v5:Value) :
  ∃c':Array Value,c'=(((((cur.setIfInBounds p v0).setIfInBounds (p+1) v1).setIfInBounds (p+2) v2).setIfInBounds (p+3) v3).setIfInBounds (p+4) v4).setIfInBounds (p+5) v5 ∧
   (c'[p]?=some v0∧c'[p+1]?=some v1∧c'[p+2]?=some v2∧c'[p+3]?=some v3∧c'[p+4]?=some v4∧c'[p+5]?=some v5)∧∀j,j<p∨p+6≤j→c'[j]?=cur[j]?:=by
 have self:∀(c:Array Value) (i:Nat) (v:Value),i<c.size→(c.setIfInBounds i v)[i]?=some v:=fun c i v h=>by simp[Array.getElem?_setIfInBounds,h]
 have ne:∀(c:Array Value) (i j:Nat) (v:Value),i≠j→(c.setIfInBounds i v)[j]?=c[j]?:=fun c i j v h=>Array.getElem?_setIfInBounds_ne h
 refine⟨_,rfl,⟨?_,?_,?_,?_,?_,?_⟩,fun j hj=>?_⟩
 ·rw[ne _ _ _ _ oq,ne _ _ _ _ oq,ne _ _ _ _ oq,ne _ _ _ _ oq,ne _ _ _ _ oq]
  exact self _ _ _ oq
 ·rw[ne _ _ _ _ oq,ne _ _ _ _ oq,ne _ _ _ _ oq,ne _ _ _ _ oq]
  exact self _ _ _ (by simp only[Array.size_setIfInBounds];omega)
 ·rw[ne _ _ _ _ oq,ne _ _ _ _ oq,ne _ _ _ _ oq]
  exact self _ _ _ (by simp only[Array.size_setIfInBounds];omega)
 ·rw[ne _ _ _ _ oq,ne _ _ _ _ oq]
  exact self _ _ _ (by simp only[Array.size_setIfInBounds];omega)
 ·rw[ne _ _ _ _ oq]
  exact self _ _ _ (by simp only[Array.size_setIfInBounds];omega)
 ·exact self _ _ _ (by simp only[Array.size_setIfInBounds];omega)
 rw[ne _ _ _ _ oq,ne _ _ _ _ oq,ne _ _ _ _ oq,ne _ _ _ _ oq,ne _ _ _ _ oq,ne _ _ _ _ oq]
theorem Zda {w:World} {g p:Nat} {cur:Array Value} {t:TypeId} (h:w.heap[g]?=some (.cells cur t (0,0))) (hs:p+6≤cur.size) (v0 v1 v2 v3 v4 v5:Value) :
  (∃cur':Array Value,((((((w.setCell ⟨g,p,none⟩ v0).setCell ⟨g,p+1,none⟩ v1).setCell ⟨g,p+2,none⟩ v2).setCell ⟨g,p+3,none⟩ v3).setCell ⟨g,p+4,none⟩ v4).setCell ⟨g,p+5,none⟩ v5).heap[g]?=some (.cells cur' t (0,0))∧(cur'[p]?=some v0∧cur'[p+1]?=some v1∧cur'[p+2]?=some v2∧cur'[p+3]?=some v3∧cur'[p+4]?=some v4∧cur'[p+5]?=some v5)∧∀j,j<p∨p+6≤j→cur'[j]?=cur[j]?) ∧
   Upon g w ((((((w.setCell ⟨g,p,none⟩ v0).setCell ⟨g,p+1,none⟩ v1).setCell ⟨g,p+2,none⟩ v2).setCell ⟨g,p+3,none⟩ v3).setCell ⟨g,p+4,none⟩ v4).setCell ⟨g,p+5,none⟩ v5):=by
 have h0:=Zj _ g p _ t v0 h
 have h1:=Zj _ g (p+1) _ t v1 h0
 have h2:=Zj _ g (p+2) _ t v2 h1
 have h3:=Zj _ g (p+3) _ t v3 h2
 have h4:=Zj _ g (p+4) _ t v4 h3
 have h5:=Zj _ g (p+5) _ t v5 h4
 obtain⟨c',rfl,h6,h7⟩:=ZcN hs v0 v1 v2 v3 v4 v5
 exact⟨⟨_,h5,h6,h7⟩,((((((Upon.refl g w).setAt (Or.inl rfl) _).setAt (Or.inl rfl) _).setAt (Or.inl rfl) _).setAt (Or.inl rfl) _).setAt (Or.inl rfl) _).setAt (Or.inl rfl) _⟩
def ElC (w:World) (P:Nat→Prop) (b p:Nat) (c:PE):Prop:=w.cell? ⟨b,p,none⟩=some (.int .i64 c.k)∧w.cell? ⟨b,p+1,none⟩=some (.string c.nm)∧w.cell? ⟨b,p+2,none⟩=some (.int .i64 c.n)∧w.cell? ⟨b,p+3,none⟩=some (.int .i64 c.d)∧w.cell? ⟨b,p+5,none⟩=some (.int .i64 c.a) ∧
 ∃ad cap,w.cell? ⟨b,p+4,none⟩=some (.slice ad c.args.len cap)∧c.args.len≤cap∧SlA w P c.args ad
theorem yO {w:World} {P:Nat→Prop} {b:Nat}:∀(l:PL) (o:Nat),(∀j c,l.at j=some c→ElC w P b (o+j*6) c)→Jo w P b l o
 | .nil,o,_=>trivial
 | .cons k nm n d args a tl,o,h=>by
  obtain⟨h0,h1,h2,h3,h5,ad,cap,h4,hc,hs⟩:=h 0 ⟨k,nm,n,d,args,a⟩ rfl
  rw[Nat.zero_mul,Nat.add_zero] at h0 h1 h2 h3 h4 h5
  refine⟨h0,h1,h2,h3,h5,⟨ad,cap,h4,hc,hs⟩,yO tl (o+6) (fun j c hj=>?_)⟩
  have:=h (j+1) c hj
  rwa [show o+(j+1)*6=o+6+j*6 by omega] at this
def EJ (e:PE) (ad:Option Addr) (cap:Nat):Obj:=.cells #[.int .i64 e.k,.string e.nm,.int .i64 e.n,.int .i64 e.d,.slice ad e.args.len cap,.int .i64 e.a] 88 (0,0)
theorem Vf {w:World} {b:Nat} {v0 v1 v2 v3 v4 v5:Value} {t:TypeId} (h:w.heap[b]?=some (.cells #[v0,v1,v2,v3,v4,v5] t (0,0))) :
  (w.cell? ⟨b,0,none⟩=some v0∧w.cell? ⟨b,1,none⟩=some v1∧w.cell? ⟨b,2,none⟩=some v2∧w.cell? ⟨b,3,none⟩=some v3∧w.cell? ⟨b,4,none⟩=some v4∧w.cell? ⟨b,5,none⟩=some v5)∧∀o,w.frozen? ⟨b,o,none⟩=false:=by
 refine⟨⟨?_,?_,?_,?_,?_,?_⟩,?_⟩
 all_goals first|(intro o;simp[World.frozen?,h])|simp[World.cell?,h]
theorem Ut {w:World} {g:Nat} {cur:Array Value} {t:TypeId} (h:w.heap[g]?=some (.cells cur t (0,0))) (j:Nat):w.cell? ⟨g,j,none⟩=cur[j]?:=Z7 w g j cur t (0,0) h
structure xX (W0 w:World) (e:PE) (b o:Nat) (ad':Option Addr) (cap' i:Nat) (wr:World):Prop where
 le:i≤e.args.len
 b0:wr.heap[w.heap.size]?=some (EJ e ad' cap')
 b1:wr.heap[w.heap.size+1]?=some (.cells #[.int .i64 0,.string ⟨#[]⟩,.int .i64 0,.int .i64 0,.slice none 0 0,.int .i64 0] 88 (0,0))
 row:0<e.args.len→∃g cur,ad'=some ⟨g,0,none⟩∧w.heap.size+2≤g∧wr.heap[g]?=some (.cells cur 88 (0,0))∧(∀j,i*6≤j→j<e.args.len*6→cur[j]?=W0.cell? ⟨b,o+j,none⟩)∧∀j c,j<i→e.args.at j=some c→ElC wr (fun k=>w.heap.size+2≤k∧k≠g) g (j*6) c
 low:Below w.heap.size w wr
theorem xX.next {W0 w:World} {e:PE} {b o g cap' i:Nat} {wr w6:World} (h:xX W0 w e b o (some ⟨g,0,none⟩) cap' i wr) (hb:Below wr.heap.size wr w6) (hlt:i<e.args.len) {c:PE} (hc:e.args.at i=some c) (hcs:(W0.cell? ⟨b,o+(i*6+5),none⟩).isSome) {ad6:Option Addr} {cap6:Nat} (hcap:c.args.len≤cap6) (hsl:SlA w6 (fun k=>wr.heap.size≤k) c.args ad6) :
  xX W0 w e b o (some ⟨g,0,none⟩) cap' (i+1) ((((((w6.setCell ⟨g,i*6,none⟩ (.int .i64 c.k)).setCell ⟨g,i*6+1,none⟩ (.string c.nm)).setCell ⟨g,i*6+2,none⟩ (.int .i64 c.n)).setCell ⟨g,i*6+3,none⟩ (.int .i64 c.d)).setCell ⟨g,i*6+4,none⟩ (.slice ad6 c.args.len cap6)).setCell ⟨g,i*6+5,none⟩ (.int .i64 c.a)):=by
 obtain⟨g',cur,hg',hg2,hgb,hcur,hdone⟩:=h.row oq
 injection hg' with hg'
 injection hg' with hg'
 subst hg'
 have hlg:=Zb hgb
 have hsz:i*6+6≤cur.size:=by
  have h1:=hcur (i*6+5) oq oq
  rw[←h1] at hcs
  obtain⟨x,hx⟩:=Option.isSome_iff_exists.1 hcs
  have:=(Zq.1 hx).1
  omega
 obtain⟨⟨cur',h1,⟨k0,k1,k2,k3,k4,k5⟩,h2⟩,hu⟩:=Zda (p:=i*6) ((hb.block g hlg).trans hgb) hsz (.int .i64 c.k) (.string c.nm) (.int .i64 c.n) (.int .i64 c.d) (.slice ad6 c.args.len cap6) (.int .i64 c.a)
 have hs:=hb.size
 obtain⟨W,hW⟩:∃W,((((((w6.setCell ⟨g,i*6,none⟩ (.int .i64 c.k)).setCell ⟨g,i*6+1,none⟩ (.string c.nm)).setCell ⟨g,i*6+2,none⟩ (.int .i64 c.n)).setCell ⟨g,i*6+3,none⟩ (.int .i64 c.d)).setCell ⟨g,i*6+4,none⟩ (.slice ad6 c.args.len cap6)).setCell ⟨g,i*6+5,none⟩ (.int .i64 c.a))=W:=⟨_,rfl⟩
 rw[hW] at h1 hu ⊢
 have hkeep:Same (fun k=>w.heap.size+2≤k∧k≠g) wr W:=Same.upon (fun h=>h.2 rfl) hu (Same.of_below hb (Same.refl _ _))
 refine⟨oq,(hu.block _ oq oq).trans ((hb.block _ oq).trans h.b0),(hu.block _ oq oq).trans ((hb.block _ oq).trans h.b1),fun _=>⟨g,cur',rfl,hg2,h1,fun j hj hj2=>?_,fun j c' hj hc'=>?_⟩,(h.low.trans (hb.mono h.low.size)).trans (hu.below (by have:=h.low.size;omega) oq)⟩
 ·rw[h2 j oq]
  exact hcur j oq hj2
 have hcl:=fun r=>Ut h1 r
 by_cases hji:j=i
 ·subst hji
  rw[hc] at hc'
  injection hc' with hc'
  subst hc'
  refine⟨(hcl _).trans k0,(hcl _).trans k1,(hcl _).trans k2,(hcl _).trans k3,(hcl _).trans k5,ad6,cap6,(hcl _).trans k4,hcap,?_⟩
  exact(hsl.mono (Q:=fun k=>w.heap.size+2≤k∧k≠g) (fun k hk _=>oq)).keep (Same.upon (fun h=>h.2 rfl) hu (Same.refl _ _))
 obtain⟨d0,d1,d2,d3,d5,ad,cap,d4,dc,ds⟩:=hdone j c' oq hc'
 have hold:∀r,r<6→W.cell? ⟨g,j*6+r,none⟩=wr.cell? ⟨g,j*6+r,none⟩:=fun r hr=>by
  rw[hcl,h2 _ oq,Ut hgb]
 exact⟨(hold 0 oq).trans d0,(hold 1 oq).trans d1,(hold 2 oq).trans d2,(hold 3 oq).trans d3,(hold 5 oq).trans d5,ad,cap,(hold 4 oq).trans d4,dc,ds.keep hkeep⟩
theorem xX.all {W0 w:World} {e:PE} {b o cap':Nat} {ad':Option Addr} {wr:World} (h:xX W0 w e b o ad' cap' e.args.len wr):SlA wr (fun k=>w.heap.size+2≤k) e.args ad':=by
 by_cases h0:e.args.len=0
 ·refine .inl ?_
  cases hl:e.args with
  | nil=>rfl
  | cons=>rw[hl] at h0;simp[PL.len] at h0
 obtain⟨g,cur,hg',hg2,hgb,_,hdone⟩:=h.row oq
 refine .inr ⟨g,0,hg',⟨hg2,cur,hgb⟩,yO _ _ (fun j c hj=>?_)⟩
 rw[ZD]
 obtain⟨d0,d1,d2,d3,d5,ad,cap,d4,dc,ds⟩:=hdone j c (UW _ _ _ hj).1 hj
 exact⟨d0,d1,d2,d3,d5,ad,cap,d4,dc,ds.mono (fun k hk _=>hk.1)⟩
theorem qj {W0:World}:∀(M:Nat) (e:PE),e.args.sz<M→e.args.sz≤900→∀(w:World) (ad:Option Addr) (cap:Nat),AE W0 e ad cap→Below W0.heap.size W0 w →
  Calls Tryz.prog 102 #[ev e ad cap] w fun x w'=>(∃ad' cap',x=.returned (ev e ad' cap')∧e.args.len≤cap'∧SlA w' (fun k=>w.heap.size≤k) e.args ad')∧Below w.heap.size w w':=by
 intro M
 induction M with
 | zero=>intro e h;omega
 | succ M ih =>
  intro e hM hsz w ad cap hae hB
  have hlen:=Qt e.args
  have HCL:=hid (fun(w':World) (hb:Below W0.heap.size W0 w')=>qG (w:=w') e.args ad cap hae.args oq hb)
  have HIH:=hid ih
  have HAE:=hid hae
  have HB:=hid hB
  have hw0:=hB.size
  have hlc:=hae.len
  clear ih hae hB
  unfold ev
  go_enter Tryz.func102,Tryz.ntmps102
  go_wp2_with (go_at_call 131;refine(HCL.out _ (HB.out.trans ((bq:Below w.heap.size w _).mono hw0))).mono ?_;rintro x w1 ⟨⟨b,o,v,rfl,had,ad',cap',rfl,hcap,hrow⟩,hb1⟩;have hy0:w1.heap[w.heap.size]?=some (EJ e ad cap):=(hb1.block _ (by simp;omega)).trans ((Za _ _ _ (by simp)).trans (Yp w _));have hy1:w1.heap[w.heap.size+1]?=some (.cells #[.int .i64 0,.string ⟨#[]⟩,.int .i64 0,.int .i64 0,.slice none 0 0,.int .i64 0] 88 (0,0)):=(hb1.block _ (by simp)).trans (by simpa using Yp (w.alloc _) _);obtain⟨⟨x0,x1,x2,x3,x4,x5⟩,xf⟩:=Vf hy0)
  have hz1:w.heap.size+2≤w1.heap.size:=by have:=hb1.size;simpa using this
  have hb1':Below w.heap.size w w1:=bq
  obtain⟨W1,hW1⟩:∃W1,w1.setCell ⟨w.heap.size,4,none⟩ (.slice ad' e.args.len cap')=W1:=⟨_,rfl⟩
  have HC1:=hid (show xX W0 w e b o ad' cap' 0 W1 from by
   rw[←hW1]
   have hk:∀k,k≠w.heap.size→(w1.setCell ⟨w.heap.size,4,none⟩ (.slice ad' e.args.len cap')).heap[k]?=w1.heap[k]?:=fun k hk=>Zr _ _ _ _ hk
   refine⟨Zk _,?_,(hk _ oq).trans hy1,fun h=>?_,hb1'.setCell (p:=⟨w.heap.size,4,none⟩) (Zc _) _⟩
   ·unfold EJ
    have:=Zj _ w.heap.size 4 _ _ (.slice ad' e.args.len cap') hy0
    simpa only [sA,sB,sC] using this
   obtain⟨g,cur,h1,h2,h3,h4⟩:=hrow h
   have hg:w.heap.size+2≤g:=by simpa using h2
   exact⟨g,cur,h1,hg,(hk g oq).trans h3,fun j _ hj=>h4 j hj,fun j c hj=>absurd hj (Yk _)⟩)
  have HAD:=hid had
  have HCAP:=hid hcap
  rw[hW1]
  clear hW1 hy0 hy1 x0 x1 x2 x3 x4 x5 xf hz1 hb1' hb1 hrow had
  go_loopw [12] (fun v wr=>Hid (∃i:Nat,v=.int .i64 (i:Int)∧xX W0 w e b o ad' cap' i wr)) (fun i _=>e.args.len-(intOf i).toNat)
  case atStart=>exact⟨0,rfl,HC1.out⟩
  obtain⟨i,rfl,hC⟩:=hrel.out
  clear hrel HC1
  have HC:=hid hC
  obtain⟨⟨x0,x1,x2,x3,x4,x5⟩,xf⟩:=Vf hC.b0
  have hwr:=hC.low.size
  clear hC
  by_cases hlt:i<e.args.len
  ·have hil:(i:Int)<(e.args.len:Int):=oq
   obtain⟨g,cur,rfl,hg,hgb,hcur,_⟩:=HC.out.row oq
   have had:=HAD.out oq
   subst had
   obtain⟨c,hc,_⟩:=PL.at_some _ _ hlt
   obtain⟨b',o',hbo,hb0,hac⟩:∃b' o',some (⟨b,o,none⟩:Addr)=some ⟨b',o',none⟩∧b'<W0.heap.size∧AC W0 e.args b' o':=by
    rcases HAE.out.args with h0|h0
    ·rw[h0] at hlt;simp[PL.len] at hlt
    exact h0
   injection hbo with hbo
   injection hbo with hbo1 hbo2
   subst hbo1;subst hbo2
   obtain⟨ad2,cap2,y0,y1,y2,y3,y4,y5,hae2⟩:=jQ _ hac i c hc
   have hcl:∀r,r<6→wr.cell? ⟨g,i*6+r,none⟩=W0.cell? ⟨b,o+i*6+r,none⟩:=fun r hr=>by
    rw[Ut hgb,hcur _ oq oq,Nat.add_assoc]
   have e0:=(hcl 0 oq).trans y0
   have e1:=(hcl 1 oq).trans y1
   have e2:=(hcl 2 oq).trans y2
   have e3:=(hcl 3 oq).trans y3
   have e4:=(hcl 4 oq).trans y4
   have e5:=(hcl 5 oq).trans y5
   rw[Nat.add_zero] at e0
   have hszc:=(UW _ _ _ hc).2
   have HCC:=hid (fun(w':World) (hb:Below W0.heap.size W0 w')=>HIH.out c oq oq w' ad2 cap2 hae2 hb)
   unfold ev at HCC
   have hgn:¬g=w.heap.size:=oq
   have hgn1:¬g=w.heap.size+1:=oq
   have hlg:=Zb hgb
   have HCI:=hid hc
   have HCS:=hid (show(W0.cell? ⟨b,o+(i*6+5),none⟩).isSome from by rw[←Nat.add_assoc,y5];rfl)
   have HGB:=hid hgb
   have HCU:=hid hcur
   clear hgb hcur hac hc hcl y0 y1 y2 y3 y4 y5 hae2
   go_wp2
   obtain⟨W5,hW5⟩:∃W5,wr.alloc (EJ c ad2 cap2)=W5:=⟨_,rfl⟩
   have hB5:Below wr.heap.size wr W5:=by rw[←hW5];exact bq
   have hbx:W5.heap[wr.heap.size]?=some (EJ c ad2 cap2):=by rw[←hW5];exact Yp wr _
   have hs5:wr.heap.size<W5.heap.size:=Zb hbx
   change Code.wp _ _ _ _ (wr.alloc (EJ c ad2 cap2))
   rw[hW5]
   have hE5:=(hB5.block _ oq).trans HC.out.b0
   have HE0:=hid e0
   have HE1:=hid e1
   have HE2:=hid e2
   have HE3:=hid e3
   have HE4:=hid e4
   have HE5:=hid e5
   clear x0 x1 x2 x3 x4 x5 xf e0 e1 e2 e3 e4 e5 hW5
   obtain⟨⟨x0,x1,x2,x3,x4,x5⟩,xf⟩:=Vf hE5
   obtain⟨⟨z0,z1,z2,z3,z4,z5⟩,zf⟩:=Vf hbx
   have HB5:=hid hB5
   have HLW:=hid (show Below W0.heap.size W0 W5 from HB.out.trans ((HC.out.low.trans (hB5.mono hwr)).mono hw0))
   clear hB5 hbx hE5
   have hl1:w.heap.size<W5.heap.size:=oq
   have hl2:g<W5.heap.size:=oq
   have hi64:(0:Int)≤(i:Int):=oq
   go_region_law (go_simp;first|(go_at_call 102;refine(HCC.out _ HLW.out.drew).mono ?_;rintro x w6 ⟨⟨ad6,cap6,rfl,hcap6,hsl6⟩,hb6⟩;have HSL6:=hid (Zh hcap6 (hsl6.mono (Q:=fun k=>wr.heap.size≤k) (fun k hk _=>Zm (show wr.heap.size≤W5.heap.size by omega) hk)));clear hcap6 hsl6;have hb6':Below wr.heap.size wr w6:=HB5.out.drew.trans (hb6.mono (by show wr.heap.size≤W5.heap.size;omega));have hE6:=(hb6'.block _ oq).trans HC.out.b0;obtain⟨⟨r0,r1,r2,r3,r4,r5⟩,rf⟩:=Vf hE6;have hg6:=(hb6'.block g hlg).trans HGB.out;have s0:=(hb6'.cell (p:=⟨g,i*6,none⟩) hlg).trans HE0.out;have s1:=(hb6'.cell (p:=⟨g,i*6+1,none⟩) hlg).trans HE1.out;have s2:=(hb6'.cell (p:=⟨g,i*6+2,none⟩) hlg).trans HE2.out;have s3:=(hb6'.cell (p:=⟨g,i*6+3,none⟩) hlg).trans HE3.out;have s4:=(hb6'.cell (p:=⟨g,i*6+4,none⟩) hlg).trans HE4.out;have s5:=(hb6'.cell (p:=⟨g,i*6+5,none⟩) hlg).trans HE5.out;have hgf:∀r,w6.frozen? ⟨g,r,none⟩=false:=(fun r=>by simp[World.frozen?,hg6]);have HB6:=hid hb6';clear hb6 hb6' hE6 hg6))
   all_goals
    go_wp2
    have hX:=HC.out.next HB6.out hlt HCI.out HCS.out HSL6.out.1 HSL6.out.2
    exact⟨hid ⟨i+1,by go_num,hX⟩,by simp[intOf];omega⟩
  have hle:=HC.out.le
  obtain⟨⟨q0,q1,q2,q3,q4,q5⟩,qf⟩:=Vf HC.out.b1
  go_wp2
  have hie:i=e.args.len:=oq
  subst hie
  refine Zl (v:=ev e ad' cap') ?_ rfl ⟨⟨ad',cap',rfl,HCAP.out,?_⟩,?_⟩
  ·simp only[results,Tryz.results102,ev];go_simp
  ·refine SlA.mono (SlA.keep HC.out.all ?_) (fun k hk _=>Zm (ZX _ 2) hk)
   exact(((((Same.refl _ _).setCell (by show ¬_≤_;omega) _).setCell (by show ¬_≤_;omega) _).setCell (by show ¬_≤_;omega) _).setCell (by show ¬_≤_;omega) _).setCell (by show ¬_≤_;omega) _ |>.setCell (by show ¬_≤_;omega) _
  exact(((((HC.out.low.setCell (p:=⟨w.heap.size+1,0,none⟩) (ZX _ 1) _).setCell (p:=⟨w.heap.size+1,1,none⟩) (ZX _ 1) _).setCell (p:=⟨w.heap.size+1,2,none⟩) (ZX _ 1) _).setCell (p:=⟨w.heap.size+1,3,none⟩) (ZX _ 1) _).setCell (p:=⟨w.heap.size+1,4,none⟩) (ZX _ 1) _).setCell (p:=⟨w.heap.size+1,5,none⟩) (ZX _ 1) _
end Go.Proofs.YtgigilkpndhddaaGreatDoor.syn
