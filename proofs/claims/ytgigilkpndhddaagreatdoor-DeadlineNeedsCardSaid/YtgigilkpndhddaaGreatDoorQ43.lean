/-
  Parts of the proof: Flt18.
-/
import Derived.Deep.CutBlock
import Derived.Deep.DeepCutAuto
import Derived.Sort.CutIn
import Derived.Test.YtgigilkpndhddaaGreatDoorQ08
import Derived.Test.YtgigilkpndhddaaGreatDoorQ42
namespace Go.Proofs.YtgigilkpndhddaaGreatDoor.syn
set_option linter.unusedVariables false
set_option linter.unusedSimpArgs false
set_option linter.unnecessarySimpa false
set_option maxRecDepth 100000
set_option maxHeartbeats 16000000
open Go.RowKit Go.Shelf
attribute [local go_sem] ZT
theorem xW {W0 w:World} (l:List ByteArray) (ad:Option Addr) (cap:Nat) (h:Row xJ 1 W0 l ad) (hl:l.length≤1000) (hB:Below W0.heap.size W0 w) :
  Calls Tryz.prog 101 #[.slice ad l.length cap] w fun x w'=>(∃pa pc,x=.returned (.slice pa l.length pc)∧w'.ownsRow w.heap.size 9 1 (.slice pa l.length pc) l.length (l.map Value.string))∧Below w.heap.size w w':=by
 cases ad with
 | none =>
  have hl0:l.length=0:=by
   rcases h with rfl|⟨b,o,h,_⟩
   ·rfl
   cases h
  obtain rfl:l=[]:=Yd hl0
  refine(Tryz.slices_Clone_string_nil 0 cap w).mono ?_
  rintro x w' ⟨rfl,rfl⟩
  exact⟨⟨_,_,rfl,Yf _ _ _ _⟩,Zg _ _⟩
 | some a =>
  by_cases hn:l=[]
  ·subst hn
   refine(Tryz.slices_Clone_string_zero a cap w).mono ?_
   rintro x w' ⟨v',rfl,ho,_,hb⟩
   obtain⟨pa,pc,rfl⟩:=Yy ho
   exact⟨⟨pa,pc,rfl,ho⟩,hb⟩
  rcases h with h|⟨b,o,h,hb,hc⟩
  ·exact absurd h hn
  cases h
  refine(Tryz.slices_Clone_string b o l.length cap l w (Zc _) oq (fun j hj=>?_)).mono ?_
  ·have h1:=(hc j hj).1
   rw[Z8] at h1
   rw[hB.cell (p:=⟨b,o+j,none⟩) hb,h1,Zf,Ze hj]
   rfl
  rintro x w' ⟨v',rfl,ho,_,hb⟩
  obtain⟨pa,pc,rfl⟩:=Yy ho
  rw[ZS] at ho
  exact⟨⟨pa,pc,rfl,ho⟩,hb⟩
theorem VU {w:World} {b:Nat} {v0 v1 v2 v3 v4 v5 v6 v7 v8 v9:Value} {t:TypeId} (h:w.heap[b]?=some (.cells #[v0,v1,v2,v3,v4,v5,v6,v7,v8,v9] t (0,0))) :
  (w.cell? ⟨b,0,none⟩=some v0∧w.cell? ⟨b,1,none⟩=some v1∧w.cell? ⟨b,2,none⟩=some v2∧w.cell? ⟨b,3,none⟩=some v3∧w.cell? ⟨b,4,none⟩=some v4∧w.cell? ⟨b,5,none⟩=some v5∧w.cell? ⟨b,6,none⟩=some v6∧w.cell? ⟨b,7,none⟩=some v7∧w.cell? ⟨b,8,none⟩=some v8∧w.cell? ⟨b,9,none⟩=some v9)∧∀o,w.frozen? ⟨b,o,none⟩=false:=by
 refine⟨⟨?_,?_,?_,?_,?_,?_,?_,?_,?_,?_⟩,?_⟩
 all_goals first|(intro o;simp[World.frozen?,h])|simp[World.cell?,h]
theorem ZbG {w:World} {b:Nat} {v0 v1 v2 v3 v4 v5 v6 v7 v8 v9:Value} {t:TypeId} (h:w.heap[b]?=some (.cells #[v0,v1,v2,v3,v4,v5,v6,v7,v8,v9] t (0,0))) (u1 u3 u4 u5 u6 u7 u8:Value) :
  (((((((w.setCell ⟨b,1,none⟩ u1).setCell ⟨b,3,none⟩ u3).setCell ⟨b,4,none⟩ u4).setCell ⟨b,5,none⟩ u5).setCell ⟨b,6,none⟩ u6).setCell ⟨b,7,none⟩ u7).setCell ⟨b,8,none⟩ u8).heap[b]?=some (.cells #[v0,u1,v2,u3,u4,u5,u6,u7,u8,v9] t (0,0)) ∧
  (((((((w.setCell ⟨b,3,none⟩ u3).setCell ⟨b,4,none⟩ u4).setCell ⟨b,5,none⟩ u5).setCell ⟨b,6,none⟩ u6).setCell ⟨b,7,none⟩ u7).setCell ⟨b,8,none⟩ u8).setCell ⟨b,1,none⟩ u1).heap[b]?=some (.cells #[v0,u1,v2,u3,u4,u5,u6,u7,u8,v9] t (0,0)):=by
 have h1:=Zj _ b 1 _ t u1 h
 have h3:=Zj _ b 3 _ t u3 h1
 have h4:=Zj _ b 4 _ t u4 h3
 have h5:=Zj _ b 5 _ t u5 h4
 have h6:=Zj _ b 6 _ t u6 h5
 have h7:=Zj _ b 7 _ t u7 h6
 have h8:=Zj _ b 8 _ t u8 h7
 have g3:=Zj _ b 3 _ t u3 h
 have g4:=Zj _ b 4 _ t u4 g3
 have g5:=Zj _ b 5 _ t u5 g4
 have g6:=Zj _ b 6 _ t u6 g5
 have g7:=Zj _ b 7 _ t u7 g6
 have g8:=Zj _ b 8 _ t u8 g7
 have g1:=Zj _ b 1 _ t u1 g8
 exact⟨by simpa only [sA,sB,sC] using h8,by simpa only [sA,sB,sC] using g1⟩
def slot (t:Array Value) (k:Nat):Value:=t.getD k undef
theorem kN {t:Array Value} (h:t.size=120):t=#[slot t 0,slot t 1,slot t 2,slot t 3,slot t 4,slot t 5,slot t 6,slot t 7,slot t 8,slot t 9,slot t 10,slot t 11,slot t 12,slot t 13,slot t 14,slot t 15,slot t 16,slot t 17,slot t 18,slot t 19,slot t 20,slot t 21,slot t 22,slot t 23,slot t 24,slot t 25,slot t 26,slot t 27,slot t 28,slot t 29,slot t 30,slot t 31,slot t 32,slot t 33,slot t 34,slot t 35,slot t 36,slot t 37,slot t 38,slot t 39,slot t 40,slot t 41,slot t 42,slot t 43,slot t 44,slot t 45,slot t 46,slot t 47,slot t 48,slot t 49,slot t 50,slot t 51,slot t 52,slot t 53,slot t 54,slot t 55,slot t 56,slot t 57,slot t 58,slot t 59,slot t 60,slot t 61,slot t 62,slot t 63,slot t 64,slot t 65,slot t 66,slot t 67,slot t 68,slot t 69,slot t 70,slot t 71,slot t 72,slot t 73,slot t 74,slot t 75,slot t 76,slot t 77,slot t 78,slot t 79,slot t 80,slot t 81,slot t 82,slot t 83,slot t 84,slot t 85,slot t 86,slot t 87,slot t 88,slot t 89,slot t 90,slot t 91,slot t 92,slot t 93,slot t 94,slot t 95,slot t 96,slot t 97,slot t 98,slot t 99,slot t 100,slot t 101,slot t 102,slot t 103,slot t 104,slot t 105,slot t 106,slot t 107,slot t 108,slot t 109,slot t 110,slot t 111,slot t 112,slot t 113,slot t 114,slot t 115,slot t 116,slot t 117,slot t 118,slot t 119]:=by
 have h1:t.toList=(List.range 120).map (slot t):=by
  refine List.ext_getElem (by simp[h]) (fun i hi1 hi2=>?_)
  rw[List.getElem_map,List.getElem_range]
  unfold slot
  have hi:i<t.size:=by simpa using hi1
  simp[Array.getD,hi]
 have h2:(List.range 120).map (slot t)=[slot t 0,slot t 1,slot t 2,slot t 3,slot t 4,slot t 5,slot t 6,slot t 7,slot t 8,slot t 9,slot t 10,slot t 11,slot t 12,slot t 13,slot t 14,slot t 15,slot t 16,slot t 17,slot t 18,slot t 19,slot t 20,slot t 21,slot t 22,slot t 23,slot t 24,slot t 25,slot t 26,slot t 27,slot t 28,slot t 29,slot t 30,slot t 31,slot t 32,slot t 33,slot t 34,slot t 35,slot t 36,slot t 37,slot t 38,slot t 39,slot t 40,slot t 41,slot t 42,slot t 43,slot t 44,slot t 45,slot t 46,slot t 47,slot t 48,slot t 49,slot t 50,slot t 51,slot t 52,slot t 53,slot t 54,slot t 55,slot t 56,slot t 57,slot t 58,slot t 59,slot t 60,slot t 61,slot t 62,slot t 63,slot t 64,slot t 65,slot t 66,slot t 67,slot t 68,slot t 69,slot t 70,slot t 71,slot t 72,slot t 73,slot t 74,slot t 75,slot t 76,slot t 77,slot t 78,slot t 79,slot t 80,slot t 81,slot t 82,slot t 83,slot t 84,slot t 85,slot t 86,slot t 87,slot t 88,slot t 89,slot t 90,slot t 91,slot t 92,slot t 93,slot t 94,slot t 95,slot t 96,slot t 97,slot t 98,slot t 99,slot t 100,slot t 101,slot t 102,slot t 103,slot t 104,slot t 105,slot t 106,slot t 107,slot t 108,slot t 109,slot t 110,slot t 111,slot t 112,slot t 113,slot t 114,slot t 115,slot t 116,slot t 117,slot t 118,slot t 119]:=rfl
 rw[h2] at h1
 exact Array.ext' h1
theorem ZaK {p:PG} {xIx fIx iIx:IE} (hE:∀e:PE,YE e=true→Y7 p.flows p.ins.length xIx fIx iIx e) {e:PE} {way:ByteArray} (hex:YE e=true) :
  ∀i c,e.args.at i=some c→∀h:i<((Qh e.args way 0).map (fun k=>((Vl p xIx fIx iIx k.1 k.2).1,(Vl p xIx fIx iIx k.1 k.2).2.reverse))).length,vj p xIx fIx iIx c (way++⟨#[47]⟩++dg i) ((Qh e.args way 0).map (fun k=>((Vl p xIx fIx iIx k.1 k.2).1,(Vl p xIx fIx iIx k.1 k.2).2.reverse)))[i]:=by
 intro i c hc h
 have hk:=xp e.args way 0 i c hc
 rw[ZD] at hk
 obtain⟨h1,h2⟩:=ZA.1 hk
 obtain⟨N,hN⟩:=Vd (hE c (JY hex hc)) (way++⟨#[47]⟩++dg i)
 rw[List.getElem_map,h2]
 exact⟨N,(Vl p xIx fIx iIx c (way++⟨#[47]⟩++dg i)).2,hN,rfl⟩
theorem VF {base base':Nat} {w:World} {c:List Value} {x:TL} (h:QS base w c x) (hb:base'≤base):QS base' w c x:=by
 obtain⟨v,h1,h2⟩:=h
 exact⟨v,h1,Xg h2 hb⟩
theorem map_take {α β:Type} (f:α→β) {l:List α} {i:Nat} (h:i<l.length):(l.take (i+1)).map f=(l.take i).map f++[f l[i]]:=by
 rw[Zv h,ZU]
 rfl
theorem gp {W0 w:World} (p:PG) (an ai af ao:Option Addr) (cn ci cf co:Nat) (hp:AP W0 p an ai af ao cn ci cf co) (hok:Jy p) (mc mi mf mn mx m:Nat) (Lc Li Lf Ln Lx:List (ByteArray × Value)) (hM:Mkr W0 p an ai af ao cn ci cf co mc mi mf mn mx m Lc Li Lf Ln Lx w)
  (xIx fIx iIx nIx:IE) (hX:Xh Lx xIx) (hF:Xh Lf fIx) (hI:Xh Li iIx) (hN:Xh Ln nIx) (hxb:∀k j,xIx k=some j→j≤1000) (env:Env) (hC:Xy Lc env) (hE:∀e:PE,YE e=true→Y7 p.flows p.ins.length xIx fIx iIx e) (hps:∀x∈p.nodes,x.ps.length≤1000) (hfew:(YI p.flows 0).length≤30)
  (hout:∀o∈p.outs,∃j,fIx o.fl=some j∧j<p.flows.length) :
  Calls Tryz.prog 57 #[.pointer (some ⟨m,0,none⟩)] w fun x w'=>(∃vI vN vT vL,x=.returned (.agg #[vI,vN,vT,vL])∧Y6 xi 62 2 w' w.heap.size vI (p.ins.map (fun x=>(x.per,x.ph)))∧Y6 Ui 90 10 w' w.heap.size vN p.nodes ∧
   Y6 (QI w.heap.size) 65 4 w' w.heap.size vT ((YI p.flows 0).map (tkR p xIx fIx iIx nIx env))∧Y6 (QS w.heap.size) 71 5 w' w.heap.size vL (p.outs.map (tlR p xIx fIx iIx env)))∧Below w.heap.size w w':=by
 have hlm:=hM.lt
 have hw0:=hM.low.size
 have hll:=hok.lens
 have hl1:m<w.heap.size+1:=oq
 have hl2:m<w.heap.size+1+1:=oq
 have hl3:m<w.heap.size+1+1+1:=oq
 have HM:=hid hM
 have HP:=hid hp
 have HOK:=hid hok
 have HMAPS:=hid (Zh hX (Zh hF (Zh hI (Zh hN hxb))))
 have HCR:=hid hC
 have HE:=hid hE
 have HPS:=hid hps
 have HOUT:=hid hout
 obtain⟨⟨x0,x1,x2,x3,x4,x5,x6,x7,x8⟩,xf⟩:=YL (show w.heap[m]?=_ from hM.box)
 clear hM hp hok hX hF hI hN hxb hE hC hps hout
 refine(Zt (n:=6)).1 ?_
 refine callsIn_of_wp_marks Tryz.func57 rfl trivial ?_ rfl
 simp only[Tryz.ntmps57,ZI,Zp,Zw,Nat.reduceAdd,Nat.reduceSub,ZF,ZE,ZL,ZJ,ZM,ZC]
 gi_wp2
 obtain⟨W1,hW1⟩:∃W1,((w.alloc (.cells #[.pointer (some ⟨m,0,none⟩)] 123)).alloc (.cells #[.slice none 0 0,.slice none 0 0,.slice none 0 0,.slice none 0 0] 34)).alloc (.cells #[.slice none 0 0,.slice none 0 0,.slice none 0 0,.slice none 0 0] 34)=W1:=⟨_,rfl⟩
 rw[hW1]
 obtain⟨bs,hbs⟩:∃bs,W1.heap.size=bs:=⟨_,rfl⟩
 have hs1:W1.heap.size=w.heap.size+3:=by rw[←hW1];simp
 have HN1:=hid (show FtI w m bs W1.heap.size [] (.slice none 0 0) (.slice none 0 0) (.slice none 0 0) (.slice none 0 0) [] [] [] [] W1 from ⟨by rw[←hW1];exact bq,oq,oq,Zc _,by rw[←hW1];exact((Boxed.new _ _ _).alloc _).alloc _,
  by rw[←hW1];have:=(Za _ (.cells #[.slice none 0 0,.slice none 0 0,.slice none 0 0,.slice none 0 0] 34) _ (by simp)).trans (Yp (w.alloc (.cells #[.pointer (some ⟨m,0,none⟩)] 123)) (.cells #[.slice none 0 0,.slice none 0 0,.slice none 0 0,.slice none 0 0] 34));simpa using this,
  by rw[←hW1];have:=Yp ((w.alloc (.cells #[.pointer (some ⟨m,0,none⟩)] 123)).alloc (.cells #[.slice none 0 0,.slice none 0 0,.slice none 0 0,.slice none 0 0] 34)) (.cells #[.slice none 0 0,.slice none 0 0,.slice none 0 0,.slice none 0 0] 34);simpa using this,
  Y6.nil,Y6.nil,Y6.nil,Y6.nil,⟨by simp,List.nodup_nil⟩,by simp⟩)
 clear hl1 hl2 hl3 hW1 hbs hs1 x0 x1 x2 x3 x4 x5 x6 x7 x8 xf
 gi_loopw [19] (fun s19 X=>Hid (∃(i:Nat) (vI:Value),s19=.int .i64 (i:Int)∧i≤p.ins.length∧FtI w m bs X.heap.size [] vI (.slice none 0 0) (.slice none 0 0) (.slice none 0 0) ((p.ins.take i).map (fun x=>(x.per,x.ph))) [] [] [] X)) (fun s19 _=>p.ins.length-(intOf s19).toNat)
 case atStart=>exact⟨0,_,rfl,Zk _,HN1.out⟩
 obtain⟨i,vI,rfl,hi,hT⟩:=hrel.out
 clear hrel HN1
 obtain⟨W1',rfl⟩:∃W1':World,W1'=W1:=⟨_,rfl⟩
 have HTT:=hid hT
 have HW:=hid (HM.out.low.trans (hT.low.mono hw0))
 have c0:=hT.b0.cell
 by_cases hlt:i<p.ins.length
 ·have hil:(i:Int)<(p.ins.length:Int):=oq
  obtain⟨bb,oo,rfl,hbb0,hin0⟩:=HP.out.ins.at hlt
  have hin:=hin0.later HW.out hbb0
  have hbb:bb<wr.heap.size:=Zd hbb0 HW.out.size
  obtain⟨⟨nm,per,ph,fa⟩,hf⟩:∃f,p.ins[i]=f:=⟨_,rfl⟩
  rw[hf] at hin
  obtain⟨y0,y1,y2,y3,_⟩:=hin
  simp only at y0 y1 y2 y3
  have HF1:=hid hf
  clear hin0 hf
  gi_wp2
  obtain⟨W2,hW2⟩:∃W2,wr.alloc (.cells #[.string nm,.int .i64 per,.int .i64 ph,.int .i64 fa] 109)=W2:=⟨_,rfl⟩
  have hb2:Below wr.heap.size wr W2:=by rw[←hW2];exact(Zg _ _).alloc (Zc _) _
  have bx2:W2.heap[wr.heap.size]?=some (.cells #[.string nm,.int .i64 per,.int .i64 ph,.int .i64 fa] 109 (0,0)):=by rw[←hW2];exact Yp wr _
  rw[hW2]
  have ho2:=Zb bx2
  clear hW2 y0 y1 y2 y3 c0
  have hT2:=(HTT.out.keep hb2).more (B':=W2.heap.size) hb2.size (Zc _)
  have HT:=hid hT2
  have hHB:=hT2.hbs
  have hHS:=hT2.size
  obtain⟨⟨c0,c1,c2,c3⟩,cz⟩:=Yq bx2
  obtain⟨⟨f0,f1,f2,f3⟩,ff⟩:=Yq hT2.b2
  obtain⟨cs,r1,r2,r3,r4⟩:=hT2.rI
  have hnl:((p.ins.take i).map (fun x:IN=>(x.per,x.ph))).length=i:=by rw[Zo,Yb];omega
  rw[hnl] at r2
  have HNL:=hid hnl
  obtain⟨av,cv,rfl⟩:=Yy r2
  have HR1:=hid r1
  have HR2:=hid r2
  have HR3:=hid r3
  have HR4:=hid r4
  obtain⟨i0,hi0,hi1,hi2,hi3⟩:=info_parts jy
  have HIO:=hid (Zh hi0 (Zh hi1 (Zh hi2 hi3)))
  have HBX:=hid hT2.b2
  have hf2:w.heap.size+1+1<W2.heap.size:=oq
  have HIC:=hid (fun w'=>J9 (w:=w') nm per ph fa)
  clear hT hT2 r1 r2 r3 r4 hi0 hi1 hi2 hi3 hnl hb2 bx2
  refine wpIn_wide.2 (wp_region_noPanic ?_)
  go_region_law (first|(refine step_append_lies _ (by rfl) _ _ _ (by rfl) bs 62 i0 _ 2 16 Tryz.underlying30 HIO.out.1 HIO.out.2.1 HIO.out.2.2.1 HIO.out.2.2.2 rfl oq (.slice av i cv) i cs.flatten (by rfl) ((own_below HR2.out HB6.out).alloc _) ⟨w6.heap.size,0,none⟩ 1 1 [.int .i64 per,.int .i64 ph] (by rfl) (by rfl) (World.news_of_block (Zz _ _)) (by simp[Value.oneCell']) oq (by unfold maxLen;omega) oq (by simp;have:=HB6.out.size;omega) (w6.heap.size+1) (by simp) ?_;intro gg cap4 w4 hown4 hgrow4 hat4 hlt4;have hAP:=HT.out.appI HB6.out HNL.out HR1.out HR2.out HR3.out HR4.out (c:=[.int .i64 per,.int .i64 ph]) rfl (x:=(per,ph)) (rfl) hown4 hgrow4;obtain⟨⟨kz4,kf4⟩,hnx,hsty,hbl⟩:=hAP;have HNX:=hid hnx;have HSTY:=hid hsty;have HBL:=hid hbl;clear hnx hsty hbl hown4 hgrow4)|(go_simp;go_at_call 97;refine(HIC.out _).mono ?_;rintro x w6 ⟨rfl,hb6⟩;have hb6':Below W2.heap.size W2 w6:=bq;obtain⟨⟨t0,t1,t2,t3⟩,tf⟩:=Yq ((hb6'.block _ hf2).trans HBX.out);have HB6:=hid hb6';have hx6:w.heap.size+1+1<w6.heap.size:=Zd hf2 hb6'.size;have hx6n:¬w.heap.size+1+1=w6.heap.size:=Nat.ne_of_lt hx6;clear hb6 hb6'))
  all_goals
   refine NoPanic.normal ?_
   gi_wp2
   have hz:=HNX.out
   have hmt:=map_take (fun x:IN=>(x.per,x.ph)) hlt
   rw[HF1.out] at hmt
   rw[←hmt] at hz
   exact⟨hid ⟨i+1,_,by go_num,hlt,hz.more hz.bsize (Zc _)⟩,by simp[intOf];omega⟩
 have hie0:i=p.ins.length:=oq
 have hil:¬(i:Int)<(p.ins.length:Int):=oq
 subst hie0
 rw[ZS] at hT
 obtain⟨W2,rfl⟩:∃W2:World,W2=wr:=⟨_,rfl⟩
 have HN2:=hid hT
 clear hT HTT
 obtain⟨⟨x0,x1,x2,x3,x4,x5,x6,x7,x8⟩,xf⟩:=YL (show W2.heap[m]?=_ from(HN2.out.low.block m hlm).trans HM.out.box)
 gi_wp2
 gi_loopw [37] (fun s37 X=>Hid (∃(i:Nat) (vN:Value),s37=.int .i64 (i:Int)∧i≤p.nodes.length∧FtI w m bs X.heap.size [] vI vN (.slice none 0 0) (.slice none 0 0) (p.ins.map (fun x=>(x.per,x.ph))) (p.nodes.take i) [] [] X)) (fun s37 _=>p.nodes.length-(intOf s37).toNat)
 case atStart=>exact⟨0,_,rfl,Zk _,HN2.out⟩
 obtain⟨i,vN,rfl,hi2,hT⟩:=hrel.out
 clear hrel HN2 x0 x1 x2 x3 x4 x5 x6 x7 x8 xf c0 hil HW
 have HTT:=hid hT
 have HW:=hid (HM.out.low.trans (hT.low.mono hw0))
 have c0:=hT.b0.cell
 by_cases hlt:i<p.nodes.length
 ·have hil:(i:Int)<(p.nodes.length:Int):=oq
  have hpl:=HPS.out _ (Zi hlt)
  have hsz:=(HOK.out.nodes _ (Zi hlt)).2
  obtain⟨bb,oo,rfl,hbb0,hin0⟩:=HP.out.nodes.at hlt
  have hbb:bb<wr.heap.size:=Zd hbb0 HW.out.size
  have hcb:=fun o=>HW.out.cell (p:=⟨bb,o,none⟩) hbb0
  obtain⟨⟨nm,ps,bud,⟨k2,nm2,n2,d2,args2,a2⟩,fa⟩,hf⟩:∃f,p.nodes[i]=f:=⟨_,rfl⟩
  rw[hf] at hin0 hpl hsz
  obtain⟨q0,⟨pad,pcap,q1,_,_,hrow⟩,q2,⟨ead,ecap,q3,q4,q5,q6,q7,q8,hae⟩,q9,_⟩:=hin0
  simp only at q0 q1 q2 q3 q4 q5 q6 q7 q8 q9 hpl hsz hrow
  unfold PE.sz at hsz
  simp only at hsz
  have y0:=(hcb _).trans q0
  have y1:=(hcb _).trans q1
  have y2:=(hcb _).trans q2
  have y3:=(hcb _).trans q3
  have y4:=(hcb _).trans q4
  have y5:=(hcb _).trans q5
  have y6:=(hcb _).trans q6
  have y7:=(hcb _).trans q7
  have y8:=(hcb _).trans q8
  have y9:=(hcb _).trans q9
  have HF1:=hid hf
  have HCS:=hid (fun(w':World) (hb:Below W0.heap.size W0 w')=>xW (w:=w') ps pad pcap hrow hpl hb)
  have HCP:=hid (fun(w':World) (hb:Below W0.heap.size W0 w')=>qj _ ⟨k2,nm2,n2,d2,args2,a2⟩ (ZW _) (by show args2.sz≤900;omega) w' ead ecap hae hb)
  unfold ev at HCP
  simp only at HCP
  clear q0 q1 q2 q3 q4 q5 q6 q7 q8 q9 hcb hf hrow hae
  gi_wp2
  obtain⟨W4,hW4⟩:∃W4,wr.alloc (.cells #[.string nm,.slice pad ps.length pcap,.int .i64 bud,.int .i64 k2,.string nm2,.int .i64 n2,.int .i64 d2,.slice ead args2.len ecap,.int .i64 a2,.int .i64 fa] 90)=W4:=⟨_,rfl⟩
  have hb4:Below wr.heap.size wr W4:=by rw[←hW4];exact(Zg _ _).alloc (Zc _) _
  have bx4:W4.heap[wr.heap.size]?=some (.cells #[.string nm,.slice pad ps.length pcap,.int .i64 bud,.int .i64 k2,.string nm2,.int .i64 n2,.int .i64 d2,.slice ead args2.len ecap,.int .i64 a2,.int .i64 fa] 90 (0,0)):=by rw[←hW4];exact Yp wr _
  rw[hW4]
  have ho4:=Zb bx4
  clear hW4 y0 y1 y2 y3 y4 y5 y6 y7 y8 y9 c0
  have HT4:=hid ((HTT.out.keep hb4).more (B':=W4.heap.size) hb4.size (Zc _))
  have HW4:=hid (HW.out.trans (hb4.mono HW.out.size))
  have HB4:=hid bx4
  obtain⟨⟨c0,c1,c2,c3,c4,c5,c6,c7,c8,c9⟩,cz⟩:=VU bx4
  have HB44:=hid hb4
  have hs44:=hb4.size
  clear hT hb4 bx4
  gi_cut [7] from 120 (fun s7 X=>Hid (s7=.pointer (some ⟨wr.heap.size,0,none⟩)∧∃pa pc ea ec,X.heap[wr.heap.size]?=some (.cells #[.string nm,.slice pa ps.length pc,.int .i64 bud,.int .i64 k2,.string nm2,.int .i64 n2,.int .i64 d2,.slice ea args2.len ec,.int .i64 a2,.int .i64 fa] 90 (0,0))∧Below wr.heap.size wr X∧X.ownsRow 0 9 1 (.slice pa ps.length pc) ps.length (ps.map Value.string)∧args2.len≤ec∧SlA X (fun _=>True) args2 ea))
  case first =>
   refine wpIn_wide.2 (wp_region_noPanic ?_)
   go_region_law (first|(go_simp;first|(go_at_call 101;refine(HCS.out _ bq).mono ?_;rintro x w5 ⟨⟨pa,pc,rfl,hps5⟩,hb5⟩;have HPS5:=hid hps5;clear hps5;have hbA:Below W4.heap.size W4 w5:=bq;have hzA:=hbA.size;obtain⟨⟨t0,t1,t2,t3,t4,t5,t6,t7,t8,t9⟩,tz⟩:=VU ((hbA.block _ ho4).trans HB4.out);clear hb5)|(go_at_call 102;refine(HCP.out _ (HW4.out.trans (hbA.mono HW4.out.size))).mono ?_;rintro x w6 ⟨⟨ea,ec,rfl,hec6,hsl6⟩,hb6⟩;have hbC:Below W4.heap.size W4 w6:=bq;have hzC:=hbC.size;have HPS6:=hid (own_below HPS5.out hb6);have HSL6:=hid (Zh hec6 (hsl6.mono (Q:=fun k=>W4.heap.size≤k) (fun k hk _=>Zm (by simpa using hzA) hk)));clear hec6 hsl6;have HBC:=hid hbC;have HB6:=hid ((hbC.block _ ho4).trans HB4.out);obtain⟨⟨v0,v1,v2,v3,v4,v5,v6,v7,v8,v9⟩,vz⟩:=VU ((hbC.block _ ho4).trans HB4.out);clear hb6 hbC)))
   all_goals
    refine NoPanic.normal ?_
    go_wp2_with fail
    gi_meet
    have hbz:Below wr.heap.size wr w6:=HB44.out.trans (HBC.out.mono hs44)
    have hup:∀Z,Upon wr.heap.size w6 Z→Z.ownsRow 0 9 1 (.slice pa ps.length pc) ps.length (ps.map Value.string)∧SlA Z (fun _=>True) args2 ea:=fun Z hu =>
     ⟨Xg (Gv (base:=wr.heap.size+1) (Xg HPS6.out (by show wr.heap.size+1≤W4.heap.size;omega)) (ZW _) hu) (Zk _),(HSL6.out.2.keep (Same.upon (by show ¬W4.heap.size≤wr.heap.size;omega) hu (Same.refl _ _))).mono (fun _ _ _=>trivial)⟩
    refine⟨rfl,pa,pc,ea,ec,(by first|exact(ZbG HB6.out _ _ _ _ _ _ _).1|exact(ZbG HB6.out _ _ _ _ _ _ _).2),bq,(hup _ ?_).1,HSL6.out.1,(hup _ ?_).2⟩
    all_goals (repeat (first|(with_reducible exact Upon.refl _ _)|(with_reducible refine Upon.setAt ?_ (Or.inl rfl) _)))
  obtain⟨rfl,pa,pc,ea,ec,hbx,hbw,hps5,hec5,hsl5⟩:=hcut.out
  obtain⟨W5,rfl⟩:∃W5:World,W5=wc:=⟨_,rfl⟩
  have HPE5:=hid (Zh hps5 (Zh hec5 hsl5))
  clear hps5 hec5 hsl5
  clear hcut c0 c1 c2 c3 c4 c5 c6 c7 c8 c9 cz HCS HCP HB4 HT4 HW4 HB44
  have hT2:=(HTT.out.keep hbw).more (B':=W5.heap.size) hbw.size (Zc _)
  have HT:=hid hT2
  have hHB:=hT2.hbs
  have hHS:=hT2.size
  have hHZ:=hT2.bsize
  obtain⟨⟨c0,c1,c2,c3,c4,c5,c6,c7,c8,c9⟩,cz⟩:=VU hbx
  obtain⟨⟨f0,f1,f2,f3⟩,ff⟩:=Yq hT2.b2
  obtain⟨cs,r1,r2,r3,r4⟩:=hT2.rN
  have hnl:(p.nodes.take i).length=i:=by rw[Yb];omega
  rw[hnl] at r2
  have HNL:=hid hnl
  obtain⟨av,cv,rfl⟩:=Yy r2
  have HR1:=hid r1
  have HR2:=hid r2
  have HR3:=hid r3
  have HR4:=hid r4
  obtain⟨i0,hi0,hi1,hi4,hi3⟩:=info_parts yk
  have HIO:=hid (Zh hi0 (Zh hi1 (Zh hi4 hi3)))
  have HB6:=hid (Zg W5.heap.size W5)
  have hf2:w.heap.size+1+1<W5.heap.size:=oq
  clear hT2 r1 r2 r3 r4 hi0 hi1 hi3 hi4 hnl hbx hbw
  gi_upto_region 11 with fail
  refine wpIn_wide.2 (wp_region_noPanic ?_)
  go_wp2_with (refine wpList_append_lies _ (by rfl) _ _ _ (by rfl) bs 90 i0 _ 10 128 Tryz.underlying22 HIO.out.1 HIO.out.2.1 HIO.out.2.2.1 HIO.out.2.2.2 rfl oq (.slice av i cv) i cs.flatten (by rfl) ((own_below HR2.out HB6.out).alloc _) ⟨W5.heap.size,0,none⟩ 1 1 [.string nm,.slice pa ps.length pc,.int .i64 bud,.int .i64 k2,.string nm2,.int .i64 n2,.int .i64 d2,.slice ea args2.len ec,.int .i64 a2,.int .i64 fa] (by rfl) (by rfl) (World.news_of_block (Zz _ _)) (by simp[Value.oneCell']) oq (by unfold maxLen;omega) oq (by simp;have:=HB6.out.size;omega) (W5.heap.size+1) (by simp) ?_;intro gg cap4 w4 hown4 hgrow4 hat4 hlt4;have hAP:=HT.out.appN HB6.out HNL.out HR1.out HR2.out HR3.out HR4.out (c:=[.string nm,.slice pa ps.length pc,.int .i64 bud,.int .i64 k2,.string nm2,.int .i64 n2,.int .i64 d2,.slice ea args2.len ec,.int .i64 a2,.int .i64 fa]) rfl (x:=⟨nm,ps,bud,⟨k2,nm2,n2,d2,args2,a2⟩,fa⟩) (⟨pa,pc,ea,ec,rfl,HPE5.out⟩) hown4 hgrow4;obtain⟨⟨kz4,kf4⟩,hnx,hsty,hbl⟩:=hAP;have HNX:=hid hnx;have HSTY:=hid hsty;have HBL:=hid hbl;clear hnx hsty hbl hown4 hgrow4)
  refine NoPanic.normal ?_
  gi_wp2
  have hz:=HNX.out
  have hmt:=EC hlt
  rw[HF1.out] at hmt
  rw[←hmt] at hz
  exact⟨hid ⟨i+1,_,by go_num,hlt,hz.more hz.bsize (Zc _)⟩,by simp[intOf];omega⟩
 have hie0:i=p.nodes.length:=oq
 have hil:¬(i:Int)<(p.nodes.length:Int):=oq
 subst hie0
 rw[ZS] at hT
 obtain⟨W3,rfl⟩:∃W3:World,W3=wr:=⟨_,rfl⟩
 have HN3:=hid hT
 clear hT HTT
 obtain⟨⟨x0,x1,x2,x3,x4,x5,x6,x7,x8⟩,xf⟩:=YL (show W3.heap[m]?=_ from(HN3.out.low.block m hlm).trans HM.out.box)
 gi_wp2
 refine wpIn_loop (fun a' X=>∃(i:Nat) (Ds:List Nat) (dn:List (PE × ByteArray)) (vT:Value),(i≤p.flows.length∧dn++YI (p.flows.drop i) i=YI p.flows 0∧FtI w m bs X.heap.size Ds vI vN vT (.slice none 0 0) (p.ins.map (fun x=>(x.per,x.ph))) p.nodes (dn.map (tkR p xIx fIx iIx nIx env)) [] X) ∧
  a'.defers=Ds.map mk∧a'.tmps.size=120∧slot a'.tmps 0=.pointer (some ⟨m,0,none⟩)∧slot a'.tmps 1=.pointer (some ⟨w.heap.size,0,none⟩)∧slot a'.tmps 2=.pointer (some ⟨w.heap.size+1,0,none⟩)∧slot a'.tmps 3=.pointer (some ⟨w.heap.size+1+1,0,none⟩)∧slot a'.tmps 60=.slice af p.flows.length cf∧slot a'.tmps 61=.int .i64 (p.flows.length:Int)∧slot a'.tmps 62=.int .i64 (i:Int))
  (fun a' _=>p.flows.length-(intOf (slot a'.tmps 62)).toNat) ⟨0,[],[],_,⟨Zk _,rfl,HN3.out⟩,rfl,rfl,rfl,rfl,rfl,rfl,rfl,rfl,rfl⟩ ?_
 rintro⟨tt,df⟩ wo ⟨i,Ds,dn,vT,⟨hi3,hdn,hN⟩,rfl,hsz,hs_0,hs_1,hs_2,hs_3,hs_60,hs_61,hs_62⟩
 dsimp only at hsz hs_0 hs_1 hs_2 hs_3 hs_60 hs_61 hs_62 ⊢
 have hfr:=kN hsz
 rw[hs_0,hs_1,hs_2,hs_3,hs_60,hs_61,hs_62] at hfr
 rw[hs_62]
 rw[hfr]
 clear hfr hsz hs_0 hs_1 hs_2 hs_3 hs_60 hs_61 hs_62
 obtain⟨uu,huu⟩:∃uu:Nat→Value,slot tt=uu:=⟨_,rfl⟩
 rw[huu]
 clear huu tt
 clear HN3 x0 x1 x2 x3 x4 x5 x6 x7 x8 xf c0 hil HW
 have HN:=hid hN
 have c0:=hN.b0.cell
 have hlow:=hN.low
 have hsw:=hlow.size
 by_cases hlt:i<p.flows.length
 ·have hil:(i:Int)<(p.flows.length:Int):=oq
  rw[U5 hlt] at hdn
  have HDN:=hid hdn
  have hdl:dn.length≤30:=by
   have h1:=Z3 List.length hdn
   simp only[Zx] at h1
   omega
  clear hdn hN
  gi_wp2_with (refine⟨trivial,?_⟩;gi_at_call 98;refine(Zt.2 (VQ (w:=wo) m i)).mono ?_;rintro x w5 ⟨rfl,rfl⟩)
  obtain⟨W5,hW5⟩:∃W5,(wo.alloc (.cells #[.pointer (some ⟨m,0,none⟩)] 123)).alloc (.cells #[.int .i64 (i:Int)] 3)=W5:=⟨_,rfl⟩
  rw[hW5]
  have hB5:Below wo.heap.size wo W5:=by rw[←hW5];exact bq
  have hs5:W5.heap.size=wo.heap.size+2:=by rw[←hW5];simp
  have bx1:Boxed W5 wo.heap.size 123 (.pointer (some ⟨m,0,none⟩)):=by rw[←hW5];exact(Boxed.new _ _ _).alloc _
  have bx2:Boxed W5 (wo.heap.size+1) 3 (.int .i64 (i:Int)):=by rw[←hW5];have:=Boxed.new (wo.alloc (.cells #[.pointer (some ⟨m,0,none⟩)] 123)) 3 (.int .i64 (i:Int));simpa using this
  clear hW5 c0
  have HN5:=hid ((HN.out.keep hB5).more (B':=W5.heap.size) hB5.size (Zc _))
  have hM5:=HM.out.grow (hlow.trans (hB5.mono hsw))
  have hB05:=hM5.low
  have HBX:=hid hM5.box
  have hw5:=hB05.size
  have hs53:wo.heap.size+1<W5.heap.size:=oq
  have hbs:=HN5.out.hbs
  have hbs2:=HN.out.size
  have hbs3:=HN.out.bsize
  clear hB5 hs5 hM5
  refine jp (w:=W5) (encs:=fun x:VS W0=>#[.agg #[.int .i64 x.s.1.k,.string x.s.1.nm,.int .i64 x.s.1.n,.int .i64 x.s.1.d,.slice x.ad x.s.1.args.len x.cap,.int .i64 x.s.1.a,.string x.s.2]]) rfl oq (gf:=130) (lb:=#[.pointer (some ⟨wo.heap.size,0,none⟩),.pointer (some ⟨wo.heap.size+1,0,none⟩)]) rfl trivial (enters_of Tryz.func130 kq rfl) (n₀:=W0.heap.size) (Bk:=wo.heap.size) hw5
   (J8 p an ai _ ao cn ci cf co HP.out HOK.out mc mi mf mn mx m wo.heap.size (wo.heap.size+1) i _ hlt W5 wo.heap.size oq hB05 HBX.out bx1 bx2) (fun _=>rfl)
   (fun pre X=>∃vT,FtI w m bs W5.heap.size Ds vI vN vT (.slice none 0 0) (p.ins.map (fun x=>(x.per,x.ph))) p.nodes ((dn++pre.map (fun y:VS W0=>y.s)).map (tkR p xIx fIx iIx nIx env)) [] X)
   (fun pre X=>False)
   (fun s X Y row hs hg hr=>by obtain⟨vT,h⟩:=hs;exact⟨vT,h.own hg hr⟩) (fun s X Y row hs hg hr=>hs.elim) ⟨vT,by simpa using HN5.out⟩
   (fun x a' X=>∃(Bx:Nat),(W5.heap.size≤Bx∧X.heap[Bx]?=some (.cells #[.int .i64 x.s.1.k,.string x.s.1.nm,.int .i64 x.s.1.n,.int .i64 x.s.1.d,.slice x.ad x.s.1.args.len x.cap,.int .i64 x.s.1.a,.string x.s.2] 184 (0,0)))∧a'.defers=[]∧a'.tmps.size=120∧slot a'.tmps 1=.pointer (some ⟨w.heap.size,0,none⟩)∧slot a'.tmps 3=.pointer (some ⟨w.heap.size+1+1,0,none⟩)∧slot a'.tmps 9=.pointer (some ⟨Bx,0,none⟩))
   (fun x a' _ X Y row hs hg hrw=>by
    obtain⟨Bx,⟨h1,h2⟩,h3⟩:=hs
    refine⟨Bx,⟨h1,(hg.block Bx (Zq.1 h2).1 (fun e=>?_)).trans h2⟩,h3⟩
    obtain⟨_,o,ho,hc⟩:=hrw Bx e.symm
    rw[h2] at ho;cases ho;cases hc)
   ?assign ?body ?done ?stop
  case assign =>
   rintro l2 pre x X K ⟨vT',hIX⟩ hK
   gi_wp2
   exact hK _ _ ((Zg _ _).alloc (Zc _) _) ⟨vT',hIX.keep ((Zg _ _).alloc (Zc _) _)⟩ ⟨X.heap.size,⟨hIX.bsize,Yp X _⟩,rfl,rfl,rfl,rfl,rfl⟩
  case body =>
   rintro l2 pre ⟨⟨⟨k2,nm2,n2,d2,args2,a2⟩,way2⟩,ad3,cap3,hok3⟩ ⟨tt,df⟩ X hl2' ⟨r,hr⟩ ⟨vT',hIX⟩ ⟨Bx,⟨hBx,hxb⟩,rfl,hsz,hs_1,hs_3,hs_9⟩ hlt2
   simp only at hxb
   dsimp only at hsz hs_1 hs_3 hs_9 ⊢
   have hfr:=kN hsz
   rw[hs_1,hs_3,hs_9] at hfr
   rw[hfr]
   clear hfr hsz hs_1 hs_3 hs_9
   obtain⟨ub,hub⟩:∃ub:Nat→Value,slot tt=ub:=⟨_,rfl⟩
   rw[hub]
   clear hub tt
   have hlX:=hIX.bsize
   have hbxlt:=Zb hxb
   obtain⟨⟨x0,x1,x2,x3,x4,x5,x6⟩,xf⟩:=YO hxb
   obtain⟨⟨f0,f1,f2,f3⟩,ff⟩:=Yq hIX.b2
   have cb:=hIX.b0.cell
   have hlwX:=hIX.low.size
   have hwlt:w.heap.size<X.heap.size:=hIX.b0.lt
   have hf2:w.heap.size+1+1<X.heap.size:=oq
   have hbsX:bs≤X.heap.size:=oq
   have KS:=hid (show ∀W:World,Below X.heap.size X W→(fun w'=>w'.cell? ⟨w.heap.size,0,none⟩=some (.pointer (some ⟨m,0,none⟩))∧w'.cell? ⟨Bx,0,none⟩=some (.int .i64 k2)∧w'.cell? ⟨Bx,1,none⟩=some (.string nm2)∧w'.cell? ⟨Bx,2,none⟩=some (.int .i64 n2)∧w'.cell? ⟨Bx,3,none⟩=some (.int .i64 d2)∧w'.cell? ⟨Bx,4,none⟩=some (.slice ad3 args2.len cap3)∧w'.cell? ⟨Bx,5,none⟩=some (.int .i64 a2)∧w'.cell? ⟨Bx,6,none⟩=some (.string way2)) W from fun W hb=>⟨(hb.cell (p:=⟨w.heap.size,0,none⟩) hwlt).trans cb,(hb.cell (p:=⟨Bx,0,none⟩) hbxlt).trans x0,(hb.cell (p:=⟨Bx,1,none⟩) hbxlt).trans x1,(hb.cell (p:=⟨Bx,2,none⟩) hbxlt).trans x2,(hb.cell (p:=⟨Bx,3,none⟩) hbxlt).trans x3,(hb.cell (p:=⟨Bx,4,none⟩) hbxlt).trans x4,(hb.cell (p:=⟨Bx,5,none⟩) hbxlt).trans x5,(hb.cell (p:=⟨Bx,6,none⟩) hbxlt).trans x6⟩)
   have HXBB:=hid (Zh hxb hIX.b0)
   have KY:=hid (show ∀W:World,Sty 65 X W→(fun w'=>w'.cell? ⟨w.heap.size,0,none⟩=some (.pointer (some ⟨m,0,none⟩))∧w'.cell? ⟨Bx,0,none⟩=some (.int .i64 k2)∧w'.cell? ⟨Bx,1,none⟩=some (.string nm2)∧w'.cell? ⟨Bx,2,none⟩=some (.int .i64 n2)∧w'.cell? ⟨Bx,3,none⟩=some (.int .i64 d2)∧w'.cell? ⟨Bx,4,none⟩=some (.slice ad3 args2.len cap3)∧w'.cell? ⟨Bx,5,none⟩=some (.int .i64 a2)∧w'.cell? ⟨Bx,6,none⟩=some (.string way2)) W from fun W hs=>by
    obtain⟨⟨g0,g1,g2,g3,g4,g5,g6⟩,_⟩:=YO (hs.cells HXBB.out.1 (by decide))
    exact⟨(show Boxed W w.heap.size _ _ from hs.cells HXBB.out.2 (by decide)).cell,g0,g1,g2,g3,g4,g5,g6⟩)
   have hnx:w.heap.size+1+1≠Bx:=oq
   have hnw:w.heap.size+1+1≠w.heap.size:=oq
   have KZ:=hid (show ∀(W:World) (v:Value),Sty 65 X W→(fun w'=>w'.cell? ⟨w.heap.size,0,none⟩=some (.pointer (some ⟨m,0,none⟩))∧w'.cell? ⟨Bx,0,none⟩=some (.int .i64 k2)∧w'.cell? ⟨Bx,1,none⟩=some (.string nm2)∧w'.cell? ⟨Bx,2,none⟩=some (.int .i64 n2)∧w'.cell? ⟨Bx,3,none⟩=some (.int .i64 d2)∧w'.cell? ⟨Bx,4,none⟩=some (.slice ad3 args2.len cap3)∧w'.cell? ⟨Bx,5,none⟩=some (.int .i64 a2)∧w'.cell? ⟨Bx,6,none⟩=some (.string way2)) (W.setCell ⟨w.heap.size+1+1,2,none⟩ v) from fun W v hs=>by
    obtain⟨h0,h1,h2,h3,h4,h5,h6,h7⟩:=KY.out W hs
    have hf:=fun o=>ZG W ⟨w.heap.size+1+1,2,none⟩ ⟨Bx,o,none⟩ v hnx
    exact⟨(ZG W ⟨w.heap.size+1+1,2,none⟩ ⟨w.heap.size,0,none⟩ v hnw).trans h0,(hf _).trans h1,(hf _).trans h2,(hf _).trans h3,(hf _).trans h4,(hf _).trans h5,(hf _).trans h6,(hf _).trans h7⟩)
   obtain⟨cs,r1,r2,r3,r4⟩:=hIX.rT
   obtain⟨nT,hnT⟩:∃nT,((dn++pre.map (fun y:VS W0=>y.s)).map (tkR p xIx fIx iIx nIx env)).length=nT:=⟨_,rfl⟩
   have hfsz:=(HOK.out.flows _ (Zi hlt)).1
   unfold PE.sz at hfsz
   have hnTb:nT≤200:=by rw[←hnT,Zo,Zx,Zo];omega
   rw[hnT] at r2
   obtain⟨av,cv,rfl⟩:=Yy r2
   have HNL:=hid hnT
   have HR1:=hid r1
   have HR2:=hid r2
   have HR3:=hid r3
   have HR4:=hid r4
   obtain⟨i0,hi0,hi1,hi2,hi4⟩:=info_parts yK
   have HIO:=hid (Zh hi0 (Zh hi1 (Zh hi2 hi4)))
   have HBX2:=hid hIX.b2
   have HT:=hid hIX
   obtain⟨al6,hal6⟩:∃al6,(Qh args2 way2 0).map (fun k=>((Vl p xIx fIx iIx k.1 k.2).1,(Vl p xIx fIx iIx k.1 k.2).2.reverse))=al6:=⟨_,rfl⟩
   have hlen6:al6.length=args2.len:=by rw[←hal6,Zo,Vh]
   have HLEN6:=hid hlen6
   obtain⟨⟨pp6,ff6⟩,hpf6⟩:∃r,Kf (Qj env) ⟨k2,nm2,n2,d2,args2,a2⟩=r:=⟨_,rfl⟩
   obtain⟨nd6,hnd6⟩:∃nd6:Int,(((nIx nm2).getD 0:Nat):Int)=nd6:=⟨_,rfl⟩
   have htk:tkR p xIx fIx iIx nIx env (⟨k2,nm2,n2,d2,args2,a2⟩,way2)=⟨nd6,pp6,ff6,al6⟩:=by
    unfold tkR
    simp only
    rw[hnd6,hpf6,hal6]
   have hHTK:=fun(w':World) (hb:Below X.heap.size X w')=>gd p an ai af ao cn ci cf co HP.out HOK.out mc mi mf mn mx m Lc Li Lf Ln Lx (HM.out.grow (HT.out.low.trans (hb.mono hlwX))) xIx fIx iIx nIx HMAPS.out.1 HMAPS.out.2.1 HMAPS.out.2.2.1 HMAPS.out.2.2.2.1 HMAPS.out.2.2.2.2 env HCR.out ⟨k2,nm2,n2,d2,args2,a2⟩ way2 ad3 cap3 hok3 pp6 ff6 hpf6 al6 hlen6 (by rw[←hal6];exact ZaK HE.out hok3.good)
   unfold spv at hHTK
   simp only[hnd6] at hHTK
   have HTK:=hid hHTK
   have HEND:=hid (show ∀(w4:World) (v':Value),FtI w m bs W5.heap.size Ds vI vN v' (.slice none 0 0) (p.ins.map (fun x=>(x.per,x.ph))) p.nodes ((dn++pre.map (fun y:VS W0=>y.s)).map (tkR p xIx fIx iIx nIx env)++[⟨nd6,pp6,ff6,al6⟩]) [] (w4.setCell ⟨w.heap.size+1+1,2,none⟩ v')→Sty 65 X w4→Below w.heap.size X w4 →
     KeepsFrom W5.heap.size X (w4.setCell ⟨w.heap.size+1+1,2,none⟩ v')∧KF W0.heap.size wo.heap.size X (w4.setCell ⟨w.heap.size+1+1,2,none⟩ v') ∧
     ∃vT,FtI w m bs W5.heap.size Ds vI vN vT (.slice none 0 0) (p.ins.map (fun x=>(x.per,x.ph))) p.nodes ((dn++(pre++[(⟨(⟨k2,nm2,n2,d2,args2,a2⟩,way2),ad3,cap3,hok3⟩:VS W0)]).map (fun y:VS W0=>y.s)).map (tkR p xIx fIx iIx nIx env)) [] (w4.setCell ⟨w.heap.size+1+1,2,none⟩ v') from fun w4 v' hft hs hb=>by
    have hoth:∀k,k≠w.heap.size+1+1→(w4.setCell ⟨w.heap.size+1+1,2,none⟩ v').heap[k]?=w4.heap[k]?:=fun k hk=>Zr _ _ _ _ (fun e=>hk e)
    have hb2:Below w.heap.size X (w4.setCell ⟨w.heap.size+1+1,2,none⟩ v'):=hb.setCell (p:=⟨w.heap.size+1+1,2,none⟩) (by show w.heap.size≤w.heap.size+1+1;omega) _
    refine⟨⟨hb2.size,fun k o hk ho hc=>(hoth k oq).trans (hs k o ho (fun cur fz e=>by subst e;cases hc))⟩,⟨hb2.mono hw0,fun k o hk ho hc=>(hoth k oq).trans (hs k o ho (fun cur fz e=>by subst e;simp[kept] at hc))⟩,v',?_⟩
    simp only[ZU,List.map_cons,List.map_nil,htk,←List.append_assoc] at hft ⊢
    exact hft)
   clear hIX hxb r1 r2 r3 r4 hi0 hi1 hi2 hi4 hnT hlen6 hpf6 hnd6 hal6 htk hHTK x0 x1 x2 x3 x4 x5 x6 xf cb hr hlt2
   gi_wp2
   refine Qn (S:=fun w'=>w'.cell? ⟨w.heap.size,0,none⟩=some (.pointer (some ⟨m,0,none⟩))∧w'.cell? ⟨Bx,0,none⟩=some (.int .i64 k2)∧w'.cell? ⟨Bx,1,none⟩=some (.string nm2)∧w'.cell? ⟨Bx,2,none⟩=some (.int .i64 n2)∧w'.cell? ⟨Bx,3,none⟩=some (.int .i64 d2)∧w'.cell? ⟨Bx,4,none⟩=some (.slice ad3 args2.len cap3)∧w'.cell? ⟨Bx,5,none⟩=some (.int .i64 a2)∧w'.cell? ⟨Bx,6,none⟩=some (.string way2)) kq kq (by rintro⟨_,_,h⟩;exact h) (KS.out _ (Zg _ _).drew) (fun hHeld=>?_)
   refine tk 0 hHeld ?_
   refine tk 2 hHeld ?_
   refine tk 3 hHeld ?_
   refine rz 1 4 (fun K hK=>?_) fun K hK=>?_
   ·go_simp
    refine hK.out _ _ (fun hHeld=>?_) (by first|exact KS.out _ (Zg _ _).drew|exact KS.out _ HB6.out)
    clear hK K
    refine ry 4 fun K hK=>?_
    (go_simp;go_at_call 103;refine(HTK.out X.drew (Zg _ _).drew).mono ?_;rintro x w6 ⟨⟨v6,rfl,hr6⟩,hb6⟩;obtain⟨av6,cv6,hv6⟩:=hr6.form;rw[HLEN6.out] at hv6;subst hv6;have hb6':Below X.heap.size X w6:=bq;have hz6:=hb6'.size;obtain⟨⟨t0,t1,t2,t3⟩,tf⟩:=Yq ((hb6'.block _ hf2).trans HBX2.out);have HB6:=hid hb6';have HR6:=hid (hr6.mono (hbsX) (fun c x hc=>hc.mono hbsX));have hx6:w.heap.size+1+1<w6.heap.size:=Zd hf2 hz6;have hx6n:¬w.heap.size+1+1=w6.heap.size:=Nat.ne_of_lt hx6;clear hb6 hb6' hr6;try go_simp)
    refine hK.out _ _ (fun hHeld=>?_) (by exact KS.out _ HB6.out)
    clear hK K
    refine ry 5 fun K hK=>?_
    go_simp
    refine hK.out _ _ (fun hHeld=>?_) (by exact KS.out _ (HB6.out.alloc HB6.out.size _))
    clear hK K
    refine ry 6 fun K hK=>?_
    (refine step_append_lies _ (by rfl) _ _ _ (by rfl) bs 65 i0 _ 4 48 Tryz.underlying31 HIO.out.1 HIO.out.2.1 HIO.out.2.2.1 HIO.out.2.2.2 rfl oq (.slice av nT cv) nT cs.flatten (by rfl) ((own_below HR2.out HB6.out).alloc _) ⟨w6.heap.size,0,none⟩ 1 1 [.int .i64 nd6,.int .i64 pp6,.int .i64 ff6,.slice av6 args2.len cv6] (by rfl) (by rfl) (World.news_of_block (Zz _ _)) (by simp[Value.oneCell']) oq (by unfold maxLen;omega) oq (by simp;have:=HB6.out.size;omega) (w6.heap.size+1) (by simp) ?_;intro gg cap4 w4 hown4 hgrow4 hat4 hlt4;have hAP:=HT.out.appT HB6.out HNL.out HR1.out HR2.out HR3.out HR4.out (c:=[.int .i64 nd6,.int .i64 pp6,.int .i64 ff6,.slice av6 args2.len cv6]) rfl (x:=⟨nd6,pp6,ff6,al6⟩) (⟨_,rfl,HR6.out⟩) hown4 hgrow4;obtain⟨⟨kz4,kf4⟩,hnx,hsty,hbl⟩:=hAP;have HNX:=hid hnx;have HSTY:=hid hsty;have HBL:=hid hbl;clear hnx hsty hbl hown4 hgrow4)
    refine hK.out _ _ (fun hHeld=>?_) (by exact KY.out _ HSTY.out)
    clear hK K
    refine tk 7 hHeld ?_
    refine ry 8 fun K hK=>?_
    go_simp
    refine hK.out _ _ (fun hHeld=>?_) (by exact KZ.out _ _ HSTY.out)
    clear hK K
    refine Zy kq ?_ _
    (gi_wp2;first|exact HEND.out _ _ HNX.out HSTY.out HBL.out|trace_state)
   (go_simp;go_at_call 103;refine(HTK.out X.drew (Zg _ _).drew).mono ?_;rintro x w6 ⟨⟨v6,rfl,hr6⟩,hb6⟩;obtain⟨av6,cv6,hv6⟩:=hr6.form;rw[HLEN6.out] at hv6;subst hv6;have hb6':Below X.heap.size X w6:=bq;have hz6:=hb6'.size;obtain⟨⟨t0,t1,t2,t3⟩,tf⟩:=Yq ((hb6'.block _ hf2).trans HBX2.out);have HB6:=hid hb6';have HR6:=hid (hr6.mono (hbsX) (fun c x hc=>hc.mono hbsX));have hx6:w.heap.size+1+1<w6.heap.size:=Zd hf2 hz6;have hx6n:¬w.heap.size+1+1=w6.heap.size:=Nat.ne_of_lt hx6;clear hb6 hb6' hr6;try go_simp)
   refine hK.out _ _ (fun hHeld=>?_) (by first|exact KS.out _ (Zg _ _).drew|exact KS.out _ HB6.out)
   clear hK K
   refine rz 1 5 (fun K hK=>?_) fun K hK=>?_
   ·go_simp
    refine hK.out _ _ (fun hHeld=>?_) (by first|exact KS.out _ HB6.out|exact KS.out _ (HB6.out.alloc HB6.out.size _))
    clear hK K
    refine ry 5 fun K hK=>?_
    go_simp
    refine hK.out _ _ (fun hHeld=>?_) (by exact KS.out _ (HB6.out.alloc HB6.out.size _))
    clear hK K
    refine ry 6 fun K hK=>?_
    (refine step_append_lies _ (by rfl) _ _ _ (by rfl) bs 65 i0 _ 4 48 Tryz.underlying31 HIO.out.1 HIO.out.2.1 HIO.out.2.2.1 HIO.out.2.2.2 rfl oq (.slice av nT cv) nT cs.flatten (by rfl) ((own_below HR2.out HB6.out).alloc _) ⟨w6.heap.size,0,none⟩ 1 1 [.int .i64 nd6,.int .i64 pp6,.int .i64 ff6,.slice av6 args2.len cv6] (by rfl) (by rfl) (World.news_of_block (Zz _ _)) (by simp[Value.oneCell']) oq (by unfold maxLen;omega) oq (by simp;have:=HB6.out.size;omega) (w6.heap.size+1) (by simp) ?_;intro gg cap4 w4 hown4 hgrow4 hat4 hlt4;have hAP:=HT.out.appT HB6.out HNL.out HR1.out HR2.out HR3.out HR4.out (c:=[.int .i64 nd6,.int .i64 pp6,.int .i64 ff6,.slice av6 args2.len cv6]) rfl (x:=⟨nd6,pp6,ff6,al6⟩) (⟨_,rfl,HR6.out⟩) hown4 hgrow4;obtain⟨⟨kz4,kf4⟩,hnx,hsty,hbl⟩:=hAP;have HNX:=hid hnx;have HSTY:=hid hsty;have HBL:=hid hbl;clear hnx hsty hbl hown4 hgrow4)
    refine hK.out _ _ (fun hHeld=>?_) (by exact KY.out _ HSTY.out)
    clear hK K
    refine tk 7 hHeld ?_
    refine ry 8 fun K hK=>?_
    go_simp
    refine hK.out _ _ (fun hHeld=>?_) (by exact KZ.out _ _ HSTY.out)
    clear hK K
    refine Zy kq ?_ _
    (gi_wp2;first|exact HEND.out _ _ HNX.out HSTY.out HBL.out|trace_state)
   go_simp
   refine hK.out _ _ (fun hHeld=>?_) (by first|exact KS.out _ HB6.out|exact KS.out _ (HB6.out.alloc HB6.out.size _))
   clear hK K
   refine ry 1 fun K hK=>?_
   go_simp
   refine hK.out _ _ (fun hHeld=>?_) (by exact KS.out _ (HB6.out.alloc HB6.out.size _))
   clear hK K
   refine ry 6 fun K hK=>?_
   (refine step_append_lies _ (by rfl) _ _ _ (by rfl) bs 65 i0 _ 4 48 Tryz.underlying31 HIO.out.1 HIO.out.2.1 HIO.out.2.2.1 HIO.out.2.2.2 rfl oq (.slice av nT cv) nT cs.flatten (by rfl) ((own_below HR2.out HB6.out).alloc _) ⟨w6.heap.size,0,none⟩ 1 1 [.int .i64 nd6,.int .i64 pp6,.int .i64 ff6,.slice av6 args2.len cv6] (by rfl) (by rfl) (World.news_of_block (Zz _ _)) (by simp[Value.oneCell']) oq (by unfold maxLen;omega) oq (by simp;have:=HB6.out.size;omega) (w6.heap.size+1) (by simp) ?_;intro gg cap4 w4 hown4 hgrow4 hat4 hlt4;have hAP:=HT.out.appT HB6.out HNL.out HR1.out HR2.out HR3.out HR4.out (c:=[.int .i64 nd6,.int .i64 pp6,.int .i64 ff6,.slice av6 args2.len cv6]) rfl (x:=⟨nd6,pp6,ff6,al6⟩) (⟨_,rfl,HR6.out⟩) hown4 hgrow4;obtain⟨⟨kz4,kf4⟩,hnx,hsty,hbl⟩:=hAP;have HNX:=hid hnx;have HSTY:=hid hsty;have HBL:=hid hbl;clear hnx hsty hbl hown4 hgrow4)
   refine hK.out _ _ (fun hHeld=>?_) (by exact KY.out _ HSTY.out)
   clear hK K
   refine tk 7 hHeld ?_
   refine ry 8 fun K hK=>?_
   go_simp
   refine hK.out _ _ (fun hHeld=>?_) (by exact KZ.out _ _ HSTY.out)
   clear hK K
   refine Zy kq ?_ _
   (gi_wp2;first|exact HEND.out _ _ HNX.out HSTY.out HBL.out|trace_state)
  case done =>
   rintro D zs X hD hzs ⟨vT',hIX⟩ hK
   gi_wp2
   rw[show((i:Int)+1)=((i+1:Nat):Int) by omega]
   refine⟨⟨i+1,D::Ds,dn++zs.map (·.s),vT',⟨oq,?_,hIX.mark hD hK⟩,rfl,rfl,rfl,rfl,rfl,rfl,rfl,rfl,rfl⟩,by simp[intOf,slot];omega⟩
   rw[hzs,List.append_assoc]
   exact HDN.out
  rintro D pre X hD hpre hX hK
  exact hX.elim
 have hie0:i=p.flows.length:=oq
 have hil:¬(i:Int)<(p.flows.length:Int):=oq
 rw[hie0,Yo,YI,List.append_nil] at hdn
 subst hdn
 clear hN
 obtain⟨⟨x0,x1,x2,x3,x4,x5,x6,x7,x8⟩,xf⟩:=YL (show wo.heap[m]?=_ from(HN.out.low.block m hlm).trans HM.out.box)
 gi_wp2
 gi_loopw [84] (fun s84 X=>Hid (∃(i:Nat) (vL:Value),s84=.int .i64 (i:Int)∧i≤p.outs.length∧FtI w m bs X.heap.size Ds vI vN vT vL (p.ins.map (fun x=>(x.per,x.ph))) p.nodes ((YI p.flows 0).map (tkR p xIx fIx iIx nIx env)) ((p.outs.take i).map (tlR p xIx fIx iIx env)) X)) (fun s84 _=>p.outs.length-(intOf s84).toNat)
 case atStart=>exact⟨0,_,rfl,Zk _,HN.out⟩
 obtain⟨i,vL,rfl,hi4,hT⟩:=hrel.out
 clear hrel HN x0 x1 x2 x3 x4 x5 x6 x7 x8 xf hil c0 hlow hsw
 have HTT:=hid hT
 have HW:=hid (HM.out.low.trans (hT.low.mono hw0))
 have c0:=hT.b0.cell
 by_cases hlto:i<p.outs.length
 ·have hil:(i:Int)<(p.outs.length:Int):=oq
  obtain⟨bb,oo,rfl,hbb0,hin0⟩:=HP.out.outs.at hlto
  have hbb:bb<wr.heap.size:=Zd hbb0 HW.out.size
  have hcb:=fun o=>HW.out.cell (p:=⟨bb,o,none⟩) hbb0
  obtain⟨j,hj,hjl⟩:=HOUT.out _ (Zi hlto)
  obtain⟨⟨nm,fl,dl,fa⟩,hf⟩:∃f,p.outs[i]=f:=⟨_,rfl⟩
  rw[hf] at hin0 hj
  obtain⟨q0,q1,q2,q3,_⟩:=hin0
  simp only at q0 q1 q2 q3 hj
  have y0:=(hcb _).trans q0
  have y1:=(hcb _).trans q1
  have y2:=(hcb _).trans q2
  have y3:=(hcb _).trans q3
  have HF1:=hid hf
  have HJ:=hid hj
  have hfl1:=(HOK.out.flows _ (Zi hjl)).1
  have hfl2:=(HOK.out.flows _ (Zi hjl)).2
  have hHFS:=fun(w':World) (hb:Below W0.heap.size W0 w')=>X5 hb p an ai af _ cn ci cf co HP.out j hjl oq
  have hflE:flE p j=p.flows[j].e:=by unfold flE;rw[Ze hjl]
  obtain⟨⟨k1,nm1,n1,d1,args1,a1⟩,he1⟩:∃e,p.flows[j].e=e:=⟨_,rfl⟩
  rw[he1] at hHFS hfl1 hfl2 hflE
  obtain⟨⟨src,ops0⟩,hr0⟩:∃r,Vl p xIx fIx iIx ⟨k1,nm1,n1,d1,args1,a1⟩ (dg j)=r:=⟨_,rfl⟩
  obtain⟨ops,hops⟩:∃ops,ops0.reverse=ops:=⟨_,rfl⟩
  have hai:vj p xIx fIx iIx ⟨k1,nm1,n1,d1,args1,a1⟩ (dg j) (src,ops):=by
   obtain⟨N,hN⟩:=Vd (HE.out ⟨k1,nm1,n1,d1,args1,a1⟩ hfl2) (dg j)
   rw[hr0] at hN
   exact⟨N,ops0,hN,hops.symm⟩
  have HTL:=hid (show tlR p xIx fIx iIx env ⟨nm,fl,dl,fa⟩=⟨(Qj env fl).1,(Qj env fl).2,src,ops,dl⟩ by
   unfold tlR
   simp only[hj,Z9,hflE,hr0,hops])
  unfold spv PE.sz pv at *
  simp only at hHFS hfl1
  have HFS:=hid hHFS
  have HG2:=hid hfl2
  have hdg:=JP (i:=j) oq
  have hHAO:=fun(w':World) (hb:Below w.heap.size w w') e5 way5 ad5 cap5 (hs5:Qe W0 e5 ad5 cap5 way5) r hr=>Es p an ai af _ cn ci cf co HP.out HOK.out mc mi mf mn mx m Lc Li Lf Ln Lx (HM.out.grow hb) xIx fIx iIx HMAPS.out.1 HMAPS.out.2.1 HMAPS.out.2.2.1 HMAPS.out.2.2.2.2 e5 way5 ad5 cap5 hs5 r hr
  unfold spv at hHAO
  have HAO:=hid hHAO
  have HAI:=hid hai
  clear q0 q1 q2 q3 hcb hf hj hfl2 hHFS hflE he1 hr0 hops hai hHAO
  gi_wp2
  obtain⟨W4,hW4⟩:∃W4,wr.alloc (.cells #[.string nm,.string fl,.int .i64 dl,.int .i64 fa] 113)=W4:=⟨_,rfl⟩
  have hb4:Below wr.heap.size wr W4:=by rw[←hW4];exact(Zg _ _).alloc (Zc _) _
  have bx4:W4.heap[wr.heap.size]?=some (.cells #[.string nm,.string fl,.int .i64 dl,.int .i64 fa] 113 (0,0)):=by rw[←hW4];exact Yp wr _
  rw[hW4]
  have ho4:=Zb bx4
  clear hW4 y0 y1 y2 y3 c0
  have HT4:=hid ((HTT.out.keep hb4).more (B':=W4.heap.size) hb4.size (Zc _))
  have HM4:=hid (HM.out.grow HT4.out.low)
  have HW4:=hid HM4.out.low
  have HB4:=hid bx4
  have hlw4:=HT4.out.low.size
  have hwl4:w.heap.size<W4.heap.size:=HT4.out.b0.lt
  have hml4:=HM4.out.lt
  obtain⟨⟨c0,c1,c2,c3⟩,cz⟩:=Yq bx4
  have cb:=HT4.out.b0.cell
  obtain⟨⟨z0,z1,z2,z3,z4,z5,z6,z7,z8⟩,zf⟩:=YL (show W4.heap[m]?=_ from HM4.out.box)
  have KB:=hid (show ∀W:World,Below W4.heap.size W4 W→(fun w'=>w'.cell? ⟨w.heap.size,0,none⟩=some (.pointer (some ⟨m,0,none⟩))∧w'.cell? ⟨m,0,none⟩=some (.slice an p.nodes.length cn)∧w'.cell? ⟨m,1,none⟩=some (.slice ai p.ins.length ci)∧w'.cell? ⟨m,2,none⟩=some (.slice af p.flows.length cf)∧w'.cell? ⟨m,3,none⟩=some (.slice (some ⟨bb,oo,none⟩) p.outs.length co)∧w'.cell? ⟨m,6,none⟩=some (.map (some mf))∧w'.cell? ⟨wr.heap.size,1,none⟩=some (.string fl)∧(Instr.lookup 186 (.map (some mf)) (.string fl) false).run Tryz.prog w'=.ok (.int .i64 (j:Int)) w') W from fun W hb=>by
   have h:=XK QH (HM4.out.f.below hb) fl false
   have h2:=HMAPS.out.2.1 fl
   rw[HJ.out] at h2
   rw[h2] at h
   exact⟨(hb.cell (p:=⟨w.heap.size,0,none⟩) hwl4).trans cb,(hb.cell (p:=⟨m,0,none⟩) hml4).trans z0,(hb.cell (p:=⟨m,1,none⟩) hml4).trans z1,(hb.cell (p:=⟨m,2,none⟩) hml4).trans z2,(hb.cell (p:=⟨m,3,none⟩) hml4).trans z3,(hb.cell (p:=⟨m,6,none⟩) hml4).trans z6,(hb.cell (p:=⟨wr.heap.size,1,none⟩) ho4).trans c1,h⟩)
  clear hT hb4 bx4 c0 c1 c2 c3 cz cb z0 z1 z2 z3 z4 z5 z6 z7 z8 zf
  gi_cut [12] from 120 (fun s12 W=>Hid (∃X v,s12=.pointer (some ⟨X,0,none⟩)∧W4.heap.size≤X∧W.heap[X]?=some (.cells #[.int .i64 (src:Int),v] 69 (0,0))∧W.ownsRow W4.heap.size 156 3 v ops.length (Qf ops)∧Below W4.heap.size W4 W))
  case first =>
   refine wpIn_wide.2 ?_
   go_region_held3 (fun w'=>w'.cell? ⟨w.heap.size,0,none⟩=some (.pointer (some ⟨m,0,none⟩))∧w'.cell? ⟨m,0,none⟩=some (.slice an p.nodes.length cn)∧w'.cell? ⟨m,1,none⟩=some (.slice ai p.ins.length ci)∧w'.cell? ⟨m,2,none⟩=some (.slice af p.flows.length cf)∧w'.cell? ⟨m,3,none⟩=some (.slice (some ⟨bb,oo,none⟩) p.outs.length co)∧w'.cell? ⟨m,6,none⟩=some (.map (some mf))∧w'.cell? ⟨wr.heap.size,1,none⟩=some (.string fl)∧(Instr.lookup 186 (.map (some mf)) (.string fl) false).run Tryz.prog w'=.ok (.int .i64 (j:Int)) w') (exact KB.out _ bq) (first|(go_at_call 95;refine(HFS.out _ bq).mono ?_;rintro x w1 ⟨⟨ad2,cap2,rfl,hae⟩,hb1⟩;have hbA:Below W4.heap.size W4 w1:=bq;have hz1:=hbA.size;have HSP:=hid (show Qe W0 ⟨k1,nm1,n1,d1,args1,a1⟩ ad2 cap2 (dg j) from ⟨hae,HG2.out,by show(dg j).size+3*args1.sz≤500;omega,by show args1.sz<100;omega⟩);clear hae;first|(have hca:w1.heap[W4.heap.size]?=some (.cells #[.int .i64 0,.slice none 0 0] 69 (0,0)):=(hb1.block W4.heap.size (by simp)).trans (Yp W4.drew _);have HCA:=hid hca;clear hca)|skip)|(go_at_call 104;refine(HAO.out _ (HT4.out.low.trans ((show Below W4.heap.size W4 _ from bq).mono hlw4)) _ _ _ _ HSP.out _ HAI.out).mono ?_;rintro x w2 ⟨⟨v2,rfl,ho2⟩,hb2⟩;obtain⟨av2,cv2,rfl⟩:=Yy ho2;have HO2:=hid ho2;clear ho2;(first|(have hca:w2.heap[W4.heap.size]?=some (.cells #[.int .i64 0,.slice none 0 0] 69 (0,0)):=(hb2.block _ (Zb HCA.out)).trans HCA.out;have HLT:=hid (Zb HCA.out);have hcc:=YB hca;obtain⟨⟨v0,v1⟩,vf⟩:=hcc;have HCB:=hid hca;clear hca)|(have hca:w2.heap[w1.heap.size]?=some (.cells #[.int .i64 0,.slice none 0 0] 69 (0,0)):=(hb2.block w1.heap.size (by simp)).trans (Yp w1 _);have hcc:=YB hca;obtain⟨⟨v0,v1⟩,vf⟩:=hcc;have HCB:=hid hca;clear hca)|skip);have hbB:Below W4.heap.size W4 w2:=bq;clear hbA;have hbA:=hbB;clear hbB;have hz2:=hbA.size))
   all_goals
    go_wp2_with fail
    gi_meet
    have hzA:=hbA.size
    first|exact⟨_,_,rfl,(by first|exact Zc _|assumption|(simp;done)|omega),ZbE HCB.out _ _,Xg (Xm (Xm HO2.out (by first|exact HLT.out|(simp;done)|omega) _) (by first|exact HLT.out|(simp;done)|omega) _) (by first|exact Zc _|assumption|(simp;done)|(simp;omega)|omega),bq⟩|exact⟨_,_,rfl,(by first|exact Zc _|assumption|(simp;done)|omega),Yp _ _,Xg (HO2.out.alloc _) (by first|exact Zc _|assumption|(simp;done)|(simp;omega)|omega),bq⟩
  obtain⟨XA,v2,rfl,hXA,hbx,hown,hbw⟩:=hcut.out
  obtain⟨W6,rfl⟩:∃W6:World,W6=wc:=⟨_,rfl⟩
  obtain⟨av2,cv2,rfl⟩:=Yy hown
  clear hcut KB HFS HAO
  have hT2:=(HT4.out.keep hbw).more (B':=W6.heap.size) hbw.size (Zc _)
  have HT:=hid hT2
  have hHB:=hT2.hbs
  have hHS:=hT2.size
  have hHZ:=hT2.bsize
  have hz6:=hbw.size
  have HM6:=hid (HM4.out.grow hbw)
  have hbx4:=(hbw.block _ ho4).trans HB4.out
  have hlXA:=Zb hbx
  have hwl6:w.heap.size<W6.heap.size:=oq
  have hml6:m<W6.heap.size:=oq
  have hol6:wr.heap.size<W6.heap.size:=oq
  have hf2:w.heap.size+1+1<W6.heap.size:=oq
  obtain⟨⟨c0,c1,c2,c3⟩,cz⟩:=Yq hbx4
  obtain⟨⟨g0,g1⟩,gz⟩:=YB hbx
  have cb:=hT2.b0.cell
  obtain⟨⟨z0,z1,z2,z3,z4,z5,z6,z7,z8⟩,zf⟩:=YL (show W6.heap[m]?=_ from HM6.out.box)
  obtain⟨⟨ppo,ffo⟩,hpo⟩:∃r,Qj env fl=r:=⟨_,rfl⟩
  have hgc:(Y0 fl Lc).getD (.agg #[.int .i64 0,.int .i64 0])=.agg #[.int .i64 ppo,.int .i64 ffo]:=by
   rw[HCR.out fl]
   unfold Qj at hpo
   cases hen:env fl with
   | none=>rw[hen] at hpo;cases hpo;rfl
   | some c=>rw[hen] at hpo;cases hpo;rfl
  have HGC:=hid hgc
  have KS:=hid (show ∀W:World,Below W6.heap.size W6 W→(fun w'=>w'.cell? ⟨w.heap.size,0,none⟩=some (.pointer (some ⟨m,0,none⟩))∧w'.cell? ⟨m,4,none⟩=some (.map (some mc))∧w'.cell? ⟨wr.heap.size,1,none⟩=some (.string fl)∧w'.cell? ⟨wr.heap.size,2,none⟩=some (.int .i64 dl)∧w'.cell? ⟨XA,0,none⟩=some (.int .i64 (src:Int))∧w'.cell? ⟨XA,1,none⟩=some (.slice av2 ops.length cv2)∧(Instr.lookup 117 (.map (some mc)) (.string fl) false).run Tryz.prog w'=.ok (.agg #[.int .i64 ppo,.int .i64 ffo]) w') W from fun W hb=>by
   have h:=XK Qu (HM6.out.c.below hb) fl false
   simp only[Bool.false_eq_true,if_false] at h
   exact⟨(hb.cell (p:=⟨w.heap.size,0,none⟩) hwl6).trans cb,(hb.cell (p:=⟨m,4,none⟩) hml6).trans z4,(hb.cell (p:=⟨wr.heap.size,1,none⟩) hol6).trans c1,(hb.cell (p:=⟨wr.heap.size,2,none⟩) hol6).trans c2,(hb.cell (p:=⟨XA,0,none⟩) hlXA).trans g0,(hb.cell (p:=⟨XA,1,none⟩) hlXA).trans g1,h.trans (by rw[←HGC.out])⟩)
  have HXBB:=hid (Zh hbx (Zh hT2.b0 (Zh hbx4 HM6.out.box)))
  have KY:=hid (show ∀W:World,Sty 71 W6 W→(fun w'=>w'.cell? ⟨w.heap.size,0,none⟩=some (.pointer (some ⟨m,0,none⟩))∧w'.cell? ⟨m,4,none⟩=some (.map (some mc))∧w'.cell? ⟨wr.heap.size,1,none⟩=some (.string fl)∧w'.cell? ⟨wr.heap.size,2,none⟩=some (.int .i64 dl)∧w'.cell? ⟨XA,0,none⟩=some (.int .i64 (src:Int))∧w'.cell? ⟨XA,1,none⟩=some (.slice av2 ops.length cv2)∧(Instr.lookup 117 (.map (some mc)) (.string fl) false).run Tryz.prog w'=.ok (.agg #[.int .i64 ppo,.int .i64 ffo]) w') W from fun W hs=>by
   obtain⟨⟨e0,e1⟩,_⟩:=YB (hs.cells HXBB.out.1 (by decide))
   obtain⟨⟨o0,o1,o2,o3⟩,_⟩:=Yq (hs.cells HXBB.out.2.2.1 (by decide))
   obtain⟨⟨n0,n1,n2,n3,n4,n5,n6,n7,n8⟩,_⟩:=YL (show W.heap[m]?=_ from hs.cells HXBB.out.2.2.2 (by decide))
   obtain⟨arr,ck,hm1,hm2⟩:=HM6.out.c
   have h:=XK Qu (w:=W) (show YG W mc Lc from ⟨arr,ck,hs _ _ hm1 (fun cur fz e=>by cases e),hm2⟩) fl false
   simp only[Bool.false_eq_true,if_false] at h
   exact⟨(show Boxed W w.heap.size _ _ from hs.cells HXBB.out.2.1 (by decide)).cell,n4,o1,o2,e0,e1,h.trans (by rw[←HGC.out])⟩)
  have hnw:w.heap.size+1+1≠w.heap.size:=oq
  have hnm:w.heap.size+1+1≠m:=oq
  have hnr:w.heap.size+1+1≠wr.heap.size:=by have:=HTT.out.size;have:=HTT.out.bsize;omega
  have hnX:w.heap.size+1+1≠XA:=by have:=HTT.out.size;have:=HTT.out.bsize;omega
  have hnc:mc≠w.heap.size+1+1:=by have:=HM6.out.ord;omega
  have KZ:=hid (show ∀(W:World) (v:Value),Sty 71 W6 W→(fun w'=>w'.cell? ⟨w.heap.size,0,none⟩=some (.pointer (some ⟨m,0,none⟩))∧w'.cell? ⟨m,4,none⟩=some (.map (some mc))∧w'.cell? ⟨wr.heap.size,1,none⟩=some (.string fl)∧w'.cell? ⟨wr.heap.size,2,none⟩=some (.int .i64 dl)∧w'.cell? ⟨XA,0,none⟩=some (.int .i64 (src:Int))∧w'.cell? ⟨XA,1,none⟩=some (.slice av2 ops.length cv2)∧(Instr.lookup 117 (.map (some mc)) (.string fl) false).run Tryz.prog w'=.ok (.agg #[.int .i64 ppo,.int .i64 ffo]) w') (W.setCell ⟨w.heap.size+1+1,3,none⟩ v) from fun W v hs=>by
   obtain⟨h0,h1,h2,h3,h4,h5,h6⟩:=KY.out W hs
   obtain⟨arr,ck,hm1,hm2⟩:=HM6.out.c
   have h:=XK Qu (w:=W.setCell ⟨w.heap.size+1+1,3,none⟩ v) (show YG (W.setCell ⟨w.heap.size+1+1,3,none⟩ v) mc Lc from ⟨arr,ck,(Zr _ _ _ _ (fun e=>hnc e)).trans (hs _ _ hm1 (fun cur fz e=>by cases e)),hm2⟩) fl false
   simp only[Bool.false_eq_true,if_false] at h
   have hf:=fun b o (hb:w.heap.size+1+1≠b)=>ZG W ⟨w.heap.size+1+1,3,none⟩ ⟨b,o,none⟩ v hb
   exact⟨(hf _ _ hnw).trans h0,(hf _ _ hnm).trans h1,(hf _ _ hnr).trans h2,(hf _ _ hnr).trans h3,(hf _ _ hnX).trans h4,(hf _ _ hnX).trans h5,h.trans (by rw[←HGC.out])⟩)
  obtain⟨⟨f0,f1,f2,f3⟩,ff⟩:=Yq hT2.b2
  obtain⟨cs,r1,r2,r3,r4⟩:=hT2.rL
  have hnl:((p.outs.take i).map (tlR p xIx fIx iIx env)).length=i:=by rw[Zo,Yb];omega
  rw[hnl] at r2
  have HNL:=hid hnl
  obtain⟨av,cv,rfl⟩:=Yy r2
  have HR1:=hid r1
  have HR2:=hid r2
  have HR3:=hid r3
  have HR4:=hid r4
  obtain⟨i0,hi0,hi1,hi2,hi3'⟩:=info_parts xj
  have HIO:=hid (Zh hi0 (Zh hi1 (Zh hi2 hi3')))
  have HB6:=hid (Zg W6.heap.size W6)
  have HB6D:=hid (show Below W6.heap.size W6 W6.drew from(Zg _ _).drew)
  have HOW:=hid (Xg hown (base':=bs) HT4.out.size)
  have HTL2:=hid (show tlR p xIx fIx iIx env ⟨nm,fl,dl,fa⟩=⟨ppo,ffo,src,ops,dl⟩ by rw[HTL.out,hpo])
  have HEND:=hid (show ∀(w4:World) (v':Value),FtI w m bs W6.heap.size Ds vI vN vT v' (p.ins.map (fun x=>(x.per,x.ph))) p.nodes ((YI p.flows 0).map (tkR p xIx fIx iIx nIx env)) ((p.outs.take i).map (tlR p xIx fIx iIx env)++[⟨ppo,ffo,src,ops,dl⟩]) w4→FtI w m bs w4.heap.size Ds vI vN vT v' (p.ins.map (fun x=>(x.per,x.ph))) p.nodes ((YI p.flows 0).map (tkR p xIx fIx iIx nIx env)) ((p.outs.take (i+1)).map (tlR p xIx fIx iIx env)) w4 from fun w4 v' h=>by
   rw[map_take (tlR p xIx fIx iIx env) hlto,HF1.out,HTL2.out]
   exact h.more h.bsize (Zc _))
  clear hT2 r1 r2 r3 r4 hi0 hi1 hi2 hi3' hnl hbx hown hbw hbx4 c0 c1 c2 c3 cz g0 g1 gz cb z0 z1 z2 z3 z4 z5 z6 z7 z8 zf hpo hgc
  gi_upto_region 24 with fail
  refine wpIn_wide.2 (wp_region_noPanic ?_)
  refine ZO (S:=fun w'=>w'.cell? ⟨w.heap.size,0,none⟩=some (.pointer (some ⟨m,0,none⟩))∧w'.cell? ⟨m,4,none⟩=some (.map (some mc))∧w'.cell? ⟨wr.heap.size,1,none⟩=some (.string fl)∧w'.cell? ⟨wr.heap.size,2,none⟩=some (.int .i64 dl)∧w'.cell? ⟨XA,0,none⟩=some (.int .i64 (src:Int))∧w'.cell? ⟨XA,1,none⟩=some (.slice av2 ops.length cv2)∧(Instr.lookup 117 (.map (some mc)) (.string fl) false).run Tryz.prog w'=.ok (.agg #[.int .i64 ppo,.int .i64 ffo]) w') kq (KS.out _ (Zg _ _).drew) (fun hHeld=>?_)
  refine tk 0 hHeld ?_
  refine tk 2 hHeld ?_
  refine tk 3 hHeld ?_
  refine tk 4 hHeld ?_
  refine tk 5 hHeld ?_
  refine tk 6 hHeld ?_
  refine tk 7 hHeld ?_
  refine tk 8 hHeld ?_
  refine tk 9 hHeld ?_
  refine tk 10 hHeld ?_
  refine tk 11 hHeld ?_
  refine tk 12 hHeld ?_
  refine rz 1 13 (fun K hK=>?_) fun K hK=>?_
  ·go_simp
   refine hK.out _ _ (fun hHeld=>?_) (by first|exact KS.out _ (Zg _ _).drew|exact KS.out _ (((Zg _ _).drew).alloc (Zc _) _))
   clear hK K
   refine ry 13 fun K hK=>?_
   go_simp
   refine hK.out _ _ (fun hHeld=>?_) (by exact KS.out _ (((Zg _ _).drew).alloc (Zc _) _))
   clear hK K
   refine ry 14 fun K hK=>?_
   (refine step_append_lies _ (by rfl) _ _ _ (by rfl) bs 71 i0 _ 5 56 Tryz.underlying32 HIO.out.1 HIO.out.2.1 HIO.out.2.2.1 HIO.out.2.2.2 rfl oq (.slice av i cv) i cs.flatten (by rfl) ((own_below HR2.out HB6D.out).alloc _) ⟨W6.heap.size,0,none⟩ 1 1 [.int .i64 ppo,.int .i64 ffo,.int .i64 (src:Int),.slice av2 ops.length cv2,.int .i64 dl] (by rfl) (by rfl) (World.news_of_block (Zz _ _)) (by simp[Value.oneCell']) oq (by unfold maxLen;omega) oq (by simp;have:=HB6.out.size;omega) (W6.heap.size+1) (by simp) ?_;intro gg cap4 w4 hown4 hgrow4 hat4 hlt4;have hAP:=HT.out.appL HB6D.out HNL.out HR1.out HR2.out HR3.out HR4.out (c:=[.int .i64 ppo,.int .i64 ffo,.int .i64 (src:Int),.slice av2 ops.length cv2,.int .i64 dl]) rfl (x:=⟨ppo,ffo,src,ops,dl⟩) (⟨_,rfl,HOW.out⟩) hown4 (show(W6.drew.alloc (.cells #[.int .i64 ppo,.int .i64 ffo,.int .i64 (src:Int),.slice av2 ops.length cv2,.int .i64 dl] 71)).grownBy w4 _ from hgrow4);obtain⟨⟨kz4,kf4⟩,hnx,hsty,hbl⟩:=hAP;have HNX:=hid hnx;have HSTY:=hid hsty;have HBL:=hid hbl;clear hnx hsty hbl hown4 hgrow4)
   refine hK.out _ _ (fun hHeld=>?_) (by exact KY.out _ HSTY.out)
   clear hK K
   refine tk 15 hHeld ?_
   refine ry 16 fun K hK=>?_
   go_simp
   refine hK.out _ _ (fun hHeld=>?_) (by exact KZ.out _ _ HSTY.out)
   clear hK K
   refine Zy kq ?_ _
   (refine NoPanic.normal ?_;gi_wp2;exact⟨hid ⟨i+1,_,by go_num,hlto,HEND.out _ _ HNX.out⟩,by simp[intOf];omega⟩)
  go_simp
  refine hK.out _ _ (fun hHeld=>?_) (by first|exact KS.out _ (Zg _ _).drew|exact KS.out _ (((Zg _ _).drew).alloc (Zc _) _))
  clear hK K
  refine ry 1 fun K hK=>?_
  go_simp
  refine hK.out _ _ (fun hHeld=>?_) (by exact KS.out _ (((Zg _ _).drew).alloc (Zc _) _))
  clear hK K
  refine ry 14 fun K hK=>?_
  (refine step_append_lies _ (by rfl) _ _ _ (by rfl) bs 71 i0 _ 5 56 Tryz.underlying32 HIO.out.1 HIO.out.2.1 HIO.out.2.2.1 HIO.out.2.2.2 rfl oq (.slice av i cv) i cs.flatten (by rfl) ((own_below HR2.out HB6D.out).alloc _) ⟨W6.heap.size,0,none⟩ 1 1 [.int .i64 ppo,.int .i64 ffo,.int .i64 (src:Int),.slice av2 ops.length cv2,.int .i64 dl] (by rfl) (by rfl) (World.news_of_block (Zz _ _)) (by simp[Value.oneCell']) oq (by unfold maxLen;omega) oq (by simp;have:=HB6.out.size;omega) (W6.heap.size+1) (by simp) ?_;intro gg cap4 w4 hown4 hgrow4 hat4 hlt4;have hAP:=HT.out.appL HB6D.out HNL.out HR1.out HR2.out HR3.out HR4.out (c:=[.int .i64 ppo,.int .i64 ffo,.int .i64 (src:Int),.slice av2 ops.length cv2,.int .i64 dl]) rfl (x:=⟨ppo,ffo,src,ops,dl⟩) (⟨_,rfl,HOW.out⟩) hown4 (show(W6.drew.alloc (.cells #[.int .i64 ppo,.int .i64 ffo,.int .i64 (src:Int),.slice av2 ops.length cv2,.int .i64 dl] 71)).grownBy w4 _ from hgrow4);obtain⟨⟨kz4,kf4⟩,hnx,hsty,hbl⟩:=hAP;have HNX:=hid hnx;have HSTY:=hid hsty;have HBL:=hid hbl;clear hnx hsty hbl hown4 hgrow4)
  refine hK.out _ _ (fun hHeld=>?_) (by exact KY.out _ HSTY.out)
  clear hK K
  refine tk 15 hHeld ?_
  refine ry 16 fun K hK=>?_
  go_simp
  refine hK.out _ _ (fun hHeld=>?_) (by exact KZ.out _ _ HSTY.out)
  clear hK K
  refine Zy kq ?_ _
  (refine NoPanic.normal ?_;gi_wp2;exact⟨hid ⟨i+1,_,by go_num,hlto,HEND.out _ _ HNX.out⟩,by simp[intOf];omega⟩)
 have hie:¬(i:Int)<(p.outs.length:Int):=oq
 have hie0:p.outs.take i=p.outs:=List.take_of_length_le oq
 rw[hie0] at hT
 obtain⟨aI,cI,rfl⟩:=hT.rI.form
 obtain⟨aN,cN,rfl⟩:=hT.rN.form
 obtain⟨aT,cT,rfl⟩:=hT.rT.form
 obtain⟨aL,cL,rfl⟩:=hT.rL.form
 simp only[Zo] at hT
 have hT3:=hid hT
 obtain⟨⟨f0,f1,f2,f3⟩,ff⟩:=Yq hT.b2
 obtain⟨⟨g0,g1,g2,g3⟩,gf⟩:=Yq hT.b1
 have hn21:¬w.heap.size+1=w.heap.size+1+1:=oq
 clear hT HTT HW
 gi_upto_region 26 with fail
 refine wpIn_wide.2 (wp_region_noPanic ?_)
 go_wp2_with fail
 refine NoPanic.normal ?_
 gi_wp2
 refine XX Ds _ ((((hT3.out.marks.set _ _).set _ _).set _ _).set _ _) (fun w' hk=>?_)
 have hres:=hk.same (w.heap.size+1) _ (ZbA hT3.out.b1 _ _ _ _) rfl
 obtain⟨⟨q0,q1,q2,q3⟩,qf⟩:=Yq hres
 have hlw9:=hT3.out.low.size
 have hst:YM 34 wr w':=by
  intro k cur t fz hk1 ht
  exact hk.same k _ ((YM.of_upon hT3.out.b1 (yT wr (w.heap.size+1) _ _ _ _)) k cur t fz hk1 ht) rfl
 have hbw:w.heap.size≤bs:=by have:=hT3.out.hbs;omega
 refine⟨.agg #[.slice aI p.ins.length cI,.slice aN p.nodes.length cN,.slice aT (YI p.flows 0).length cT,.slice aL p.outs.length cL],?_,⟨_,_,_,_,rfl,?_,?_,?_,?_⟩,?_⟩
 ·simp only[results,Tryz.results57];go_simp
 ·exact(hT3.out.rI.stays hst (by decide) (fun c x hc=>hc)).mono hbw (fun c x hc=>hc)
 ·exact(hT3.out.rN.stays hst (by decide) (fun c x hc=>hc.stays hst (by decide) (by decide))).mono hbw (fun c x hc=>hc)
 ·exact(hT3.out.rT.stays hst (by decide) (fun c x hc=>hc.stays hst (by decide) (by decide))).mono hbw (fun c x hc=>hc.mono hbw)
 ·exact(hT3.out.rL.stays hst (by decide) (fun c x hc=>hc.stays hst (by decide))).mono hbw (fun c x hc=>VF hc hbw)
 exact Below.trans (hT3.out.low.trans (Upon.below (yT wr (w.heap.size+1) _ _ _ _) hlw9 (ZX _ 1))) hk.below
end Go.Proofs.YtgigilkpndhddaaGreatDoor.syn
