/- Parts of the proof. -/
import Derived.Deep.OwnRows
import Derived.Sort.OwnSortedInts
import Derived.Test.YtlhlcdjiafdoeaaGreatDoorV16
import Derived.Test.YtlhlcdjiafdoeaaGreatDoorV31
set_option linter.all false
set_option maxRecDepth 100000
set_option maxHeartbeats 16000000
namespace Go.Proofs.YtlhlcdjiafdoeaaGreatDoor.syn
open Go.RowKit Go.Sort Go.Proofs
theorem gM {w:World} {B:Nat} (v:Value) (q:List Int) (h:QV w B v q) (hl:q.length≤100000) :
  Calls Tryz.prog 147 #[v] w fun x w'=>x=.returned (.tuple #[])∧QV w' B v (q.mergeSort (fun x y=>decide (x≤y)))∧But (fun k=>v.ownBlock=some k) w w':=by
 rcases h.2 with ⟨rfl,h0⟩|⟨g,cap,cur,rfl,hb,hg,hnc,hcm,hcs,htk⟩
 ·have hq:q=[]:=Yb h0
  subst hq
  refine(Tryz.slices_Sort_int_none none 0 w).mono ?_
  rintro x w' ⟨rfl,rfl⟩
  exact⟨rfl,by simpa using h,But.refl _ _⟩
 have htk':cur.toList.take q.length=q.map (Value.int .i64):=by rw[Z6] at htk;exact htk
 refine(Tryz.slices_Sort_int g 0 cap q w (holds_of_blockI hg htk') (Zb hg) oq).mono ?_
 rintro x w' ⟨rfl,n,os,rfl⟩
 refine⟨rfl,?_,But.of_grown (grownBy_sortedI _) |>.imp (fun i _ e=>e)⟩
 have:=ownsRow_sortedI (w:=w) (base:=B) (g:=g) (cap:=cap) (n:=n) (e:=3) (os:=os) (cur:=cur) (ss:=q) (ts:=q.mergeSort (fun x y=>decide (x≤y))) (by simp) hb hg hnc hcm hcs
 unfold QV
 rw[List.length_mergeSort]
 exact this
theorem heap_put {w:World} {g n:Nat} {cur:Array Value} {e:TypeId} {fr:Nat × Nat} (d:Array Int) (hb:w.heap[g]?=some (.cells cur e fr)) :
  (putRow (Value.int .i64) (Sort.ahead w n) g 0 d).heap[g]?=some (.cells (putCells (Value.int .i64) 0 d cur) e fr):=by
 simp[putRow,mapBlock,Sort.ahead,Array.getElem?_modify,hb,onCells]
theorem zT {w:World} {g n:Nat} (d:Array Int):w.grownBy (putRow (Value.int .i64) (Sort.ahead w n) g 0 d) (some g):=by
 refine⟨rfl,rfl,rfl,by simp[putRow,mapBlock,Sort.ahead],fun k hk hne=>?_⟩
 have:g≠k:=fun e=>hne (by rw[e])
 simp[putRow,mapBlock,Sort.ahead,Array.getElem?_modify,this]
theorem zL {w:World} {B:Nat} (v:Value) (q:List Int) (h:QV w B v q) (hl:q.length≤100000) :
  Calls Tryz.prog 148 #[v] w fun x w'=>(∃v',x=.returned v'∧QV w' B v' (Lib.compact q)∧v'.ownBlock=v.ownBlock)∧But (fun k=>v.ownBlock=some k) w w':=by
 rcases h.2 with ⟨rfl,h0⟩|⟨g,cap,cur,rfl,hb,hg,hnc,hcm,hcs,htk⟩
 ·have hq:q=[]:=Yb h0
  subst hq
  refine(Tryz.slices_Compact_int_empty none 0 w).mono ?_
  rintro x w' ⟨rfl,rfl⟩
  exact⟨⟨_,rfl,h,rfl⟩,But.refl _ _⟩
 have htk':cur.toList.take q.length=q.map (Value.int .i64):=by rw[Z6] at htk;exact htk
 refine(Tryz.slices_Compact_int g 0 cap q w (holds_of_blockI hg htk') oq hnc).mono ?_
 rintro x w' ⟨rfl,n,rfl⟩
 have hcl:=JN q
 refine⟨⟨_,rfl,⟨by simp[ints],.inr ⟨g,cap,_,rfl,hb,heap_put _ hg,oq,hcm,by simp[putCells,hcs],?_⟩⟩,rfl⟩,But.of_grown (zT _) |>.imp (fun i _ e=>e)⟩
 have h1:=take_putCellsI cur (Lib.compact q++List.replicate (q.length-(Lib.compact q).length) 0) (by simp;omega)
 have h2:=Z1 (List.take (Lib.compact q).length) h1
 rw[List.take_take,Nat.min_eq_left (by simp)] at h2
 rw[Z6,h2]
 simp[ints]
def ZbY (o:Option Int):Value:=.tuple #[.int .i64 (o.getD 0),.bool o.isSome]
theorem yF {w:World} (f:FD) (ai an aT al:Option Addr) (ci cn ct cl:Nat) (hf:FAP w f ai an aT al) (i:Int) (hi64:I64 i) :
  Calls Tryz.prog 145 #[fv f ai an aT al ci cn ct cl,.int .i64 i] w fun x w'=>x=.returned (ZbY (qS f i))∧Below w.heap.size w w':=by
 have hlens:=hf.lens
 have HSR:=hid (fun(W:World) (hW:Below w.heap.size w W)=>Gs (w:=W) f ai an aT al ci cn ct cl (hf.below hW) i hi64)
 unfold I64 at hi64
 clear hf
 obtain⟨s,hs⟩:∃s,Q2 f i=s:=⟨_,rfl⟩
 rw[hs] at HSR
 have hT:qS f i=if s.isSome=true∧(f.ins.length:Int)≤i then some (i-(f.ins.length:Int)) else none:=by unfold qS;rw[hs]
 have hsub:s.isSome=true→(f.ins.length:Int)≤i→IntKind.i64.wrap (i-(f.ins.length:Int))=i-(f.ins.length:Int):=fun h1 h2=>ZJ _ oq
 rw[hT]
 clear hs hT
 unfold fv at *
 cases s with
 | none =>
  unfold UC at HSR
  simp only[Option.getD_none,Option.isSome_none] at HSR
  rw[ZZ (by simp)]
  clear hsub
  go_enter Tryz.func145,Tryz.ntmps145
  go_wp2_with (go_at_call 124;refine(HSR.out _ bq).mono ?_;rintro x w2 ⟨rfl,hb2⟩;have HB2:=hid hb2;have k0:w.heap.size<w2.heap.size:=Yv hb2 oq;clear hb2)
  go_ret2
  exact⟨rfl,bq⟩
 | some c =>
  obtain⟨p0,f0⟩:=c
  unfold UC at HSR
  simp only[Z7,Option.isSome_some] at HSR
  simp only[Option.isSome_some,true_and]
  by_cases hle:(f.ins.length:Int)≤i
  ·have hw:=hsub rfl hle
   have hnl:¬i<(f.ins.length:Int):=oq
   rw[Z0 hle]
   clear hsub
   go_enter Tryz.func145,Tryz.ntmps145
   go_wp2_with (go_at_call 124;refine(HSR.out _ bq).mono ?_;rintro x w2 ⟨rfl,hb2⟩;have HB2:=hid hb2;have k0:w.heap.size<w2.heap.size:=Yv hb2 oq;obtain⟨⟨y0,y1,y2,y3⟩,yf⟩:=Yu ((hb2.block w.heap.size oq).trans (Yt w _));clear hb2)
   go_ret2
   exact⟨rfl,bq⟩
  have hnl:i<(f.ins.length:Int):=oq
  rw[ZZ hle]
  clear hsub
  go_enter Tryz.func145,Tryz.ntmps145
  go_wp2_with (go_at_call 124;refine(HSR.out _ bq).mono ?_;rintro x w2 ⟨rfl,hb2⟩;have HB2:=hid hb2;have k0:w.heap.size<w2.heap.size:=Yv hb2 oq;obtain⟨⟨y0,y1,y2,y3⟩,yf⟩:=Yu ((hb2.block w.heap.size oq).trans (Yt w _));clear hb2)
  go_ret2
  exact⟨rfl,bq⟩
open Go.RowKit
theorem ZaB {w:World} {l:List (Int × Int × Int)} {ad:Option Addr} (h:Row OpR 3 w l ad):index.OpA w ad l:=by
 intro k hk
 obtain⟨b,o,rfl,hb,h0,h1,h2⟩:=h.at hk
 rw[plain.getD_lt (0,0,0) hk]
 exact⟨b,o,rfl,hb,h0,h1,h2⟩
theorem kR {f:FD} {t:TD} {j:Nat} (h:j<t.args.length):(t.args.take (j+1)).filterMap (QW f)=(t.args.take j).filterMap (QW f)++(match QW f t.args[j] with|some x=>[x]|none=>[]):=by
 rw[Zu h,List.filterMap_append]
 congr 1
 cases hg:QW f t.args[j]<;>simp[hg]
theorem V9 (f:FD) (l:List AD):(l.filterMap (QW f)).length≤l.length:=List.length_filterMap_le _ _
theorem vB {w:World} (f:FD) (ai an aT al:Option Addr) (ci cn ct cl:Nat) (hf:FAP w f ai an aT al) (i:Nat) (hi:i<f.tasks.length) :
  Calls Tryz.prog 126 #[fv f ai an aT al ci cn ct cl,.int .i64 (i:Int)] w fun x w'=>(∃v,x=.returned v∧QV w' w.heap.size v (YU f f.tasks[i]))∧Below w.heap.size w w':=by
 have hlens:=hf.lens
 have HTK:=hid (fun(W:World) (hW:Below w.heap.size w W) (s:Int) (hs:I64 s)=>yF (w:=W) f ai an aT al ci cn ct cl (hf.below hW) s hs)
 obtain⟨bt,ot,rfl,hbt,h0,h1,h2,ad,cap,h3,h4⟩:=hf.tasks.at hi
 have hal:=(hf.args _ (Zi hi)).1
 have hao:=(hf.args _ (Zi hi)).2
 obtain⟨t,ht⟩:∃t,f.tasks[i]=t:=⟨_,rfl⟩
 rw[ht] at h3 h4 hal hao ⊢
 have HAR:=hid h4
 have HAO:=hid hao
 have i0:(0:Int)≤(i:Int):=oq
 have i1:(i:Int)<(f.tasks.length:Int):=oq
 have i2:¬(i:Int)<0:=oq
 have i3:¬(i:Int)≥(f.tasks.length:Int):=oq
 have hb0:bt<w.heap.size:=hbt
 clear hf h0 h1 h2 h4 hao ht
 unfold fv at *
 go_enter Tryz.func126,Tryz.ntmps126
 go_wp2
 go_loopw [5,26] (fun s5 s26 wr=>Hid (∃j:Nat,s26=.int .i64 (j:Int)∧j≤t.args.length∧QV wr (w.heap.size+1) s5 ((t.args.take j).filterMap (QW f))∧wr.heap[w.heap.size]?=some (.cells #[.slice ai f.ins.length ci,.slice an f.nods.length cn,.slice (some ⟨bt,ot,none⟩) f.tasks.length ct,.slice al f.tells.length cl] 35 (0,0))∧Below w.heap.size w wr)) (fun _ s _=>t.args.length-(intOf s).toNat)
 case atStart=>exact⟨0,rfl,Zk _,Yd _ _ _ _,Yt w _,bq⟩
 obtain⟨j,rfl,hj,hown,hbox,hbel⟩:=hrel.out
 clear hrel
 obtain⟨⟨z0,z1,z2,z3⟩,zf⟩:=Yu hbox
 have HBEL:=hid hbel
 have HBOX:=hid hbox
 have hbl:=Zb hbox
 have hszr:=hbel.size
 obtain⟨ad5,cap5,rfl⟩:=YD hown
 have HOWN:=hid hown
 have hml:=V9 f (t.args.take j)
 rw[Z9] at hml
 clear hbox hown
 by_cases hlt:j<t.args.length
 ·obtain⟨ba,oa,rfl,hba,hsrc,ado,capo,hops,hrow⟩:=HAR.out.at hlt
  have hai:=HAO.out _ (Zi hlt)
  have hmt:=kR (f:=f) hlt
  have hcr:=fun o=>hbel.cell (p:=⟨ba,o,none⟩) hba
  have y0:=(hcr _).trans hsrc
  have y1:=(hcr _).trans hops
  have hj0:(0:Int)≤(j:Int):=oq
  have hj1:(j:Int)<(t.args.length:Int):=oq
  obtain⟨x,hx⟩:∃x,t.args[j]=x:=⟨_,rfl⟩
  rw[hx] at y0 y1 hai hmt hrow
  obtain⟨src,ops⟩:=x
  simp only at y0 y1 hai hrow
  have HT:=hid (fun(W:World) (hW:Below w.heap.size w W)=>HTK.out W hW src hai.2)
  have HL:=hid (fun(W:World) (hW:Below w.heap.size w W)=>index.vD ops ado capo W oq (ZaB (hrow.below Ed hW)))
  have HMT:=hid hmt
  obtain⟨l5,hl5⟩:∃l5,List.filterMap (QW f) (List.take j t.args)=l5:=⟨_,rfl⟩
  rw[hl5] at HOWN HMT hml
  try rw[hl5]
  have hob:wr.heap.size<wr.heap.size+1:=ZU _
  clear hcr hsrc hops hrow hx hbel hmt hl5 HTK HAR HAO
  cases hts:qS f src with
  | none =>
   rw[hts] at HT
   have HN:=hid (show(List.filterMap (QW f) (List.take (j+1) t.args))=l5 by rw[HMT.out];unfold QW;rw[hts];simp)
   unfold ZbY at HT
   simp only[Option.getD_none,Option.isSome_none] at HT
   clear hts HL HMT
   go_wp2_with (go_at_call 145;refine(HT.out _ bq).mono ?_;rintro x w2 ⟨rfl,hb2⟩;have HB2:=hid hb2;have k0:wr.heap.size<w2.heap.size:=Yv hb2 oq;have q9:=(hb2.block wr.heap.size oq).trans (Yt wr _);clear hb2)
   refine⟨hid ⟨j+1,by go_num,hlt,by rw[HN.out];exact own_below HOWN.out bq,((bq:Below wr.heap.size wr _).block _ hbl).trans HBOX.out,bq⟩,by simp[intOf];omega⟩
  | some x =>
   rw[hts] at HT
   unfold ZbY at HT
   simp only[Z7,Option.isSome_some] at HT
   cases hl:ops.any xY with
   | true =>
    have HN:=hid (show(List.filterMap (QW f) (List.take (j+1) t.args))=l5 by rw[HMT.out];unfold QW;rw[Z0 hl];simp)
    rw[show ops.any index.YS=true from hl] at HL
    clear hts hl HMT
    go_wp2_with (first|(go_at_call 145;refine(HT.out _ bq).mono ?_;rintro y w2 ⟨rfl,hb2⟩;have HB2:=hid hb2;have k0:wr.heap.size<w2.heap.size:=Yv hb2 oq;obtain⟨⟨x0,x1⟩,xf⟩:=YG ((hb2.block wr.heap.size oq).trans (Yt wr _));clear hb2)|(go_at_call 146;refine(HL.out _ bq).mono ?_;rintro y w3 ⟨rfl,hb3⟩;have HB3:=hid hb3;have k1:wr.heap.size<w3.heap.size:=Yv hb3 oq;clear hb3))
    refine⟨hid ⟨j+1,by go_num,hlt,by rw[HN.out];exact own_below HOWN.out bq,((bq:Below wr.heap.size wr _).block _ hbl).trans HBOX.out,bq⟩,by simp[intOf];omega⟩
   | false =>
    have HN:=hid (show(List.filterMap (QW f) (List.take (j+1) t.args))=l5++[x] by rw[HMT.out];unfold QW;rw[ZZ (by simp[hl]),hts])
    rw[show ops.any index.YS=false from hl] at HL
    clear hts hl HMT
    obtain⟨i0,hi0,hi1',hi2',hi3'⟩:=info_parts V7
    have HI:=hid (Zh hi0 (Zh hi1' (Zh hi2' hi3')))
    clear hi0 hi1' hi2' hi3'
    go_wp2_with (first|(go_at_call 145;refine(HT.out _ bq).mono ?_;rintro y w2 ⟨rfl,hb2⟩;have HB2:=hid hb2;have k0:wr.heap.size<w2.heap.size:=Yv hb2 oq;obtain⟨⟨x0,x1⟩,xf⟩:=YG ((hb2.block wr.heap.size oq).trans (Yt wr _));clear hb2)|(go_at_call 146;refine(HL.out _ bq).mono ?_;rintro y w3 ⟨rfl,hb3⟩;have HB3:=hid (show Below wr.heap.size wr w3 from bq);have k1:wr.heap.size<w3.heap.size:=Yv hb3 oq;clear hb3)|(refine lite.Xd _ (by rfl) _ _ _ (by rfl) (w.heap.size+1) 3 i0 _ 1 8 Tryz.underlying44 HI.out.1 HI.out.2.1 HI.out.2.2.1 HI.out.2.2.2 rfl oq (.slice ad5 l5.length cap5) l5.length (ints l5) (by rfl) (own_below HOWN.out bq) (some ⟨w3.heap.size,0,none⟩) 1 1 [.int .i64 x] (by rfl) (by rfl) (fun j u h=>⟨_,rfl,World.news_of_block (Zy _ _) j u h⟩) (by simp[Value.oneCell']) (by unfold maxLen;omega) oq oq ?_;intro v4 w4 hown4 hg4 hl4;have HO4:=hid hown4;have hb4:But (fun k=>(Value.slice ad5 l5.length cap5).ownBlock=some k) w3 w4:=(But.of_below ((Zg _ _).alloc (Zc _) _)).then (But.of_grown hg4) (fun _ _ e=>e);have HB4:=hid hb4;clear hown4 hg4 hl4 hb4))
    have hge:=World.ownsRow.lt HOWN.out
    have hb5:But (fun k=>(Value.slice ad5 l5.length cap5).ownBlock=some k) wr w4:=(But.of_below HB3.out).then HB4.out (fun _ _ e=>e)
    refine⟨hid ⟨j+1,by go_num,hlt,?_,(hb5.block _ hbl (fun e=>by have:=(hge _ e).1;omega)).trans HBOX.out,HBEL.out.trans (hb5.below hszr (fun k hk=>Nat.le_of_succ_le (hge k hk).1))⟩,by simp[intOf];omega⟩
    rw[HN.out]
    unfold QV
    rw[Zw,←JU]
    exact HO4.out
 have hjn:j=t.args.length:=oq
 subst hjn
 rw[ZR] at HOWN
 have HS:=hid (gM (w:=wr) _ _ (show QV wr (w.heap.size+1) (.slice ad5 _ cap5) (GE f t) from HOWN.out) (by have:=V9 f t.args;unfold GE;omega))
 have HC:=hid (fun(W:World) (v:Value) (hW:QV W (w.heap.size+1) v ((GE f t).mergeSort (fun x y=>decide (x≤y))))=>zL (w:=W) v _ hW (by have:=V9 f t.args;rw[List.length_mergeSort];unfold GE;omega))
 have hge:=hid (World.ownsRow.lt HOWN.out)
 have hjl:¬(t.args.length:Int)<(t.args.length:Int):=oq
 clear hbel
 go_wp2_with (first|(go_at_call 147;refine HS.out.mono ?_;rintro y w2 ⟨rfl,hq2,hb2⟩;have HQ2:=hid hq2;have HB2:=hid hb2;clear hq2 hb2)|(go_at_call 148;refine(HC.out _ _ HQ2.out).mono ?_;rintro y w3 ⟨⟨v3,rfl,hq3,hv3⟩,hb3⟩;have HQ3:=hid hq3;have HB3:=hid hb3;clear hq3 hb3 hv3))
 go_ret
 exact⟨⟨_,rfl,Y6 HQ3.out (Nat.le_succ _)⟩,HBEL.out.trans ((HB2.out.trans HB3.out).below hszr (fun k hk=>Nat.le_of_succ_le (hge.out k hk).1))⟩
theorem ze (l:List Value) (i:Nat) (u:Value):l.toArray.setIfInBounds i u=(l.set i u).toArray:=by simp
structure WaM (W2 W:World) (T wb mb rb:Nat) (vq:Value) (vs:List Value) (s:WS):Prop where
 but:But (fun k=>k=mb∨k=rb∨k=wb) W2 W
 lt:mb<W2.heap.size∧rb<W2.heap.size∧wb<W2.heap.size
 ne:mb≠rb∧mb≠wb∧rb≠wb
 box:W.heap[wb]?=some (.cells #[vq,.slice (some ⟨mb,0,none⟩) T T,.slice (some ⟨rb,0,none⟩) T T] 180 (0,0))
 many:W.heap[mb]?=some (.cells (ints s.many).toArray 3 (0,0))
 rds:W.heap[rb]?=some (.cells vs.toArray 44 (0,0))
 fam:Fam W W2.heap.size 3 (vq::vs) (ints s.q::s.rd.map ints)
 ok:WOk T s
variable {W2 W W':World} {T wb mb rb:Nat} {vq:Value} {vs:List Value} {s:WS}
theorem WaM.vlen (h:WaM W2 W T wb mb rb vq vs s):vs.length=T:=by
 have:=h.fam.len
 simpa [h.ok.rd] using this
theorem WaM.size (h:WaM W2 W T wb mb rb vq vs s):W2.heap.size≤W.heap.size:=h.but.size
theorem WaM.turn (h:WaM W2 W T wb mb rb vq vs s) (hb:Below W.heap.size W W'):WaM W2 W' T wb mb rb vq vs s:=by
 have h1:=h.lt
 have h2:=h.size
 exact⟨h.but.trans (But.of_below hb),h.lt,h.ne,(hb.block _ oq).trans h.box,(hb.block _ oq).trans h.many,(hb.block _ oq).trans h.rds,h.fam.below hb,h.ok⟩
theorem WaM.manyAt (h:WaM W2 W T wb mb rb vq vs s) {t:Nat} (ht:t<T):W.cell? ⟨mb,t,none⟩=some (.int .i64 (s.many.getD t 0))∧W.frozen? ⟨mb,t,none⟩=false:=by
 refine⟨?_,by simp[World.frozen?,h.many]⟩
 rw[Z5 W mb t _ _ (0,0) h.many,List.getElem?_toArray]
 exact ints_at (by rw[h.ok.many];exact ht)
theorem WaM.rdAt (h:WaM W2 W T wb mb rb vq vs s) {t:Nat} (ht:t<T):∃v,vs[t]?=some v∧W.cell? ⟨rb,t,none⟩=some v∧W.frozen? ⟨rb,t,none⟩=false∧QV W W2.heap.size v (s.rd.getD t []):=by
 have h1:t<vs.length:=by rw[h.vlen];exact ht
 have h2:t<s.rd.length:=by rw[h.ok.rd];exact ht
 refine⟨vs[t],Ze h1,?_,by simp[World.frozen?,h.rds],?_⟩
 ·rw[Z5 W rb t _ _ (0,0) h.rds,List.getElem?_toArray,Ze h1]
 have h3:=h.fam.own (t+1) vs[t] (ints (s.rd.getD t [])) (by rw[List.getElem?_cons_succ,Ze h1]) (by rw[List.getElem?_cons_succ,List.getElem?_map,Ze h2,Zf,Ze h2];rfl)
 rw[QX] at h3
 exact h3
theorem WaM.setMany (h:WaM W2 W T wb mb rb vq vs s) (t:Nat) (x:Int):WaM W2 (W.setCell ⟨mb,t,none⟩ (.int .i64 x)) T wb mb rb vq vs ⟨s.q,s.many.set t x,s.rd⟩:=by
 have hn:=h.ne
 refine⟨h.but.trans (But.set (S:=fun k=>k=mb∨k=rb∨k=wb) (.inl rfl) _),h.lt,h.ne,(Zr _ _ _ _ (fun e=>hn.2.1 e.symm)).trans h.box,?_,(Zr _ _ _ _ (fun e=>hn.1 e.symm)).trans h.rds,h.fam.set h.lt.1 _,⟨h.ok.q,by simp[h.ok.many],h.ok.rd,h.ok.rds⟩⟩
 have:=Zj W mb t (ints s.many).toArray 3 (.int .i64 x) h.many
 rw[ze,ints_set] at this
 exact this
theorem WaM.qm (h:WaM W2 W T wb mb rb vq vs s):QM W wb 0 W2.heap.size vq s.q:=by
 refine⟨?_,by simp[World.frozen?,h.box],?_,h.lt.2.2,h.size⟩
 ·rw[Z5 W wb 0 _ _ (0,0) h.box];rfl
 have:=h.fam.own 0 vq (ints s.q) rfl rfl
 rw[QX] at this
 exact this
theorem WaM.queue (h:WaM W2 W T wb mb rb vq vs s) {q':List Int} (hp:JF W wb 0 W2.heap.size vq q' W') (hq:∀x∈q',0≤x∧x<(T:Int)):∃vq',WaM W2 W' T wb mb rb vq' vs ⟨q',s.many,s.rd⟩∧(∀k,vq'.ownBlock=some k→vq.ownBlock=some k∨W.heap.size≤k)∧But (fun k=>k=wb∨vq.ownBlock=some k) W W':=by
 obtain⟨vq',arr,t,arr',hqm,hB,hb,h1,h2,h3⟩:=hp
 rw[h.box] at h1
 injection h1 with h1
 injection h1 with h1 h4 _
 subst h1
 subst h4
 have hlt:=h.lt
 have hn:=h.ne
 have hsz:=h.size
 have hob:=JJ h.qm.own
 have hold:∀k,k<W2.heap.size→k≠wb→W'.heap[k]?=W.heap[k]?:=fun k hk hne=>hb.block k oq (fun e=>by
  rcases e with e|e
  ·exact hne e
  have:=(hob k e).1;omega)
 refine⟨vq',⟨h.but.then hb (fun i hi e=>?_),h.lt,h.ne,?_,(hold mb hlt.1 hn.2.1).trans h.many,(hold rb hlt.2.1 hn.2.2).trans h.rds,?_,⟨hq,h.ok.many,h.ok.rd,h.ok.rds⟩⟩,hB,hb⟩
 ·rcases e with e|e
  ·exact .inr (.inr e)
  have:=(hob i e).1;omega
 ·rw[h2,h3,ze]
  rfl
 have ho:W'.ownsRow W2.heap.size 3 1 vq' (ints q').length (ints q'):=by rw[QX];exact hqm.own
 have hf:=h.fam.put (i:=0) rfl (hb.imp (fun k _ e=>e.elim (fun e=>.inr oq) .inl)) ho hB
 simpa using hf
theorem WaM.other (h:WaM W2 W T wb mb rb vq vs s) {S:Nat→Prop} (hb:But S W W') (hS:∀k,S k→W2.heap.size≤k∧vq.ownBlock≠some k∧∀(i:Nat) (v:Value),vs[i]?=some v→v.ownBlock≠some k):WaM W2 W' T wb mb rb vq vs s:=by
 have hlt:=h.lt
 have hsz:=h.size
 have hold:∀k,k<W2.heap.size→W'.heap[k]?=W.heap[k]?:=fun k hk=>hb.block k oq (fun e=>by have:=(hS k e).1;omega)
 refine⟨h.but.then hb (fun i hi e=>by have:=(hS i e).1;omega),h.lt,h.ne,(hold _ hlt.2.2).trans h.box,(hold _ hlt.1).trans h.many,(hold _ hlt.2.1).trans h.rds,h.fam.but hb (fun i v k hv hk hs=>?_),h.ok⟩
 obtain⟨_,h2,h3⟩:=hS k hs
 cases i with
 | zero =>
  cases hv
  exact h2 hk
 | succ i =>
  rw[List.getElem?_cons_succ] at hv
  exact h3 i v hv hk
theorem WaM.app (h:WaM W2 W T wb mb rb vq vs s) {i t:Nat} (hi:i<T) (ht:t<T) {v v':Value} (hv:vs[i]?=some v) {w4:World} (hb:But (fun k=>v.ownBlock=some k) W w4) (ho:w4.ownsRow W2.heap.size 3 1 v' ((s.rd.getD i []).length+1) (ints (s.rd.getD i [])++[.int .i64 (t:Int)]))
  (hv':∀k,v'.ownBlock=some k→v.ownBlock=some k∨W.heap.size≤k):WaM W2 (w4.setCell ⟨rb,i,none⟩ v') T wb mb rb vq (vs.set i v') ⟨s.q,s.many,addR t s.rd (i:Int)⟩:=by
 have hlt:=h.lt
 have hn:=h.ne
 have hsz:=h.size
 have hbl:∀k,v.ownBlock=some k→W2.heap.size≤k:=fun k hk=>(h.fam.block (i:=i+1) (by rw[List.getElem?_cons_succ];exact hv) k hk).1
 have hold:∀k,k<W2.heap.size→w4.heap[k]?=W.heap[k]?:=fun k hk=>hb.block k oq (fun e=>by have:=hbl k e;omega)
 have hset:=But.set (S:=fun k=>k=mb∨k=rb∨k=wb) (w:=w4) (b:=rb) (o:=i) (.inr (.inl rfl)) v'
 refine⟨(h.but.then hb (fun k hk e=>by have:=hbl k e;omega)).trans hset,h.lt,h.ne,(Zr _ _ _ _ (fun e=>hn.2.2 e.symm)).trans ((hold _ hlt.2.2).trans h.box),(Zr _ _ _ _ hn.1).trans ((hold _ hlt.1).trans h.many),?_,?_,?_⟩
 ·have:=Zj w4 rb i vs.toArray 44 v' ((hold _ hlt.2.1).trans h.rds)
  rw[ze] at this
  exact this
 ·have hf:=h.fam.put (i:=i+1) (by rw[List.getElem?_cons_succ];exact hv) (hb.imp (fun k _ e=>.inl e)) (xs':=ints (s.rd.getD i [])++[.int .i64 (t:Int)]) (by rw[Zw,QX];exact ho) hv'
  have hf2:=hf.set (b:=rb) (o:=i) hlt.2.1 v'
  rw[List.set_cons_succ,List.set_cons_succ] at hf2
  unfold addR
  rw[ZP,List.map_set,←JU]
  exact hf2
 obtain⟨h1,h2⟩:=WOk.addR (x:=(i:Int)) ht h.ok.rd h.ok.rds
 exact⟨h.ok.q,h.ok.many,h1,h2⟩
end Go.Proofs.YtlhlcdjiafdoeaaGreatDoor.syn
