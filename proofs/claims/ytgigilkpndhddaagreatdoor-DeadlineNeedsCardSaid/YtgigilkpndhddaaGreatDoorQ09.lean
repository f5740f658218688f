/-
  Parts of the proof: Heap4, Src, Ord1, Ord2, Rnd.
-/
import Derived.BigRegionIn
import Derived.Deep.CutBlock
import Derived.Deep.DeepCutAuto
import Derived.Deep.RegionHeld3
import Derived.Deep.RegionLaw
import Derived.OrdersHeld
import Derived.OrdersIn
import Derived.Sort.OwnSortedInts
import Derived.StillTailTactics
import Derived.Test.YtgigilkpndhddaaGreatDoorQ02
import Derived.Test.YtgigilkpndhddaaGreatDoorQ05
import Derived.Test.YtgigilkpndhddaaGreatDoorQ08
namespace Go.Proofs.YtgigilkpndhddaaGreatDoor.syn
set_option linter.unusedVariables false
set_option linter.unusedSimpArgs false
set_option linter.unnecessarySimpa false
set_option maxRecDepth 100000
set_option maxHeartbeats 16000000
open Go.RowKit
theorem JS.qm {w w':World} {b o B:Nat} {v:Value} {q:List Int} (h:JS w b o B v q w'):∃v',QM w' b o B v' q:=by
 obtain⟨v',arr,t,arr',h1,_⟩:=h
 exact⟨v',h1⟩
theorem JS.then {w w' w2:World} {b o B:Nat} {v v':Value} {q':List Int} {arr arr':Array Value} {t:TypeId} (hB:∀k,v'.ownBlock=some k→v.ownBlock=some k∨w.heap.size≤k) (hb:But (fun k=>k=b∨v.ownBlock=some k) w w')
  (h1:w.heap[b]?=some (.cells arr t (0,0))) (h2:w'.heap[b]?=some (.cells arr' t (0,0))) (h3:arr'=arr.setIfInBounds o v') (hq:QM w2 b o B v' q') (hb2:But (fun k=>v'.ownBlock=some k) w' w2):JS w b o B v q' w2:=by
 have hne:¬v'.ownBlock=some b:=fun e=>by have:=(JQ hq.own b e).1;have:=hq.lt;omega
 refine⟨v',arr,t,arr',hq,hB,hb.then hb2 (fun i hi e=>?_),h1,(hb2.block b (Zb h2) hne).trans h2,h3⟩
 rcases hB i e with h|h
 ·exact .inr h
 omega
theorem EL {w:World} {b o B:Nat} {v:Value} {q:List Int} {arr:Array Value} {t:TypeId} (h:QM w b o B v q) (ha:w.heap[b]?=some (.cells arr t (0,0))) (hq:q.length≤10000) (x:Int) :
  Calls Tryz.prog 80 #[.iface 200 (.pointer (some ⟨b,o,none⟩)),.iface 3 (.int .i64 x)] w fun y w'=>y=.returned (.tuple #[])∧JS w b o B v (QR q x) w':=by
 have HP:=hid (uj h ha oq x)
 have mP:=fun n w=>ZbW n w ⟨b,o,none⟩
 clear h ha
 go_enter Tryz.func80,Tryz.ntmps80
 go_wp2_with (first|(go_at_call 219;refine HP.out.mono ?_;rintro y w2 ⟨rfl,v2,arr1,t1,arr2,hq2,hB2,hb2,hh1,hh2,hh3⟩;have c2:=hq2.cell;have mL:=fun n=>Zbz n c2;have HQ2:=hid hq2;have HLE:=hid (Kq v2 (q++[x]) hq2.own);have HUP:=hid (fun(W:World) (hW:W=w2)=>Zca (w:=W) (b:=b) (o:=o) (B:=B) (v:=v2) (q:=q++[x]) (hW▸hq2) (q.length+1) q.length oq (by simp) (by simp;omega));have HREST:=hid (Zh hB2 (Zh hb2 (Zh hh1 (Zh hh2 hh3))));clear hq2 hB2 hb2 hh1 hh2 hh3)|(go_at_call 63;refine HLE.out.mono ?_;rintro y w3 ⟨rfl,rfl⟩;have hll:(((q++[x]).length:Nat):Int)-1=(q.length:Int):=(by simp))|(go_at_call 121;refine(HUP.out _ rfl).mono ?_;rintro y w4 ⟨rfl,hq4,hb4⟩))
 go_end0
 obtain⟨hB2,hb2,hh1,hh2,hh3⟩:=HREST.out
 exact⟨rfl,JS.then hB2 hb2 hh1 hh2 hh3 hq4 hb4⟩
theorem et {w:World} {b o B:Nat} {v:Value} {q:List Int} {arr:Array Value} {t:TypeId} (h:QM w b o B v q) (ha:w.heap[b]?=some (.cells arr t (0,0))) (hq:q≠[]) (hql:q.length≤10000) :
  Calls Tryz.prog 81 #[.iface 200 (.pointer (some ⟨b,o,none⟩))] w fun y w'=>y=.returned (.iface 3 (.int .i64 (X9 q).1))∧JS w b o B v (X9 q).2 w':=by
 have h0:0<q.length:=by cases q with
  | nil=>exact absurd rfl hq
  | cons _ _=>simp
 obtain⟨n,hn⟩:∃n,q.length=n+1:=⟨q.length-1,oq⟩
 have c0:=h.cell
 have hblt:b<w.heap.size:=Zd h.lt h.hi
 have hvb:¬v.ownBlock=some b:=fun e=>by have:=(JQ h.own b e).1;have:=h.lt;omega
 have mL:=fun n=>Zbz n c0
 have mS:=fun n=>KH n c0
 have HLE:=hid (Kq v q h.own)
 have HSW:=hid (JX (w:=w) v q h.own 0 n oq oq)
 have hsk:XO q=Qi q.length (swp q 0 n) 0 n:=by unfold XO;rw[show q.length-1=n by omega]
 have HDN:=hid (fun(W:World) (h1:QV W B v (swp q 0 n)) (h2:But (fun k=>v.ownBlock=some k) w W) =>
  Zad (w:=W) (b:=b) (o:=o) (B:=B) (v:=v) (q:=swp q 0 n) ⟨(Zn (w:=w) (h2.block b hblt hvb)).trans h.cell,(Z6 (w:=w) (h2.block b hblt hvb)).trans h.fz,h1,h.lt,Zm h.hi h2.size⟩ q.length n (by rw[Xl];omega) oq (by rw[Xl];omega))
 rw[←hsk] at HDN
 have HPO:=hid (fun(W:World) (h1:QM W b o B v (XO q)) (h2:But (fun k=>v.ownBlock=some k) w W)=>gX (w:=W) h1 ((h2.block b hblt hvb).trans ha) (by intro e;have:=Q1 q;rw[e] at this;simp at this;omega) (by rw[Q1];omega))
 have hpp:X9 q=((XO q).getD ((XO q).length-1) 0,(XO q).take ((XO q).length-1)):=by unfold X9;rw[Q1]
 rw[hpp]
 simp only
 have HH:=hid h
 have HHA:=hid ha
 have hw1:IntKind.i64.wrap ((q.length:Int)-1)=(n:Int):=by rw[show(q.length:Int)-1=(n:Int) by omega];exact ZK _ oq
 have hw2:(q.length:Int)-1=(n:Int):=oq
 have mP:=fun n w=>ZcR n w ⟨b,o,none⟩
 obtain⟨x,hx⟩:∃x,(XO q).getD ((XO q).length-1) 0=x:=⟨_,rfl⟩
 obtain⟨q',hq'⟩:∃q',(XO q).take ((XO q).length-1)=q':=⟨_,rfl⟩
 rw[hx,hq'] at HPO ⊢
 clear h ha hq hsk hpp hx hq'
 go_enter Tryz.func81,Tryz.ntmps81
 go_wp2_with (first|(go_at_call 63;refine HLE.out.mono ?_;rintro y w3 ⟨rfl,rfl⟩)|(go_at_call 211;refine HSW.out.mono ?_;rintro y w2 ⟨rfl,hq2,hb2⟩;have HQ2:=hid hq2;have HB2:=hid hb2;clear hq2 hb2)|(go_at_call 122;refine(HDN.out _ HQ2.out HB2.out).mono ?_;rintro y w4 ⟨⟨cc,rfl⟩,hq4,hb4⟩;have HQ4:=hid hq4;have HB4:=hid (HB2.out.trans hb4);clear hq4 hb4)|(go_at_call 218;refine(HPO.out _ HQ4.out HB4.out).mono ?_;rintro y w5 ⟨rfl,hp5⟩;have HP5:=hid hp5;clear hp5))
 go_ret
 obtain⟨v5,arr1,t1,arr2,hq5,hB5,hb5,hh1,hh2,hh3⟩:=HP5.out
 have e1:=(HB4.out.block b hblt hvb).trans HHA.out
 rw[e1] at hh1
 injection hh1 with hh1
 injection hh1 with hh1 hh4 hh5
 subst hh1;subst hh4
 refine⟨rfl,v5,arr,t,arr2,hq5,fun k hk=>?_,?_,HHA.out,hh2,hh3⟩
 ·rcases hB5 k hk with h1|h1
  ·exact .inl h1
  exact .inr (Zm HB4.out.size h1)
 exact(HB4.out.imp (fun i _ e=>.inr e)).then hb5 (fun i hi e=>e)
theorem VD {w:World} (f:FD) (ai an aT al:Option Addr) (ci cn ct cl:Nat) (hf:FAP w f ai an aT al) (i:Int) (hi64:I64 i) :
  Calls Tryz.prog 76 #[fv f ai an aT al ci cn ct cl,.int .i64 i] w fun x w'=>x=.returned (VR (JB f i))∧Below w.heap.size w w':=by
 have hlens:=hf.lens
 have HF:=hid hf
 unfold I64 at hi64
 clear hf
 unfold fv
 obtain⟨ans,hans⟩:∃ans,JB f i=ans:=⟨_,rfl⟩
 rw[hans]
 go_enter Tryz.func76,Tryz.ntmps76
 go_upto_region 1 with fail
 obtain⟨W2,hW2⟩:∃W2,(w.alloc (.cells #[.slice ai f.ins.length ci,.slice an f.nods.length cn,.slice aT f.tasks.length ct,.slice al f.tells.length cl] 34)).alloc (.cells #[.int .i64 0,.int .i64 0] 62)=W2:=⟨_,rfl⟩
 rw[hW2]
 have hB:Below w.heap.size w W2:=by rw[←hW2];exact bq
 have hq0:W2.heap[w.heap.size]?=some (.cells #[.slice ai f.ins.length ci,.slice an f.nods.length cn,.slice aT f.tasks.length ct,.slice al f.tells.length cl] 34 (0,0)):=by rw[←hW2];exact(Za _ _ _ (by simp)).trans (Yp w _)
 have hq1:W2.heap[w.heap.size+1]?=some (.cells #[.int .i64 0,.int .i64 0] 62 (0,0)):=by rw[←hW2];simpa using Yp (w.alloc (.cells #[.slice ai f.ins.length ci,.slice an f.nods.length cn,.slice aT f.tasks.length ct,.slice al f.tells.length cl] 34)) (.cells #[.int .i64 0,.int .i64 0] 62)
 obtain⟨⟨x0,x1,x2,x3⟩,xf⟩:=Yq hq0
 obtain⟨⟨q0,q1⟩,qf⟩:=YB hq1
 have HB:=hid hB
 clear hW2 hB hq0 hq1
 by_cases h0:i<0
 ·obtain rfl:ans=none:=hans.symm.trans (jL h0)
  clear hans
  have h0d:¬i≥0:=oq
  go_wp2
  exact Zl (v:=VR none) (by unfold VR;simp only[results,Tryz.results76];go_simp) rfl ⟨rfl,bq⟩
 have h0d:i≥0:=oq
 by_cases h1:i<(f.ins.length:Int)
 ·obtain⟨k,rfl⟩:∃k:Nat,i=(k:Int):=⟨i.toNat,oq⟩
  have hk:k<f.ins.length:=oq
  obtain⟨b,o,rfl,hb,hc0,hc1⟩:=HF.out.ins.at hk
  obtain⟨⟨pp,ff⟩,hpf⟩:∃c,f.ins[k]=c:=⟨_,rfl⟩
  obtain rfl:ans=some (pp,ff):=hans.symm.trans ((ZbX hk).trans (Z3 some hpf))
  rw[hpf] at hc0 hc1
  simp only at hc0 hc1
  have y0:=(HB.out.cell (p:=⟨b,o+k*2,none⟩) hb).trans hc0
  have y1:=(HB.out.cell (p:=⟨b,o+k*2+1,none⟩) hb).trans hc1
  have hk0:(0:Int)≤(k:Int):=oq
  clear hc0 hc1 hpf hans
  go_wp2
  exact Zl (v:=VR (some (pp,ff))) (by unfold VR;simp only[Z9,Option.isSome_some];simp only[results,Tryz.results76];go_simp) rfl ⟨rfl,bq⟩
 have h1d:i≥(f.ins.length:Int):=oq
 by_cases h2:i-(f.ins.length:Int)<(f.tasks.length:Int)
 ·obtain⟨k,rfl⟩:∃k:Nat,i=(f.ins.length:Int)+(k:Int):=⟨(i-(f.ins.length:Int)).toNat,oq⟩
  have hk:k<f.tasks.length:=oq
  obtain⟨b,o,rfl,hb,_,hc0,hc1,_⟩:=HF.out.tasks.at hk
  obtain⟨pp,hpp⟩:∃c,f.tasks[k].per=c:=⟨_,rfl⟩
  obtain⟨ff,hff⟩:∃c,f.tasks[k].ph=c:=⟨_,rfl⟩
  obtain rfl:ans=some (pp,ff):=hans.symm.trans ((KQ hk).trans (by rw[hpp,hff]))
  rw[hpp] at hc0
  rw[hff] at hc1
  have y0:=(HB.out.cell (p:=⟨b,o+k*4+1,none⟩) hb).trans hc0
  have y1:=(HB.out.cell (p:=⟨b,o+k*4+2,none⟩) hb).trans hc1
  have hk0:(0:Int)≤(k:Int):=oq
  have hk1:(k:Int)<(f.tasks.length:Int):=oq
  have hw1:IntKind.i64.wrap ((f.ins.length:Int)+(k:Int)-(f.ins.length:Int))=(k:Int):=by rw[show(f.ins.length:Int)+(k:Int)-(f.ins.length:Int)=(k:Int) by omega];exact ZK _ oq
  have hw2:IntKind.i64.wrap ((f.ins.length:Int)+(f.tasks.length:Int))=(f.ins.length:Int)+(f.tasks.length:Int):=ZK _ oq
  have hw3:(f.ins.length:Int)+(k:Int)<(f.ins.length:Int)+(f.tasks.length:Int):=oq
  clear hc0 hc1 hpp hff hans
  go_wp2
  exact Zl (v:=VR (some (pp,ff))) (by unfold VR;simp only[Z9,Option.isSome_some];simp only[results,Tryz.results76];go_simp) rfl ⟨rfl,bq⟩
 obtain rfl:ans=none:=hans.symm.trans (j8 h0 h1 h2)
 clear hans
 have hw1:IntKind.i64.wrap (i-(f.ins.length:Int))=i-(f.ins.length:Int):=ZK _ oq
 have hw2:IntKind.i64.wrap ((f.ins.length:Int)+(f.tasks.length:Int))=(f.ins.length:Int)+(f.tasks.length:Int):=ZK _ oq
 have hw3:¬i<(f.ins.length:Int)+(f.tasks.length:Int):=oq
 go_wp2
 exact Zl (v:=VR none) (by unfold VR;simp only[results,Tryz.results76];go_simp) rfl ⟨rfl,bq⟩
open Go.RowKit Go.Sort Go.Proofs
theorem zY {w:World} {B:Nat} (v:Value) (q:List Int) (h:QV w B v q) (hl:q.length≤100000) :
  Calls Tryz.prog 70 #[v] w fun x w'=>x=.returned (.tuple #[])∧QV w' B v (q.mergeSort (fun x y=>decide (x≤y)))∧But (fun k=>v.ownBlock=some k) w w':=by
 rcases h.2 with ⟨rfl,h0⟩|⟨g,cap,cur,rfl,hb,hg,hnc,hcm,hcs,htk⟩
 ·have hq:q=[]:=Yd h0
  subst hq
  refine(Tryz.slices_Sort_int_none none 0 w).mono ?_
  rintro x w' ⟨rfl,rfl⟩
  exact⟨rfl,by simpa using h,But.refl _ _⟩
 have htk':cur.toList.take q.length=q.map (Value.int .i64):=by rw[Z8] at htk;exact htk
 refine(Tryz.slices_Sort_int g 0 cap q w (holds_of_blockI hg htk') (Zb hg) oq).mono ?_
 rintro x w' ⟨rfl,n,os,rfl⟩
 refine⟨rfl,?_,But.of_grown (grownBy_sortedI _) |>.imp (fun i _ e=>e)⟩
 have:=ownsRow_sortedI (w:=w) (base:=B) (g:=g) (cap:=cap) (n:=n) (e:=3) (os:=os) (cur:=cur) (ss:=q) (ts:=q.mergeSort (fun x y=>decide (x≤y))) (by simp) hb hg hnc hcm hcs
 unfold QV
 rw[List.length_mergeSort]
 exact this
theorem heap_put {w:World} {g n:Nat} {cur:Array Value} {e:TypeId} {fr:Nat × Nat} (d:Array Int) (hb:w.heap[g]?=some (.cells cur e fr)) :
  (putRow (Value.int .i64) (Sort.ahead w n) g 0 d).heap[g]?=some (.cells (putCells (Value.int .i64) 0 d cur) e fr):=by
 simp[putRow,mapBlock,Sort.ahead,Array.getElem?_modify,hb,onCells]
theorem yH {w:World} {g n:Nat} (d:Array Int):w.grownBy (putRow (Value.int .i64) (Sort.ahead w n) g 0 d) (some g):=by
 refine⟨rfl,rfl,rfl,by simp[putRow,mapBlock,Sort.ahead],fun k hk hne=>?_⟩
 have:g≠k:=fun e=>hne (by rw[e])
 simp[putRow,mapBlock,Sort.ahead,Array.getElem?_modify,this]
theorem U6 {w:World} {B:Nat} (v:Value) (q:List Int) (h:QV w B v q) (hl:q.length≤100000) :
  Calls Tryz.prog 71 #[v] w fun x w'=>(∃v',x=.returned v'∧QV w' B v' (Lib.compact q)∧v'.ownBlock=v.ownBlock)∧But (fun k=>v.ownBlock=some k) w w':=by
 rcases h.2 with ⟨rfl,h0⟩|⟨g,cap,cur,rfl,hb,hg,hnc,hcm,hcs,htk⟩
 ·have hq:q=[]:=Yd h0
  subst hq
  refine(Tryz.slices_Compact_int_empty none 0 w).mono ?_
  rintro x w' ⟨rfl,rfl⟩
  exact⟨⟨_,rfl,h,rfl⟩,But.refl _ _⟩
 have htk':cur.toList.take q.length=q.map (Value.int .i64):=by rw[Z8] at htk;exact htk
 refine(Tryz.slices_Compact_int g 0 cap q w (holds_of_blockI hg htk') oq hnc).mono ?_
 rintro x w' ⟨rfl,n,rfl⟩
 have hcl:=QB q
 refine⟨⟨_,rfl,⟨by simp[ints],.inr ⟨g,cap,_,rfl,hb,heap_put _ hg,oq,hcm,by simp[putCells,hcs],?_⟩⟩,rfl⟩,But.of_grown (yH _) |>.imp (fun i _ e=>e)⟩
 have h1:=take_putCellsI cur (Lib.compact q++List.replicate (q.length-(Lib.compact q).length) 0) (by simp;omega)
 have h2:=Z3 (List.take (Lib.compact q).length) h1
 rw[List.take_take,Nat.min_eq_left (by simp)] at h2
 rw[Z8,h2]
 simp[ints]
def Zce (o:Option Int):Value:=.tuple #[.int .i64 (o.getD 0),.bool o.isSome]
theorem xo {w:World} (f:FD) (ai an aT al:Option Addr) (ci cn ct cl:Nat) (hf:FAP w f ai an aT al) (i:Int) (hi64:I64 i) :
  Calls Tryz.prog 135 #[fv f ai an aT al ci cn ct cl,.int .i64 i] w fun x w'=>x=.returned (Zce (yx f i))∧Below w.heap.size w w':=by
 have hlens:=hf.lens
 have HSR:=hid (fun(W:World) (hW:Below w.heap.size w W)=>VD (w:=W) f ai an aT al ci cn ct cl (hf.below hW) i hi64)
 unfold I64 at hi64
 clear hf
 obtain⟨s,hs⟩:∃s,JB f i=s:=⟨_,rfl⟩
 rw[hs] at HSR
 have hT:yx f i=if s.isSome=true∧(f.ins.length:Int)≤i then some (i-(f.ins.length:Int)) else none:=by unfold yx;rw[hs]
 have hsub:s.isSome=true→(f.ins.length:Int)≤i→IntKind.i64.wrap (i-(f.ins.length:Int))=i-(f.ins.length:Int):=fun h1 h2=>ZK _ oq
 rw[hT]
 clear hs hT
 unfold fv at *
 cases s with
 | none =>
  unfold VR at HSR
  simp only[Option.getD_none,Option.isSome_none] at HSR
  rw[Z1 (by simp)]
  clear hsub
  go_enter Tryz.func135,Tryz.ntmps135
  go_wp2_with (go_at_call 76;refine(HSR.out _ bq).mono ?_;rintro x w2 ⟨rfl,hb2⟩;have HB2:=hid hb2;have k0:w.heap.size<w2.heap.size:=Yr hb2 oq;clear hb2)
  go_ret2
  exact⟨rfl,bq⟩
 | some c =>
  obtain⟨p0,f0⟩:=c
  unfold VR at HSR
  simp only[Z9,Option.isSome_some] at HSR
  simp only[Option.isSome_some,true_and]
  by_cases hle:(f.ins.length:Int)≤i
  ·have hw:=hsub rfl hle
   have hnl:¬i<(f.ins.length:Int):=oq
   rw[Z2 hle]
   clear hsub
   go_enter Tryz.func135,Tryz.ntmps135
   go_wp2_with (go_at_call 76;refine(HSR.out _ bq).mono ?_;rintro x w2 ⟨rfl,hb2⟩;have HB2:=hid hb2;have k0:w.heap.size<w2.heap.size:=Yr hb2 oq;obtain⟨⟨y0,y1,y2,y3⟩,yf⟩:=Yq ((hb2.block w.heap.size oq).trans (Yp w _));clear hb2)
   go_ret2
   exact⟨rfl,bq⟩
  have hnl:i<(f.ins.length:Int):=oq
  rw[Z1 hle]
  clear hsub
  go_enter Tryz.func135,Tryz.ntmps135
  go_wp2_with (go_at_call 76;refine(HSR.out _ bq).mono ?_;rintro x w2 ⟨rfl,hb2⟩;have HB2:=hid hb2;have k0:w.heap.size<w2.heap.size:=Yr hb2 oq;obtain⟨⟨y0,y1,y2,y3⟩,yf⟩:=Yq ((hb2.block w.heap.size oq).trans (Yp w _));clear hb2)
  go_ret2
  exact⟨rfl,bq⟩
theorem j3 {w:World} {l:List (Int × Int × Int)} {ad:Option Addr} (h:Row OpR 3 w l ad):index.OpA w ad l:=by
 intro k hk
 obtain⟨b,o,rfl,hb,h0,h1,h2⟩:=h.at hk
 rw[plain.getD_lt (0,0,0) hk]
 exact⟨b,o,rfl,hb,h0,h1,h2⟩
theorem km {f:FD} {t:TD} {j:Nat} (h:j<t.args.length):(t.args.take (j+1)).filterMap (QT f)=(t.args.take j).filterMap (QT f)++(match QT f t.args[j] with|some x=>[x]|none=>[]):=by
 rw[Zv h,List.filterMap_append]
 congr 1
 cases hg:QT f t.args[j]<;>simp[hg]
theorem Ua (f:FD) (l:List AD):(l.filterMap (QT f)).length≤l.length:=List.length_filterMap_le _ _
theorem vV {w:World} (f:FD) (ai an aT al:Option Addr) (ci cn ct cl:Nat) (hf:FAP w f ai an aT al) (i:Nat) (hi:i<f.tasks.length) :
  Calls Tryz.prog 107 #[fv f ai an aT al ci cn ct cl,.int .i64 (i:Int)] w fun x w'=>(∃v,x=.returned v∧QV w' w.heap.size v (YP f f.tasks[i]))∧Below w.heap.size w w':=by
 have hlens:=hf.lens
 have HTK:=hid (fun(W:World) (hW:Below w.heap.size w W) (s:Int) (hs:I64 s)=>xo (w:=W) f ai an aT al ci cn ct cl (hf.below hW) s hs)
 obtain⟨bt,ot,rfl,hbt,h0,h1,h2,ad,cap,h3,h4⟩:=hf.tasks.at hi
 have hal:=(hf.args _ (Zi hi)).1
 have hao:=(hf.args _ (Zi hi)).2
 obtain⟨t,ht⟩:∃t,f.tasks[i]=t:=⟨_,rfl⟩
 rw[ht] at h3 h4 hal hao ⊢
 have HAR:=hid h4
 have HAO:=hid hao
 have i0:(0:Int)≤(i:Int):=oq
 have i1:(i:Int)<(f.tasks.length:Int):=oq
 have i2:¬(i:Int)<0:=oq
 have i3:¬(i:Int)≥(f.tasks.length:Int):=oq
 have hb0:bt<w.heap.size:=hbt
 clear hf h0 h1 h2 h4 hao ht
 unfold fv at *
 go_enter Tryz.func107,Tryz.ntmps107
 go_wp2
 go_loopw [5,26] (fun s5 s26 wr=>Hid (∃j:Nat,s26=.int .i64 (j:Int)∧j≤t.args.length∧QV wr (w.heap.size+1) s5 ((t.args.take j).filterMap (QT f))∧wr.heap[w.heap.size]?=some (.cells #[.slice ai f.ins.length ci,.slice an f.nods.length cn,.slice (some ⟨bt,ot,none⟩) f.tasks.length ct,.slice al f.tells.length cl] 34 (0,0))∧Below w.heap.size w wr)) (fun _ s _=>t.args.length-(intOf s).toNat)
 case atStart=>exact⟨0,rfl,Zk _,Yf _ _ _ _,Yp w _,bq⟩
 obtain⟨j,rfl,hj,hown,hbox,hbel⟩:=hrel.out
 clear hrel
 obtain⟨⟨z0,z1,z2,z3⟩,zf⟩:=Yq hbox
 have HBEL:=hid hbel
 have HBOX:=hid hbox
 have hbl:=Zb hbox
 have hszr:=hbel.size
 obtain⟨ad5,cap5,rfl⟩:=Yy hown
 have HOWN:=hid hown
 have hml:=Ua f (t.args.take j)
 rw[Yb] at hml
 clear hbox hown
 by_cases hlt:j<t.args.length
 ·obtain⟨ba,oa,rfl,hba,hsrc,ado,capo,hops,hrow⟩:=HAR.out.at hlt
  have hai:=HAO.out _ (Zi hlt)
  have hmt:=km (f:=f) hlt
  have hcr:=fun o=>hbel.cell (p:=⟨ba,o,none⟩) hba
  have y0:=(hcr _).trans hsrc
  have y1:=(hcr _).trans hops
  have hj0:(0:Int)≤(j:Int):=oq
  have hj1:(j:Int)<(t.args.length:Int):=oq
  obtain⟨x,hx⟩:∃x,t.args[j]=x:=⟨_,rfl⟩
  rw[hx] at y0 y1 hai hmt hrow
  obtain⟨src,ops⟩:=x
  simp only at y0 y1 hai hrow
  have HT:=hid (fun(W:World) (hW:Below w.heap.size w W)=>HTK.out W hW src hai.2)
  have HL:=hid (fun(W:World) (hW:Below w.heap.size w W)=>index.uB ops ado capo W oq (j3 (hrow.below Uf hW)))
  have HMT:=hid hmt
  obtain⟨l5,hl5⟩:∃l5,List.filterMap (QT f) (List.take j t.args)=l5:=⟨_,rfl⟩
  rw[hl5] at HOWN HMT hml
  try rw[hl5]
  have hob:wr.heap.size<wr.heap.size+1:=ZW _
  clear hcr hsrc hops hrow hx hbel hmt hl5 HTK HAR HAO
  cases hts:yx f src with
  | none =>
   rw[hts] at HT
   have HN:=hid (show(List.filterMap (QT f) (List.take (j+1) t.args))=l5 by rw[HMT.out];unfold QT;rw[hts];simp)
   unfold Zce at HT
   simp only[Option.getD_none,Option.isSome_none] at HT
   clear hts HL HMT
   go_wp2_with (go_at_call 135;refine(HT.out _ bq).mono ?_;rintro x w2 ⟨rfl,hb2⟩;have HB2:=hid hb2;have k0:wr.heap.size<w2.heap.size:=Yr hb2 oq;have q9:=(hb2.block wr.heap.size oq).trans (Yp wr _);clear hb2)
   refine⟨hid ⟨j+1,by go_num,hlt,by rw[HN.out];exact own_below HOWN.out bq,((bq:Below wr.heap.size wr _).block _ hbl).trans HBOX.out,bq⟩,by simp[intOf];omega⟩
  | some x =>
   rw[hts] at HT
   unfold Zce at HT
   simp only[Z9,Option.isSome_some] at HT
   cases hl:ops.any Gn with
   | true =>
    have HN:=hid (show(List.filterMap (QT f) (List.take (j+1) t.args))=l5 by rw[HMT.out];unfold QT;rw[Z2 hl];simp)
    rw[show ops.any index.YR=true from hl] at HL
    clear hts hl HMT
    go_wp2_with (first|(go_at_call 135;refine(HT.out _ bq).mono ?_;rintro y w2 ⟨rfl,hb2⟩;have HB2:=hid hb2;have k0:wr.heap.size<w2.heap.size:=Yr hb2 oq;obtain⟨⟨x0,x1⟩,xf⟩:=YB ((hb2.block wr.heap.size oq).trans (Yp wr _));clear hb2)|(go_at_call 136;refine(HL.out _ bq).mono ?_;rintro y w3 ⟨rfl,hb3⟩;have HB3:=hid hb3;have k1:wr.heap.size<w3.heap.size:=Yr hb3 oq;clear hb3))
    refine⟨hid ⟨j+1,by go_num,hlt,by rw[HN.out];exact own_below HOWN.out bq,((bq:Below wr.heap.size wr _).block _ hbl).trans HBOX.out,bq⟩,by simp[intOf];omega⟩
   | false =>
    have HN:=hid (show(List.filterMap (QT f) (List.take (j+1) t.args))=l5++[x] by rw[HMT.out];unfold QT;rw[Z1 (by simp[hl]),hts])
    rw[show ops.any index.YR=false from hl] at HL
    clear hts hl HMT
    obtain⟨i0,hi0,hi1',hi2',hi3'⟩:=info_parts JK
    have HI:=hid (Zh hi0 (Zh hi1' (Zh hi2' hi3')))
    clear hi0 hi1' hi2' hi3'
    go_wp2_with (first|(go_at_call 135;refine(HT.out _ bq).mono ?_;rintro y w2 ⟨rfl,hb2⟩;have HB2:=hid hb2;have k0:wr.heap.size<w2.heap.size:=Yr hb2 oq;obtain⟨⟨x0,x1⟩,xf⟩:=YB ((hb2.block wr.heap.size oq).trans (Yp wr _));clear hb2)|(go_at_call 136;refine(HL.out _ bq).mono ?_;rintro y w3 ⟨rfl,hb3⟩;have HB3:=hid (show Below wr.heap.size wr w3 from bq);have k1:wr.heap.size<w3.heap.size:=Yr hb3 oq;clear hb3)|(refine lite.XC _ (by rfl) _ _ _ (by rfl) (w.heap.size+1) 3 i0 _ 1 8 Tryz.underlying41 HI.out.1 HI.out.2.1 HI.out.2.2.1 HI.out.2.2.2 rfl oq (.slice ad5 l5.length cap5) l5.length (ints l5) (by rfl) (own_below HOWN.out bq) (some ⟨w3.heap.size,0,none⟩) 1 1 [.int .i64 x] (by rfl) (by rfl) (fun j u h=>⟨_,rfl,World.news_of_block (Zz _ _) j u h⟩) (by simp[Value.oneCell']) (by unfold maxLen;omega) oq oq ?_;intro v4 w4 hown4 hg4 hl4;have HO4:=hid hown4;have hb4:But (fun k=>(Value.slice ad5 l5.length cap5).ownBlock=some k) w3 w4:=(But.of_below ((Zg _ _).alloc (Zc _) _)).then (But.of_grown hg4) (fun _ _ e=>e);have HB4:=hid hb4;clear hown4 hg4 hl4 hb4))
    have hge:=World.ownsRow.lt HOWN.out
    have hb5:But (fun k=>(Value.slice ad5 l5.length cap5).ownBlock=some k) wr w4:=(But.of_below HB3.out).then HB4.out (fun _ _ e=>e)
    refine⟨hid ⟨j+1,by go_num,hlt,?_,(hb5.block _ hbl (fun e=>by have:=(hge _ e).1;omega)).trans HBOX.out,HBEL.out.trans (hb5.below hszr (fun k hk=>Nat.le_of_succ_le (hge k hk).1))⟩,by simp[intOf];omega⟩
    rw[HN.out]
    unfold QV
    rw[Zx,←Jq]
    exact HO4.out
 have hjn:j=t.args.length:=oq
 subst hjn
 rw[ZS] at HOWN
 have HS:=hid (zY (w:=wr) _ _ (show QV wr (w.heap.size+1) (.slice ad5 _ cap5) (Ed f t) from HOWN.out) (by have:=Ua f t.args;unfold Ed;omega))
 have HC:=hid (fun(W:World) (v:Value) (hW:QV W (w.heap.size+1) v ((Ed f t).mergeSort (fun x y=>decide (x≤y))))=>U6 (w:=W) v _ hW (by have:=Ua f t.args;rw[List.length_mergeSort];unfold Ed;omega))
 have hge:=hid (World.ownsRow.lt HOWN.out)
 have hjl:¬(t.args.length:Int)<(t.args.length:Int):=oq
 clear hbel
 go_wp2_with (first|(go_at_call 70;refine HS.out.mono ?_;rintro y w2 ⟨rfl,hq2,hb2⟩;have HQ2:=hid hq2;have HB2:=hid hb2;clear hq2 hb2)|(go_at_call 71;refine(HC.out _ _ HQ2.out).mono ?_;rintro y w3 ⟨⟨v3,rfl,hq3,hv3⟩,hb3⟩;have HQ3:=hid hq3;have HB3:=hid hb3;clear hq3 hb3 hv3))
 go_ret
 exact⟨⟨_,rfl,Xg HQ3.out (Nat.le_succ _)⟩,HBEL.out.trans ((HB2.out.trans HB3.out).below hszr (fun k hk=>Nat.le_of_succ_le (hge.out k hk).1))⟩
theorem qu {F:Fence} {n l:Nat} {P:Program} {o:Oper} {a:Act} {w:World} {K:Act→World→Prop} {Q:Exit→Act→World→Prop} (hro:F.round=none) (hd:∀c,o.op≠.defer c) (h:o.wpIn F n P a w K Q):o.wpIn (F.inRound l) n P a w K Q:=by
 unfold Oper.wpIn at *
 rw[hro,Oper.semAt_none] at h
 rw[Oper.semAt_eq _ _ _ hd]
 refine⟨h.1,?_⟩
 have h2:=h.2
 generalize (execOp a.eval o).run P w=r at *
 cases r with
 | ok x w'=>cases x<;>exact h2
 | halt x w'=>cases x<;>exact h2
theorem Ee {F:Fence} {n l:Nat} {P:Program} {md:Region.Mode} {ops:Array Oper} {Q:Exit→Act→World→Prop} (hro:F.round=none) (hd:∀(i:Nat) (o:Oper),ops[i]?=some o→∀c,o.op≠.defer c) :
  ∀(fuel:Nat) (listed:Array Bool) (a:Act) (w:World),wpAnyIn F n P md ops Q fuel listed a w→wpAnyIn (F.inRound l) n P md ops Q fuel listed a w:=by
 intro fuel
 induction fuel with
 | zero=>intro listed a w h;exact h
 | succ fuel ih =>
  intro listed a w h
  refine⟨h.1,fun i hi=>?_⟩
  have h1:=wpOpIn_mono (fun a' w' h'=>ih (listed.setIfInBounds i true) a' w' h') (h.2 i hi)
  unfold wpOpIn at *
  cases ho:ops[i]? with
  | none=>simp only[ho] at h1 ⊢;exact h1
  | some o =>
   simp only[ho] at h1 ⊢
   split
   ·rename_i hw
    simp only[hw,if_true] at h1
    exact qu hro (hd i o ho) h1
   rename_i hw
   simp only[hw] at h1
   exact h1
def Up (o:Oper):Bool:=match o.op with|.defer _=>false|_=>true
theorem VY {n l id:Nat} {P:Program} {ops:Array Oper} {Q:Exit→Act→World→Prop} {a:Act} {w:World} (hm:P.follows .mixedOrders=true) (hd:ops.toList.all Up=true)
  (h:wpAnyIn Fence.wide n P .any ops Q ops.size (Array.replicate ops.size false) a { w with drawn:=w.drawn+1 }):(Code.region id ops true).wpIn (Fence.wide.inRound l) n P Q a w:=by
 refine wpIn_region_any hm (Ee rfl (fun i o ho c e=>?_) _ _ _ _ h)
 have hmem:o∈ops.toList:=by
  have:=Array.mem_of_getElem? ho
  simpa using this
 have:=List.all_eq_true.1 hd o hmem
 unfold Up at this
 rw[e] at this
 cases this
theorem yq {n:Nat} {P:Program} {row:String} {args:Array Value} {w:World} {R:Value→World→Prop} (h:Rows P row args w R):RowsIn Fence.wide n P row args w R :=
 fun c cs _=>let ⟨v,w',r,s⟩:=h c cs;⟨v,w',r,stepsIn_wide.2 s⟩
theorem qF {n:Nat} {P:Program} {o:Oper} {a:Act} {w:World} {K:Act→World→Prop} {Q:Exit→Act→World→Prop} (h:o.wp P a w K Q):o.wpIn Fence.wide n P a w K Q:=by
 unfold Oper.wpIn Oper.wp at *
 refine⟨fun _ _=>trivial,?_⟩
 rw[show(Fence.wide).round=none from rfl,Oper.semAt_none]
 generalize (execOp a.eval o).run P w=r at *
 cases r with
 | ok x w' =>
  cases x<;>first|exact h|exact⟨(fun k=>nomatch k),callsIn_wide.2 h⟩|exact⟨(fun k=>nomatch k),yq h⟩|exact h.elim
 | halt x w'=>cases x<;>first|exact h|exact h.elim
theorem EX {n:Nat} {P:Program} {ops:Array Oper} {Q:Exit→Act→World→Prop} {i:Nat} {K:Act→World→Prop} {a:Act} {w:World} (hlet:¬LetsOut Q) (h:wpOp P ops Q i K a w):wpOpIn Fence.wide n P ops Q i K a w:=by
 unfold wpOp at h
 unfold wpOpIn
 cases ho:ops[i]? with
 | none=>simp only[ho] at h ⊢;exact h
 | some o =>
  simp only[ho] at h ⊢
  split
  ·rename_i hw
   simp only[hw,if_true] at h
   exact qF (h.resolve_right (fun k=>hlet k.2))
  rename_i hw
  simp only[hw] at h
  exact⟨fun _ _=>trivial,h⟩
theorem Vu {n:Nat} {P:Program} {md:Region.Mode} {ops:Array Oper} {Q:Exit→Act→World→Prop} (hlet:¬LetsOut Q) :
  ∀(fuel:Nat) (listed:Array Bool) (a:Act) (w:World),wpAny P md ops Q fuel listed a w→wpAnyIn Fence.wide n P md ops Q fuel listed a w:=by
 intro fuel
 induction fuel with
 | zero=>intro listed a w h;exact h
 | succ fuel ih =>
  intro listed a w h
  exact⟨h.1,fun i hi=>wpOpIn_mono (fun a' w' h'=>ih _ a' w' h') (EX hlet (h.2 i hi))⟩
theorem UE {ℓ n id:Nat} {P:Program} {Q:Exit→Act→World→Prop} {a:Act} {w:World} {l:List Oper} (k:Nat) (hm:P.follows .mixedOrders=true) (hd:l.all Up=true) (hlet:¬LetsOut Q) (hB:Region.lexTailB .any l.toArray k=true)
  (h:wpStill P l.toArray { w with drawn:=w.drawn+1 } (fun a'=>wpList P l.toArray Q (l.drop k) a' { w with drawn:=w.drawn+1 }) (l.take k) a):(Code.region id l.toArray true).wpIn (Fence.wide.inRound ℓ) n P Q a w:=by
 simp only[Region.lexTailB,Bool.and_eq_true,decide_eq_true_eq] at hB
 obtain⟨⟨⟨⟨hsel,hn⟩,hs⟩,hc⟩,hlex⟩:=hB
 have hn':k<l.length:=by simpa using hn
 have htl:(l.take k).length=k:=by simp;omega
 have hdl:(l.drop k).length=l.toArray.size-k:=by simp
 have inv0:HeadInv .any l.toArray k (Array.replicate l.toArray.size false) :=
  ⟨by simp,fun j oj _ hl=>(by rw[getD_replicate_false] at hl;cases hl),fun t _ ht=>getD_in (by simpa using ht) (getD_replicate_false _ _)⟩
 have H:=wpAnyL_lex (md:=.any) (g:=l.toArray.size-k) hsel hs hc hn (l.take k) 0 _ a (fun j hj=>by
  have hj':j<k:=by rw[htl] at hj;exact hj
  simp[hj']) (by simpa using htl) inv0 (by rw[htl];exact hlex) h
 refine VY hm (by simpa using hd) (Vu hlet _ _ _ _ ?_)
 have:=wpAny_of_head (Q':=Q) (g:=l.toArray.size-k) (fun listed a' hL=>by
  have:=wpAny_of_seq (md:=.any) (Q':=Q) (l.drop k) k listed a' { w with drawn:=w.drawn+1 } (fun j=>by simp[List.getElem?_drop]) (by rw[hdl];exact hL.1) hL.2
  rwa [hdl] at this) _ _ _ H
 rw[htl,show k+(l.toArray.size-k)=l.toArray.size by omega] at this
 exact this
theorem kh {ℓ n id:Nat} {P:Program} {ops:Array Oper} {Q:Exit→Act→World→Prop} {a:Act} {w:World} (hm:P.follows .mixedOrders=true) (hd:ops.toList.all Up=true) (hlet:¬LetsOut Q)
  (h:wpAny P .any ops Q ops.size (Array.replicate ops.size false) a { w with drawn:=w.drawn+1 }):(Code.region id ops true).wpIn (Fence.wide.inRound ℓ) n P Q a w :=
 VY hm hd (Vu hlet _ _ _ _ h)
end Go.Proofs.YtgigilkpndhddaaGreatDoor.syn
