/- Parts of the proof. -/
import Derived.Deep.OwnRows
import Derived.Sort.OwnSortedInts
import Derived.Test.YtdgifkjaflfdeaaGreatDoorX16
import Derived.Test.YtdgifkjaflfdeaaGreatDoorX27
set_option linter.all false
set_option maxRecDepth 100000
set_option maxHeartbeats 16000000
namespace Go.Proofs.YtdgifkjaflfdeaaGreatDoor.syn
open Tryz
open Go.RowKit Go.Sort Go.Proofs
theorem j5{w:World}{B:Nat}(v:Value)(q:List Int)(h:QV w B v q)(m:q.length<=100000) :
  Calls prog 111 #[v] w fun x w'=>x=.returned (.tuple #[])/\QV w' B v (q.mergeSort (fun x y=>decide (x<=y)))/\But (fun k=>v.ownBlock=some k) w w':=by
 rcases h.2 with ⟨rfl,h0⟩|⟨g,cap,cur,rfl,hb,hg,hnc,hcm,hcs,htk⟩
 .have j:q=[]:=Ye h0;subst j;refine(Tryz.slices_Sort_int_none none 0 w).mono ?_;rintro x w' ⟨rfl,rfl⟩;exact⟨rfl,by simpa using h,But.refl _ _⟩
 have f:cur.toList.take q.length=q.map (Value.int .i64):=by rw[Z9] at htk;exact htk
 refine(Tryz.slices_Sort_int g 0 cap q w (holds_of_blockI hg f) (Zb hg) oq).mono ?_;rintro x w' ⟨rfl,n,os,rfl⟩;refine⟨rfl,?_,But.of_grown (grownBy_sortedI _) |>.imp (fun i _ e=>e)⟩;have:=ownsRow_sortedI (w:=w) (base:=B) (g:=g) (cap:=cap) (n:=n) (e:=3) (os:=os) (cur:=cur) (ss:=q) (ts:=q.mergeSort (fun x y=>decide (x<=y))) (by simp) hb hg hnc hcm hcs;unfold QV;rw[List.length_mergeSort];exact this
theorem heap_put{w:World}{g n:Nat}{cur:Array Value}{e:TypeId}{f:Nat × Nat}(d:Array Int)(hb:w.1[g]?=some (.cells cur e f)) :
  (putRow (Value.int .i64) (Sort.ahead w n) g 0 d).1[g]?=some (.cells (putCells (Value.int .i64) 0 d cur) e f):=by
 simp[putRow,mapBlock,Sort.ahead,Array.getElem?_modify,hb,onCells]
theorem qy{w:World}{g n:Nat}(d:Array Int):w.grownBy (putRow (Value.int .i64) (Sort.ahead w n) g 0 d) (some g):=by
 refine⟨rfl,rfl,rfl,by simp[putRow,mapBlock,Sort.ahead],fun k hk hne=>?_⟩;have:g≠k:=fun e=>hne (by rw[e])
 simp[putRow,mapBlock,Sort.ahead,Array.getElem?_modify,this]
theorem Gf{w:World}{B:Nat}(v:Value)(q:List Int)(h:QV w B v q)(A:q.length<=100000) :
  Calls prog 112 #[v] w fun x w'=>(∃v',x=.returned v'/\QV w' B v' (Lib.compact q)/\v'.ownBlock=v.ownBlock)/\But (fun k=>v.ownBlock=some k) w w':=by
 rcases h.2 with ⟨rfl,h0⟩|⟨g,cap,cur,rfl,hb,hg,hnc,hcm,hcs,htk⟩
 .have z:q=[]:=Ye h0;subst z;refine(Tryz.slices_Compact_int_empty none 0 w).mono ?_;rintro x w' ⟨rfl,rfl⟩;exact⟨⟨_,rfl,h,rfl⟩,But.refl _ _⟩
 have f:cur.toList.take q.length=q.map (Value.int .i64):=by rw[Z9] at htk;exact htk
 refine(Tryz.slices_Compact_int g 0 cap q w (holds_of_blockI hg f) oq hnc).mono ?_;rintro x w' ⟨rfl,n,rfl⟩;have y:=QZ q;refine⟨⟨_,rfl,⟨by simp[ints],.inr ⟨g,cap,_,rfl,hb,heap_put _ hg,oq,hcm,by simp[putCells,hcs],?_⟩⟩,rfl⟩,But.of_grown (qy _) |>.imp (fun i _ e=>e)⟩;have m:=take_putCellsI cur (Lib.compact q++List.replicate (q.length-(Lib.compact q).length) 0) (by simp;omega);have j:=Z4 (List.take (Lib.compact q).length) m;rw[List.take_take,Nat.min_eq_left (by simp)] at j;rw[Z9,j];simp[ints]
def Zgt(o:Option Int):Value:=.tuple #[.int .i64 (o.getD 0),.bool o.isSome]
theorem jD{w:World}(f:FD)(z an y A:OA)(G H I cl:Nat)(C:FAP w f z an y A)(i:Int)(m:I64 i) :
  Calls prog 212 #[fv f z an y A G H I cl,.int .i64 i] w fun x w'=>x=.returned (Zgt (ve f i))/\Below w.1.size w w':=by
 have D:=C.lens;have g:=hid (fun(W:World) (hW:Below w.1.size w W)=>Uu (w:=W) f z an y A G H I cl (C.below hW) i m);unfold I64 at m;clear C;obtain⟨s,F⟩:=ez (XV f i);rw[F] at g;have J:ve f i=if s.isSome=true/\(f.ins.length:Int)<=i then some (i-(f.ins.length:Int)) else none:=by unfold ve;rw[F]
 have j:s.isSome=true->(f.ins.length:Int)<=i->IntKind.i64.wrap (i-(f.ins.length:Int))=i-(f.ins.length:Int):=fun h1 h2=>ZL _ oq
 rw[J];clear F J;unfold fv at *
 cases s with
 | none =>
  unfold Uv at g;simp only[Option.getD_none,Option.isSome_none] at g;rw[Z2 (by simp)];clear j;go_enter func212,ntmps212;go_wp2_with (go_at_call 169;refine(g.o _ bq).mono ?_;rintro x v ⟨rfl,hb2⟩;have HB2:=hid hb2;have L:w.1.size<v.1.size:=Yz hb2 oq;clear hb2);go_ret2;exact⟨rfl,bq⟩
 | some c =>
  obtain⟨Y,V⟩:=c;unfold Uv at g;simp only[Ya,Option.isSome_some] at g;simp only[Option.isSome_some,true_and];by_cases q:(f.ins.length:Int)<=i
  .have X:=j rfl q;have E:¬i<(f.ins.length:Int):=oq;rw[Z3 q];clear j;go_enter func212,ntmps212;go_wp2_with (go_at_call 169;refine(g.o _ bq).mono ?_;rintro x v ⟨rfl,hb2⟩;have HB2:=hid hb2;have L:w.1.size<v.1.size:=Yz hb2 oq;obtain⟨⟨M,O,R,T⟩,U⟩:=Yy ((hb2.block w.1.size oq).trans (Yx w _));clear hb2);go_ret2;exact⟨rfl,bq⟩
  have E:i<(f.ins.length:Int):=oq;rw[Z2 q];clear j;go_enter func212,ntmps212;go_wp2_with (go_at_call 169;refine(g.o _ bq).mono ?_;rintro x v ⟨rfl,hb2⟩;have HB2:=hid hb2;have L:w.1.size<v.1.size:=Yz hb2 oq;obtain⟨⟨M,O,R,T⟩,U⟩:=Yy ((hb2.block w.1.size oq).trans (Yx w _));clear hb2);go_ret2;exact⟨rfl,bq⟩
open Go.RowKit
theorem gX{w:World}{l:List (Int × Int × Int)}{f:OA}(h:Row OpR 3 w l f):index.OpA w f l:=by
 intro k g;obtain⟨b,o,rfl,hb,j,m,q⟩:=h.at g;rw[plain.getD_lt (0,0,0) g];exact⟨b,o,rfl,hb,j,m,q⟩
theorem ZcG{f:FD}{t:TD}{j:Nat}(h:j<t.args.length):(t.args.take (j+1)).filterMap (Jc f)=(t.args.take j).filterMap (Jc f)++(match Jc f t.args[j] with|some x=>[x]|none=>[]):=by
 rw[Zw h,List.filterMap_append];congr 1
 cases hg:Jc f t.args[j]<;>simp[hg]
theorem U3(f:FD)(l:List AD):(l.filterMap (Jc f)).length<=l.length:=List.length_filterMap_le _ _
theorem Zas{w:World}(f:FD)(ai an aT al:OA)(ci cn ct cl:Nat)(hf:FAP w f ai an aT al)(i:Nat)(hi:i<f.tasks.length) :
  Calls prog 173 #[fv f ai an aT al ci cn ct cl,.int .i64 (i:Int)] w fun x w'=>(∃v,x=.returned v/\QV w' w.1.size v (Y6 f f.tasks[i]))/\Below w.1.size w w':=by
 have bc:=hf.lens;have ag:=hid (fun(W:World) (hW:Below w.1.size w W) (s:Int) (hs:I64 s)=>jD (w:=W) f ai an aT al ci cn ct cl (hf.below hW) s hs);obtain⟨bt,ot,rfl,ay,h0,h1,h2,ad,cap,h3,h4⟩:=hf.tasks.at hi;have aw:=(hf.args _ (Zi hi)).1;have Y:=(hf.args _ (Zi hi)).2;obtain⟨t,ht⟩:=ez (f.tasks[i]);rw[ht] at h3 h4 aw Y ⊢;have af:=hid h4;have ae:=hid Y;have i0:(0:Int)<=(i:Int):=oq;have i1:(i:Int)<(f.tasks.length:Int):=oq;have i2:¬(i:Int)<0:=oq;have i3:¬(i:Int)>=(f.tasks.length:Int):=oq;have be:bt<w.1.size:=ay;clear hf h0 h1 h2 h4 Y ht;unfold fv at *;go_enter func173,ntmps173;go_wp2;go_loopw [5,26] (fun s5 s26 wr=>Hid (∃j:Nat,s26=.int .i64 (j:Int)/\j<=t.args.length/\QV wr (w.1.size+1) s5 ((t.args.take j).filterMap (Jc f))/\wr.1[w.1.size]?=some (.cells #[.slice ai f.ins.length ci,.slice an f.nods.length cn,.slice (some ⟨bt,ot,none⟩) f.tasks.length ct,.slice al f.tells.length cl] 35 (0,0))/\Below w.1.size w wr)) (fun _ s _=>t.args.length-(intOf s).toNat)
 case atStart=>exact⟨0,rfl,Zk _,Yg _ _ _ _,Yx w _,bq⟩
 obtain⟨j,rfl,hj,E,z,hbel⟩:=hrel.o;clear hrel;obtain⟨⟨z0,z1,z2,z3⟩,zf⟩:=Yy z;have HBEL:=hid hbel;have D:=hid z;have Z:=Zb z;have U:=hbel.size;obtain⟨H,q,rfl⟩:=YC E;have g:=hid E;have am:=U3 f (t.args.take j);rw[Yc] at am;clear z E;by_cases C:j<t.args.length
 .obtain⟨ba,oa,rfl,ax,T,av,ah,R,A⟩:=af.o.at C;have X:=ae.o _ (Zi C);have ac:=ZcG (f:=f) C;have aa:=fun o=>hbel.cell (p:=⟨ba,o,none⟩) ax
  have y0:=(aa _).trans T;have y1:=(aa _).trans R;have bf:(0:Int)<=(j:Int):=oq;have bg:(j:Int)<(t.args.length:Int):=oq;obtain⟨x,hx⟩:=ez (t.args[j]);rw[hx] at y0 y1 X ac A;obtain⟨src,J⟩:=x;simp only at y0 y1 X A;have G:=hid (fun(W:World) (hW:Below w.1.size w W)=>ag.o W hW src X.2);have HL:=hid (fun(W:World) (hW:Below w.1.size w W)=>index.KI J av ah W oq (gX (A.below VK hW)));have m:=hid ac;obtain⟨V,ab⟩:=ez (List.filterMap (Jc f) (List.take j t.args));rw[ab] at g m am
  try rw[ab]
  have bi:wr.1.size<wr.1.size+1:=ZX _;clear aa T R A hx hbel ac ab ag af ae
  cases hts:ve f src with
  | none =>
   rw[hts] at G;have HN:=hid (show(List.filterMap (Jc f) (List.take (j+1) t.args))=V by rw[m.o];unfold Jc;rw[hts];simp);unfold Zgt at G;simp only[Option.getD_none,Option.isSome_none] at G;clear hts HL m;go_wp2_with (go_at_call 212;refine(G.o _ bq).mono ?_;rintro x w2 ⟨rfl,hb2⟩;have HB2:=hid hb2;have k0:wr.1.size<w2.1.size:=Yz hb2 oq;have q9:=(hb2.block wr.1.size oq).trans (Yx wr _);clear hb2);refine⟨hid ⟨j+1,by go_num,C,by rw[HN.o];exact own_below g.o bq,((bq:Below wr.1.size wr _).block _ Z).trans D.o,bq⟩,by simp[intOf];omega⟩
  | some x =>
   rw[hts] at G;unfold Zgt at G;simp only[Ya,Option.isSome_some] at G
   cases hl:J.any Er with
   | true =>
    have HN:=hid (show(List.filterMap (Jc f) (List.take (j+1) t.args))=V by rw[m.o];unfold Jc;rw[Z3 hl];simp);rw[show J.any index.Xa=true from hl] at HL;clear hts hl m;go_wp2_with (first|(go_at_call 212;refine(G.o _ bq).mono ?_;rintro y w2 ⟨rfl,hb2⟩;have HB2:=hid hb2;have k0:wr.1.size<w2.1.size:=Yz hb2 oq;obtain⟨⟨x0,x1⟩,xf⟩:=YI ((hb2.block wr.1.size oq).trans (Yx wr _));clear hb2)|(go_at_call 213;refine(HL.o _ bq).mono ?_;rintro y w3 ⟨rfl,hb3⟩;have HB3:=hid hb3;have k1:wr.1.size<w3.1.size:=Yz hb3 oq;clear hb3));refine⟨hid ⟨j+1,by go_num,C,by rw[HN.o];exact own_below g.o bq,((bq:Below wr.1.size wr _).block _ Z).trans D.o,bq⟩,by simp[intOf];omega⟩
   | false =>
    have HN:=hid (show(List.filterMap (Jc f) (List.take (j+1) t.args))=V++[x] by rw[m.o];unfold Jc;rw[Z2 (by simp[hl]),hts]);rw[show J.any index.Xa=false from hl] at HL;clear hts hl m;obtain⟨i0,ak,L,M,O⟩:=info_parts JK;have HI:=hid (Zh ak (Zh L (Zh M O)));clear ak L M O;go_wp2_with (first|(go_at_call 212;refine(G.o _ bq).mono ?_;rintro y w2 ⟨rfl,hb2⟩;have HB2:=hid hb2;have k0:wr.1.size<w2.1.size:=Yz hb2 oq;obtain⟨⟨x0,x1⟩,xf⟩:=YI ((hb2.block wr.1.size oq).trans (Yx wr _));clear hb2)|(go_at_call 213;refine(HL.o _ bq).mono ?_;rintro y w3 ⟨rfl,hb3⟩;have HB3:=hid (show Below wr.1.size wr w3 from bq);have k1:wr.1.size<w3.1.size:=Yz hb3 oq;clear hb3)|(refine lite.YP _ (by rfl) _ _ _ (by rfl) (w.1.size+1) 3 i0 _ 1 8 underlying44 HI.o.1 HI.o.2.1 HI.o.2.2.1 HI.o.2.2.2 rfl oq (.slice H V.length q) V.length (ints V) (by rfl) (own_below g.o bq) (some ⟨w3.1.size,0,none⟩) 1 1 [.int .i64 x] (by rfl) (by rfl) (fun j u h=>⟨_,rfl,World.news_of_block (ZA _ _) j u h⟩) (by simp[Value.oneCell']) (by unfold maxLen;omega) oq oq ?_;intro v4 w4 F aj bb;have aq:=hid F;have hb4:But (fun k=>(Value.slice H V.length q).ownBlock=some k) w3 w4:=(But.of_below ((Zg _ _).alloc (Zc _) _)).then (But.of_grown aj) (fun _ _ e=>e);have HB4:=hid hb4;clear F aj bb hb4));have I:=World.ownsRow.lt g.o;have hb5:But (fun k=>(Value.slice H V.length q).ownBlock=some k) wr w4:=(But.of_below HB3.o).then HB4.o (fun _ _ e=>e);refine⟨hid ⟨j+1,by go_num,C,?_,(hb5.block _ Z (fun e=>by have:=(I _ e).1;omega)).trans D.o,HBEL.o.trans (hb5.below U (fun k hk=>Nat.le_of_succ_le (I k hk).1))⟩,by simp[intOf];omega⟩;rw[HN.o];unfold QV;rw[Zy,<-Jt];exact aq.o
 have az:j=t.args.length:=oq;subst az;rw[ZT] at g;have HS:=hid (j5 (w:=wr) _ _ (show QV wr (w.1.size+1) (.slice H _ q) (zt f t) from g.o) (by have:=U3 f t.args;unfold zt;omega));have HC:=hid (fun(W:World) (v:Value) (hW:QV W (w.1.size+1) v ((zt f t).mergeSort (fun x y=>decide (x<=y))))=>Gf (w:=W) v _ hW (by have:=U3 f t.args;rw[List.length_mergeSort];unfold zt;omega));have I:=hid (World.ownsRow.lt g.o);have bh:¬(t.args.length:Int)<(t.args.length:Int):=oq;clear hbel;go_wp2_with (first|(go_at_call 111;refine HS.o.mono ?_;rintro y w2 ⟨rfl,ao,hb2⟩;have ar:=hid ao;have HB2:=hid hb2;clear ao hb2)|(go_at_call 112;refine(HC.o _ _ ar.o).mono ?_;rintro y w3 ⟨⟨v3,rfl,ap,bd⟩,hb3⟩;have au:=hid ap;have HB3:=hid hb3;clear ap hb3 bd));go_ret;exact⟨⟨_,rfl,Xq au.o (Nat.le_succ _)⟩,HBEL.o.trans ((HB2.o.trans HB3.o).below U (fun k hk=>Nat.le_of_succ_le (I.o k hk).1))⟩
theorem xv(l:List Value)(i:Nat)(u:Value):l.toArray.setIfInBounds i u=(l.set i u).toArray:=by simp
structure WaM (W2 W:World) (T wb mb rb:Nat) (vq:Value) (vs:List Value) (s:WS):Prop where
 but:But (fun k=>k=mb\/k=rb\/k=wb) W2 W
 lt:mb<W2.1.size/\rb<W2.1.size/\wb<W2.1.size
 ne:mb≠rb/\mb≠wb/\rb≠wb
 box:W.1[wb]?=some (.cells #[vq,.slice (some ⟨mb,0,none⟩) T T,.slice (some ⟨rb,0,none⟩) T T] 203 (0,0))
 many:W.1[mb]?=some (.cells (ints s.many).toArray 3 (0,0))
 rds:W.1[rb]?=some (.cells vs.toArray 44 (0,0))
 fam:Fam W W2.1.size 3 (vq::vs) (ints s.q::s.rd.map ints)
 ok:WOk T s
variable {W2 W W':World} {T wb mb rb:Nat} {vq:Value} {vs:List Value} {s:WS}
theorem WaM.vlen(h:WaM W2 W T wb mb rb vq vs s):vs.length=T:=by
 have:=h.fam.len;simpa [h.ok.rd] using this
theorem WaM.size(h:WaM W2 W T wb mb rb vq vs s):W2.1.size<=W.1.size:=h.but.size
theorem WaM.turn(h:WaM W2 W T wb mb rb vq vs s)(hb:Below W.1.size W W'):WaM W2 W' T wb mb rb vq vs s:=by
 have f:=h.lt;have g:=h.size;exact⟨h.but.trans (But.of_below hb),h.lt,h.ne,(hb.block _ oq).trans h.box,(hb.block _ oq).trans h.many,(hb.block _ oq).trans h.rds,h.fam.below hb,h.ok⟩
theorem WaM.manyAt(h:WaM W2 W T wb mb rb vq vs s){t:Nat}(ht:t<T):W.cell? ⟨mb,t,none⟩=some (.int .i64 (s.many.getD t 0))/\W.frozen? ⟨mb,t,none⟩=false:=by
 refine⟨?_,by simp[World.frozen?,h.many]⟩;rw[Z8 W mb t _ _ (0,0) h.many,List.getElem?_toArray];exact ints_at (by rw[h.ok.many];exact ht)
theorem WaM.rdAt(h:WaM W2 W T wb mb rb vq vs s){t:Nat}(ht:t<T):∃v,vs[t]?=some v/\W.cell? ⟨rb,t,none⟩=some v/\W.frozen? ⟨rb,t,none⟩=false/\QV W W2.1.size v (s.rd.getD t []):=by
 have f:t<vs.length:=by rw[h.vlen];exact ht
 have g:t<s.rd.length:=by rw[h.ok.rd];exact ht
 refine⟨vs[t],Ze f,?_,by simp[World.frozen?,h.rds],?_⟩
 .rw[Z8 W rb t _ _ (0,0) h.rds,List.getElem?_toArray,Ze f]
 have j:=h.fam.own (t+1) vs[t] (ints (s.rd.getD t [])) (by rw[List.getElem?_cons_succ,Ze f]) (by rw[List.getElem?_cons_succ,List.getElem?_map,Ze g,Zf,Ze g];rfl);rw[Q1] at j;exact j
theorem WaM.setMany(h:WaM W2 W T wb mb rb vq vs s)(t:Nat)(x:Int):WaM W2 (W.setCell ⟨mb,t,none⟩ (.int .i64 x)) T wb mb rb vq vs ⟨s.q,s.many.set t x,s.rd⟩:=by
 have f:=h.ne;refine⟨h.but.trans (But.set (S:=fun k=>k=mb\/k=rb\/k=wb) (.inl rfl) _),h.lt,h.ne,(Zr _ _ _ _ (fun e=>f.2.1 e.symm)).trans h.box,?_,(Zr _ _ _ _ (fun e=>f.1 e.symm)).trans h.rds,h.fam.set h.lt.1 _,⟨h.ok.q,by simp[h.ok.many],h.ok.rd,h.ok.rds⟩⟩;have:=Zj W mb t (ints s.many).toArray 3 (.int .i64 x) h.many;rw[xv,ints_set] at this;exact this
theorem WaM.qm(h:WaM W2 W T wb mb rb vq vs s):QM W wb 0 W2.1.size vq s.q:=by
 refine⟨?_,by simp[World.frozen?,h.box],?_,h.lt.2.2,h.size⟩
 .rw[Z8 W wb 0 _ _ (0,0) h.box];rfl
 have:=h.fam.own 0 vq (ints s.q) rfl rfl;rw[Q1] at this;exact this
theorem WaM.queue(h:WaM W2 W T wb mb rb vq vs s){m:List Int}(F:Ub W wb 0 W2.1.size vq m W')(G:∀x∈m,0<=x/\x<(T:Int)):∃vq',WaM W2 W' T wb mb rb vq' vs ⟨m,s.many,s.rd⟩/\(∀k,vq'.ownBlock=some k->vq.ownBlock=some k\/W.1.size<=k)/\But (fun k=>k=wb\/vq.ownBlock=some k) W W':=by
 obtain⟨vq',arr,t,v,q,y,hb,f,A,C⟩:=F;rw[h.box] at f;injection f with f
 injection f with f h4 _
 subst f;subst h4;have g:=h.lt;have z:=h.ne;have H:=h.size;have j:=Vt h.qm.own;have hold:∀k,k<W2.1.size->k≠wb->W'.1[k]?=W.1[k]?:=fun k hk hne=>hb.block k oq (fun e=>by
  rcases e with e|e
  .exact hne e
  have:=(j k e).1;omega)
 refine⟨vq',⟨h.but.then hb (fun i hi e=>?_),h.lt,h.ne,?_,(hold mb g.1 z.2.1).trans h.many,(hold rb g.2.1 z.2.2).trans h.rds,?_,⟨G,h.ok.many,h.ok.rd,h.ok.rds⟩⟩,y,hb⟩
 .rcases e with e|e
  .exact .inr (.inr e)
  have:=(j i e).1;omega
 .rw[A,C,xv];rfl
 have E:W'.ownsRow W2.1.size 3 1 vq' (ints m).length (ints m):=by rw[Q1];exact q.own
 have D:=h.fam.put (i:=0) rfl (hb.imp (fun k _ e=>e.elim (fun e=>.inr oq) .inl)) E y;simpa using D
theorem WaM.other(h:WaM W2 W T wb mb rb vq vs s){S:Nat->Prop}(hb:But S W W')(g:∀k,S k->W2.1.size<=k/\vq.ownBlock≠some k/\∀(i:Nat)(v:Value),vs[i]?=some v->v.ownBlock≠some k):WaM W2 W' T wb mb rb vq vs s:=by
 have f:=h.lt;have q:=h.size;have hold:∀k,k<W2.1.size->W'.1[k]?=W.1[k]?:=fun k hk=>hb.block k oq (fun e=>by have:=(g k e).1;omega)
 refine⟨h.but.then hb (fun i hi e=>by have:=(g i e).1;omega),h.lt,h.ne,(hold _ f.2.2).trans h.box,(hold _ f.1).trans h.many,(hold _ f.2.1).trans h.rds,h.fam.but hb (fun i v k hv hk hs=>?_),h.ok⟩;obtain⟨_,j,m⟩:=g k hs
 cases i with
 | zero =>
  cases hv
  exact j hk
 | succ i =>
  rw[List.getElem?_cons_succ] at hv;exact m i v hv hk
theorem WaM.app(h:WaM W2 W T wb mb rb vq vs s){i t:Nat}(hi:i<T)(ht:t<T){v v':Value}(A:vs[i]?=some v){w4:World}(hb:But (fun k=>v.ownBlock=some k) W w4)(F:w4.ownsRow W2.1.size 3 1 v' ((s.rd.getD i []).length+1) (ints (s.rd.getD i [])++[.int .i64 (t:Int)]))
  (y:∀k,v'.ownBlock=some k->v.ownBlock=some k\/W.1.size<=k):WaM W2 (w4.setCell ⟨rb,i,none⟩ v') T wb mb rb vq (vs.set i v') ⟨s.q,s.many,addR t s.rd (i:Int)⟩:=by
 have f:=h.lt;have z:=h.ne;have G:=h.size;have g:∀k,v.ownBlock=some k->W2.1.size<=k:=fun k hk=>(h.fam.block (i:=i+1) (by rw[List.getElem?_cons_succ];exact A) k hk).1
 have hold:∀k,k<W2.1.size->w4.1[k]?=W.1[k]?:=fun k hk=>hb.block k oq (fun e=>by have:=g k e;omega)
 have m:=But.set (S:=fun k=>k=mb\/k=rb\/k=wb) (w:=w4) (b:=rb) (o:=i) (.inr (.inl rfl)) v';refine⟨(h.but.then hb (fun k hk e=>by have:=g k e;omega)).trans m,h.lt,h.ne,(Zr _ _ _ _ (fun e=>z.2.2 e.symm)).trans ((hold _ f.2.2).trans h.box),(Zr _ _ _ _ z.1).trans ((hold _ f.1).trans h.many),?_,?_,?_⟩
 .have:=Zj w4 rb i vs.toArray 44 v' ((hold _ f.2.1).trans h.rds);rw[xv] at this;exact this
 .have E:=h.fam.put (i:=i+1) (by rw[List.getElem?_cons_succ];exact A) (hb.imp (fun k _ e=>.inl e)) (xs':=ints (s.rd.getD i [])++[.int .i64 (t:Int)]) (by rw[Zy,Q1];exact F) y;have j:=E.set (b:=rb) (o:=i) f.2.1 v';rw[List.set_cons_succ,List.set_cons_succ] at j;unfold addR;rw[ZR,List.map_set,<-Jt];exact j
 obtain⟨C,D⟩:=WOk.addR (x:=(i:Int)) ht h.ok.rd h.ok.rds;exact⟨h.ok.q,h.ok.many,C,D⟩
