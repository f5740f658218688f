/- Parts of the proof. -/
import Derived.Test.YtdgifkjaflfdeaaGreatDoorX36
import Derived.Test.YtdgifkjaflfdeaaGreatDoorX42
set_option linter.all false
set_option maxRecDepth 100000
set_option maxHeartbeats 16000000
namespace Go.Proofs.YtdgifkjaflfdeaaGreatDoor.syn
open Tryz
open Go.RowKit
variable {w wr:World}{fl pl:Array Value}{L A l:List SLD}{s7 s8:Value}{i:Nat}{f:FD}{u c:Int}
structure ExI (w wr:World) (fl pl:Array Value) (L A:List SLD) (s7 s8:Value):Prop where
 low:Below w.1.size w wr
 bx:wr.1[w.1.size]?=some (.cells fl 35 (0,0))
 bp:wr.1[w.1.size+1]?=some (.cells pl 68 (0,0))
 r7:wr.ownsRow (w.1.size+2) 73 3 s7 L.length (slV L)
 r8:wr.ownsRow (w.1.size+2) 73 3 s8 A.length (slV A)
 dis:∀k,s7.ownBlock=some k->¬s8.ownBlock=some k
theorem ExI.swap(h:ExI w wr fl pl L A s7 s8):ExI w wr fl pl A L s8 s7:=⟨h.low,h.bx,h.bp,h.r8,h.r7,fun k h1 h2=>h.dis k h2 h1⟩
theorem ExI.below{w wr w':World}(h:ExI w wr fl pl L A s7 s8)(hb:Below wr.1.size wr w'):ExI w w' fl pl L A s7 s8 :=
 ⟨h.low.trans (hb.mono h.low.size),(hb.block _ (Zb h.bx)).trans h.bx,(hb.block _ (Zb h.bp)).trans h.bp,own_below h.r7 hb,own_below h.r8 hb,h.dis⟩
theorem ExI.app{w wr y w4:World}{z pl:Array Value}{x:SLD}{s7 s8 j:Value}(h:ExI w wr z pl L A s7 s8)(hb:Below wr.1.size wr y)(C:y.grownBy w4 s7.ownBlock)
  (E:w4.ownsRow (w.1.size+2) 73 3 j (L.length+1) (slV L++slV [x]))(D:j.ownBlock=s7.ownBlock\/j.ownBlock=some y.1.size):ExI w w4 z pl (L++[x]) A j s8:=by
 have f:=h.below hb;have m:=World.ownsRow.lt f.r7;have q:=World.ownsRow.lt f.r8;have g:=But.of_grown C;have v:=f.low.size;refine⟨f.low.trans (g.below v (fun k e=>by have:=(m k e).1;omega)),(g.block _ (Zb f.bx) (fun e=>by have:=(m _ e).1;omega)).trans f.bx,(g.block _ (Zb f.bp) (fun e=>by have:=(m _ e).1;omega)).trans f.bp,?_,
  g.own f.r8 (fun k hk e=>f.dis k e hk),fun k hk e=>?_⟩
 .rw[xy,Zy];exact E
 rcases D with h1|h1
 .rw[h1] at hk;exact f.dis k hk e
 rw[h1] at hk;injection hk with hk;have:=(q k e).2;omega
theorem VD{p:SLD->Bool}(h:i<l.length):(l.take (i+1)).filter p=(l.take i).filter p++(if p l[i]=true then [l[i]] else []):=by
 rw[Zw h,List.filter_append];congr 1;by_cases f:p l[i]=true
 .simp[f]
 simp[f]
theorem Zdb(h:i<l.length):VM f (l.take (i+1)) u c=VM f (l.take i) u c++(if l[i].s<u-c then [ltr f c l[i]] else []):=by
 unfold VM;rw[VD h,ZV];congr 1;by_cases g:l[i].s<u-c
 .simp[g]
 simp[g]
theorem gU(i:Nat):(VM f (l.take i) u c).length<=i:=by
 unfold VM;rw[Zo];exact Zm (List.length_filter_le _ _) (by rw[Yc];omega)
theorem Et(f:FD)(ai an aT al:OA)(ci cn ct cl:Nat)(hf:FAP w f ai an aT al)(hg:SgF f)(P:List SLD)(ap:OA)(n cp:Nat)(hn:P.length=n)(hP:Row SlR 3 w P ap)(cq:n<=1000000)(bo:∀x∈P,xT f x)(S H u:Int)(hS:0<=S)(hH:1<=H/\H<=2000)(hu:0<=u/\u<=20000) :
  Calls prog 24 #[fv f ai an aT al ci cn ct cl,.agg #[.int .i64 S,.int .i64 H,.slice ap n cp],.int .i64 u] w fun x w'=>(∃v,x=.returned v/\ZdS w' v (Es f S H P u))/\Below w.1.size w w':=by
 have bz:=hid (fun(W:World) (hW:Below w.1.size w W) (t:Nat) (ht:t<f.tasks.length) (n s c:Int) (hn:0<=n/\n<=2000000) (hs:0<=s/\s<=4000000000) (hc:0<=c/\c<=100000)=>KI (w:=W) f ai an aT al ci cn ct cl (hf.below hW) hg t ht n s c hn hs hc);obtain⟨i0,bf,bg,bh,bi⟩:=info_parts EC;have J:=hid (Zh bf (Zh bg (Zh bh bi)));have HR:=hid hP;have HN:=hid hn;have cb:=hid bo;unfold fv at *;obtain⟨fl,aw⟩:=ez (#[.slice ai f.ins.length ci,.slice an f.nods.length cn,.slice aT f.tasks.length ct,.slice al f.tells.length cl]:Array Value);obtain⟨pl,az⟩:=ez (#[.int .i64 S,.int .i64 H,.slice ap n cp]:Array Value);have bw:=hid aw;have U:=hid az;obtain⟨W2,Y⟩:∃W2,(w.alloc (.cells #[.slice ai f.ins.length ci,.slice an f.nods.length cn,.slice aT f.tasks.length ct,.slice al f.tells.length cl] 35)).alloc (.cells #[.int .i64 S,.int .i64 H,.slice ap n cp] 68)=W2:=⟨_,rfl⟩;have aq:=hid (show ExI w W2 fl pl [] [] (.slice none 0 0) (.slice none 0 0) from by
  have hB:Below w.1.size w W2:=by rw[<-Y];exact bq
  refine⟨hB,by rw[<-Y,<-aw];exact(Za _ _ _ (by simp)).trans (Yx w _),?_,Yg _ _ _ _,Yg _ _ _ _,fun k e=>(by cases e)⟩;rw[<-Y,<-az];simpa using Yx (w.alloc (.cells #[.slice ai f.ins.length ci,.slice an f.nods.length cn,.slice aT f.tasks.length ct,.slice al f.tells.length cl] 35)) (.cells #[.int .i64 S,.int .i64 H,.slice ap n cp] 68))
 have hb1:=aq.o.bp;rw[<-U.o] at hb1;obtain⟨⟨p0,p1,p2⟩,pf⟩:=Y9 hb1;obtain⟨RR,ar⟩:=ez (Es f S H P u);rw[ar];have bd:=hid ar;have dc:¬H<1:=oq;have dd:¬20000<u:=oq;clear hf hg bf bg bh bi hP hn bo aw az hb1 ar;go_enter func24,ntmps24;go_upto_region 1 with fail
 first|rw[Y]|skip
 clear Y;go_wp2;go_loopw [7,8,24] (fun s7 s8 s24 wr=>Hid (∃i:Nat,s24=.int .i64 (i:Int)/\i<=n/\ExI w wr fl pl ((P.take i).filter (fun x=>decide (x.s<u))) ((P.take i).filter (fun x=>decide (S<=x.s))) s7 s8)) (fun _ _ s _=>n-(intOf s).toNat)
 case atStart=>exact⟨0,rfl,Zk _,by simpa using aq.o⟩
 clear aq p0 p1 p2 pf;obtain⟨i,rfl,hi,hex⟩:=hrel.o;clear hrel;have g:=hid hex;have bl:((P.take i).filter (fun x=>decide (x.s<u))).length<=n:=Zm (List.length_filter_le _ _) (by rw[Yc,HN.o];omega);have bk:((P.take i).filter (fun x=>decide (S<=x.s))).length<=n:=Zm (List.length_filter_le _ _) (by rw[Yc,HN.o];omega);by_cases bm:i<n
 .have aj:i<P.length:=by rw[HN.o];exact bm
  have ag:=VD (p:=fun x=>decide (x.s<u)) aj;have ah:=VD (p:=fun x=>decide (S<=x.s)) aj;obtain⟨bP,oP,au,av,h0,h1,h2⟩:=HR.o.at aj;subst au;have c0:=(hex.low.cell (p:=⟨bP,_,none⟩) av).trans h0;have c1:=(hex.low.cell (p:=⟨bP,_,none⟩) av).trans h1;have c2:=(hex.low.cell (p:=⟨bP,_,none⟩) av).trans h2;obtain⟨x,hx⟩:=ez (P[i]);rw[hx] at ag ah c0 c1 c2;obtain⟨xt,T,D⟩:=x;simp only at c0 c1 c2;obtain⟨L,hL⟩:=ez ((P.take i).filter (fun x=>decide (x.s<u)));obtain⟨A,hA⟩:=ez ((P.take i).filter (fun x=>decide (S<=x.s)));rw[hL] at g ag bl;rw[hA] at g ah bk;obtain⟨a7,c7,rfl⟩:=YC g.o.r7;obtain⟨a8,c8,h8⟩:=YC g.o.r8;subst h8;have bu:=hid ag;have bv:=hid ah;have i1:(i:Int)<(n:Int):=oq;have co:(0:Int)<=(i:Int):=oq;clear h0 h1 h2 hx hL hA ag ah hex aj;go_upto_region 7 with fail
  obtain⟨W3,E⟩:=ez (wr.alloc (.cells #[.int .i64 xt,.int .i64 T,.int .i64 D] 73))
  first|rw[E]|skip
  have X:Below wr.1.size wr W3:=by rw[<-E];exact bq
  have R:W3.1[wr.1.size]?=some (.cells #[.int .i64 xt,.int .i64 T,.int .i64 D] 73 (0,0)):=by rw[<-E];exact Yx wr _
  have C:=hid (g.o.below X);have bn:¬(Value.slice a7 L.length c7).ownBlock=some wr.1.size:=fun e=>by have:=(World.ownsRow.lt g.o.r7 _ e).2;omega
  have ca:=hid bn;have cc:=hid R;have ce:=Zb R;have cf:w.1.size+2<=W3.1.size:=by have:=Zb C.o.bp;omega
  obtain⟨⟨j0,j1,j2⟩,jf⟩:=Y9 R;have hb1:=C.o.bp;rw[<-U.o] at hb1;obtain⟨⟨p0,p1,p2⟩,pf⟩:=Y9 hb1;clear E X R bn hb1 c0 c1 c2;by_cases ak:D<u<;>by_cases cj:S<=D
  all_goals
   go_wp2_with (first
    | (refine lite.YP _ (by rfl) _ _ _ (by rfl) (w.1.size+2) 73 i0 _ 3 24 underlying66 J.o.1 J.o.2.1 J.o.2.2.1 J.o.2.2.2 rfl oq (.slice a7 L.length c7) L.length (slV L) (by rfl) ((C.o.below bq).r7) (some ⟨W3.1.size,0,none⟩) 1 1 (slV [⟨xt,T,D⟩]) (by rfl) (by rfl) (fun j u hj=>⟨_,rfl,World.news_of_block (Yx _ _) j u hj⟩) (Vo _) (by unfold maxLen;omega) oq (by simp;omega) ?_;intro v4 w4 O ax bj;have F:=hid (C.o.app (x:=⟨xt,T,D⟩) bq ax O bj);obtain⟨cv,cw,rfl⟩:=YC O;have br:=(ax.block wr.1.size (by simp;omega) (fun e=>ca.o e.symm)).trans ((Za _ _ _ ce).trans cc.o);have hb4:=F.o.bp;rw[<-U.o] at hb4;obtain⟨⟨q0,q1,q2⟩,qf⟩:=Y9 hb4;obtain⟨⟨k0,k1,k2⟩,kf⟩:=Y9 br;have cg:w.1.size+2<=w4.1.size:=(by have:=Zb F.o.bp;omega);clear O ax bj br hb4 j0 j1 j2 jf p0 p1 p2 pf)
    | (refine lite.YP _ (by rfl) _ _ _ (by rfl) (w.1.size+2) 73 i0 _ 3 24 underlying66 J.o.1 J.o.2.1 J.o.2.2.1 J.o.2.2.2 rfl oq (.slice a8 A.length c8) A.length (slV A) (by rfl) ((F.o.below bq).r8) (some ⟨w4.1.size,0,none⟩) 1 1 (slV [⟨xt,T,D⟩]) (by rfl) (by rfl) (fun j u hj=>⟨_,rfl,World.news_of_block (Yx _ _) j u hj⟩) (Vo _) (by unfold maxLen;omega) oq (by simp;omega) ?_;intro v5 w5 z G I;have ae:=hid (F.o.swap.app (x:=⟨xt,T,D⟩) bq G z I).swap;clear z G I)
    | (refine lite.YP _ (by rfl) _ _ _ (by rfl) (w.1.size+2) 73 i0 _ 3 24 underlying66 J.o.1 J.o.2.1 J.o.2.2.1 J.o.2.2.2 rfl oq (.slice a8 A.length c8) A.length (slV A) (by rfl) ((C.o.below bq).r8) (some ⟨W3.1.size,0,none⟩) 1 1 (slV [⟨xt,T,D⟩]) (by rfl) (by rfl) (fun j u hj=>⟨_,rfl,World.news_of_block (Yx _ _) j u hj⟩) (Vo _) (by unfold maxLen;omega) oq (by simp;omega) ?_;intro v5 w5 z G I;have ae:=hid (C.o.swap.app (x:=⟨xt,T,D⟩) bq G z I).swap;clear z G I))
   refine⟨hid ⟨i+1,by go_num,bm,?_⟩,by simp[intOf];omega⟩;rw[bu.o,bv.o];simp only[ak,cj,decide_true,decide_false,if_true,if_false,Bool.false_eq_true,List.append_nil]
   first|exact ae.o|exact F.o|exact C.o
 have db:i=n:=oq;have q:=g.o;rw[List.take_of_length_le (by rw[HN.o];omega)] at q;have i1:¬(i:Int)<(n:Int):=oq;clear g hex bl bk;obtain⟨L,hL⟩:=ez (P.filter (fun x=>decide (x.s<u)));obtain⟨A,hA⟩:=ez (P.filter (fun x=>decide (S<=x.s)));have cd:L.length<=n:=by rw[<-hL];exact Zm (List.length_filter_le _ _) (by rw[HN.o];omega)
 have cx:A.length<=n:=by rw[<-hA];exact Zm (List.length_filter_le _ _) (by rw[HN.o];omega)
 have bt:=hid (show ∀x∈A,xT f x from fun x hx=>cb.o x (by rw[<-hA] at hx;exact(List.mem_filter.1 hx).1));have am:=hid (show L++Q4 f A u H u.toNat H=Es f S H P u from by rw[<-hL,<-hA];rfl);rw[hL,hA] at q;obtain⟨a7,c7,rfl⟩:=YC q.r7;obtain⟨a8,c8,h8⟩:=YC q.r8;subst h8;have g:=hid q;have hb1:=q.bp;rw[<-U.o] at hb1;obtain⟨⟨p0,p1,p2⟩,pf⟩:=Y9 hb1;rw[bd.o] at am;clear hL hA q hb1 bd;go_wp2;go_loopw [7,11] (fun s7 s11 W=>Hid (∃(L:List SLD)(c:Int)(m:Nat),s11=.int .i64 c/\1<=c/\c<=22000/\L++Q4 f A u H m c=RR/\(u-c).toNat<=m/\(L.length:Int)<=1000000*c/\ExI w W fl pl L A s7 (.slice a8 A.length c8))) (fun _ s _=>(u-intOf s).toNat)
 case atStart=>exact⟨L,H,u.toNat,rfl,oq,oq,am.o,oq,oq,g.o⟩
 clear g am p0 p1 p2 pf cd;obtain⟨L,c,m,rfl,cz,da,bs,hm,df,hex⟩:=hrel.o;clear hrel;obtain⟨a7,c7,h7⟩:=YC hex.r7;subst h7;have g:=hid hex;have hb1:=hex.bp;rw[<-U.o] at hb1;obtain⟨⟨p0,p1,p2⟩,pf⟩:=Y9 hb1;have ab:=hid bs;clear hb1 hex bs;by_cases be:c<u
 .obtain⟨m,rfl⟩:∃k,m=k+1:=⟨m-1,oq⟩;have ao:=hid (show(L++VM f A u c)++Q4 f A u H m (c+H)=RR from by have:=ab.o;rw[Q4,Z3 be,<-List.append_assoc] at this;exact this);clear ab p0 p1 p2 pf;go_wp2;go_loopw [7,57] (fun s7 s57 W=>Hid (∃i:Nat,s57=.int .i64 (i:Int)/\i<=A.length/\ExI w W fl pl (L++VM f (A.take i) u c) A s7 (.slice a8 A.length c8))) (fun _ s _=>A.length-(intOf s).toNat)
  case atStart=>exact⟨0,rfl,Zk _,by simpa [VM] using g.o⟩
  clear g;obtain⟨i,rfl,hi,hex⟩:=hrel.o;clear hrel;have dg:=gU (f:=f) (l:=A) (u:=u) (c:=c) i;by_cases Z:i<A.length
  .have ba:=Zdb (f:=f) (u:=u) (c:=c) Z;obtain⟨bA,oA,au,hbA,h0,h1,h2⟩:=(xk hex.r8 rfl).at Z;subst au;have aa:=bt.o _ (Zi Z);obtain⟨x,hx⟩:=ez (A[i]);rw[hx] at ba h0 h1 h2 aa;obtain⟨xt,T,D⟩:=x;obtain⟨t,ht,ch⟩:=aa.t;have ck:=aa.n;have cm:=aa.s;simp only at h0 h1 h2 ht ck cm;subst ht;obtain⟨M,hM⟩:=ez (L++VM f (A.take i) u c);have cy:M.length<=L.length+i:=by rw[<-hM,Zy];omega
   have ac:=hid (show L++VM f (A.take (i+1)) u c=M++(if D<u-c then [ltr f c ⟨(t:Int),T,D⟩] else []) from by rw[ba,<-List.append_assoc,hM]);rw[hM] at hex;obtain⟨a7,c7,h7⟩:=YC hex.r7;subst h7;have g:=hid hex;have i1:(i:Int)<(A.length:Int):=oq;have co:(0:Int)<=(i:Int):=oq;have cu:IntKind.i64.wrap (u-c)=u-c:=ZL _ oq;clear ba hx hM hex aa;go_upto_region 18 with fail
   obtain⟨W3,E⟩:=ez (wr.alloc (.cells #[.int .i64 (t:Int),.int .i64 T,.int .i64 D] 73))
   first|rw[E]|skip
   have X:Below wr.1.size wr W3:=by rw[<-E];exact bq
   have R:W3.1[wr.1.size]?=some (.cells #[.int .i64 (t:Int),.int .i64 T,.int .i64 D] 73 (0,0)):=by rw[<-E];exact Yx wr _
   have C:=hid (g.o.below X);have af:=C.o.bx;rw[<-bw.o] at af;obtain⟨⟨f0,f1,f2,f3⟩,ff⟩:=Yy af;obtain⟨⟨j0,j1,j2⟩,jf⟩:=Y9 R;have de:=Zb af;have cf:w.1.size+2<=W3.1.size:=by have:=Zb C.o.bp;omega
   clear E X R af h0 h1 h2;by_cases ak:D<u-c
   .have bc:=hid (fun W hW=>bz.o W hW t ch T D c ⟨oq,oq⟩ ⟨oq,oq⟩ ⟨oq,oq⟩);obtain⟨yn,bb⟩:=ez (T+c.tdiv (QR f (t:Int)));rw[bb] at bc;have V:=hid (show L++VM f (A.take (i+1)) u c=M++[⟨(t:Int),yn,D+c⟩] from by rw[ac.o,Z3 ak,<-bb];rfl);clear bb ac;go_wp2_with (first
     | (go_at_call 59;refine(bc.o _ C.o.low).mono ?_;rintro y w4 ⟨rfl,hb4⟩;have F:=hid (C.o.below hb4);have cg:=hb4.size;clear hb4 f0 f1 f2 f3 ff j0 j1 j2 jf)
     | (refine lite.YP _ (by rfl) _ _ _ (by rfl) (w.1.size+2) 73 i0 _ 3 24 underlying66 J.o.1 J.o.2.1 J.o.2.2.1 J.o.2.2.2 rfl oq (.slice a7 M.length c7) M.length (slV M) (by rfl) ((F.o.below bq).r7) (some ⟨w4.1.size,0,none⟩) 1 1 (slV [⟨(t:Int),yn,D+c⟩]) (by rfl) (by rfl) (fun j u hj=>⟨_,rfl,World.news_of_block (Yx _ _) j u hj⟩) (Vo _) (by unfold maxLen;omega) oq (by simp;omega) ?_;intro v5 w5 z G I;have ae:=hid (F.o.app (x:=⟨(t:Int),yn,D+c⟩) bq G z I);clear z G I))
    refine⟨hid ⟨i+1,by go_num,Z,?_⟩,by simp[intOf];omega⟩;rw[V.o];exact ae.o
   have V:=hid (show L++VM f (A.take (i+1)) u c=M from by rw[ac.o,Z2 ak,List.append_nil]);clear ac;go_wp2;refine⟨hid ⟨i+1,by go_num,Z,?_⟩,by simp[intOf];omega⟩;rw[V.o];exact C.o
  have q:=hex;rw[List.take_of_length_le oq] at q;have ay:((L++VM f A u c).length:Int)<=1000000*(c+H):=by
   have:=gU (f:=f) (l:=A) (u:=u) (c:=c) A.length;rw[ZT] at this;rw[Zy];omega
  have i1:¬(i:Int)<(A.length:Int):=oq;have g:=hid q;have hb1:=q.bp;rw[<-U.o] at hb1;obtain⟨⟨p0,p1,p2⟩,pf⟩:=Y9 hb1;have cr:IntKind.i64.wrap (c+H)=c+H:=ZL _ oq;clear hex q hb1;go_wp2;exact⟨hid ⟨L++VM f A u c,c+H,m,rfl,oq,oq,ao.o,oq,ay,g.o⟩,by simp[intOf];omega⟩
 have ao:=hid (show L=RR from by
  have:=ab.o
  cases m with
  | zero=>rw[Q4,List.append_nil] at this;exact this
  | succ m=>rw[Q4,Z2 be,List.append_nil] at this;exact this)
 clear ab;go_wp2;exact Zl (v:=.slice a7 L.length c7) (by simp only[results,results24];go_simp) rfl ⟨⟨_,rfl,by rw[<-ao.o];exact xm g.o.r7⟩,g.o.low⟩
theorem jR{f:FD}{A:List SLD}{u H:Int}:∀(m:Nat)(c:Int),(Q4 f A u H m c).length<=m*A.length
 | 0,c=>by simp[Q4]
 | m+1,c=>by
  rw[Q4];by_cases hc:c<u
  .rw[Z3 hc,Zy,Nat.add_mul];have:=jR (f:=f) (A:=A) (u:=u) (H:=H) m (c+H);have h1:(VM f A u c).length<=A.length:=by unfold VM;rw[Zo];exact List.length_filter_le _ _
   omega
  rw[Z2 hc];simp
theorem Zee{S H u:Int}{P:List SLD}(h:P.length<=1000000)(v:u<=20000):(Es f S H P u).length<=100000000000:=by
 unfold Es;rw[Zy];have g:(P.filter (fun x=>decide (x.s<u))).length<=P.length:=List.length_filter_le _ _;have j:(Ea S P).length<=P.length:=List.length_filter_le _ _;have m:=jR (f:=f) (A:=Ea S P) (u:=u) (H:=H) u.toNat H;have q:u.toNat*(Ea S P).length<=20000*1000000:=Nat.mul_le_mul oq oq;omega
theorem gW{f:OA}(u:Int)(h:Row SlR 3 w l f):Row SlR 3 w (JA u l) f:=by
 rcases h with rfl|⟨b,o,e,hb,hc⟩
 .exact .inl rfl
 refine .inr ⟨b,o,e,hb,fun i hi=>?_⟩;have g:JA u l <+: l:=List.takeWhile_prefix _;rw[g.getElem hi];exact hc i (Zd hi g.length_le)
theorem gP:(JA u l).length<=l.length:=(List.takeWhile_prefix (fun x:SLD=>decide (x.s<u))).length_le
theorem jO(f:FD)(A an z C:OA)(I J O cl:Nat)(hf:FAP w f A an z C)(hg:SgF f)(P:List SLD)(D:OA)(n M:Nat)(hn:P.length=n)(hP:Row SlR 3 w P D)(T:n<=1000000)(U:∀x∈P,xT f x)
  (L:List SLD)(aL:OA)(Z cL:Nat)(af:L.length=Z)(hL:Row SlR 3 w L aL)(ak:Z<=1000000)(R:Z<=cL/\cL<=9223372036854775807)(S H:Int)(hS:0<=S/\S<=4000)(hH:1<=H/\H<=2000) :
  Calls prog 58 #[fv f A an z C I J O cl,.agg #[.int .i64 S,.int .i64 H,.slice D n M],.slice aL Z cL] w fun x w'=>EqA (Es f S H P (S+2*H)) (JA (S+2*H) L) x/\Below w.1.size w w':=by
 have ac:=Zee (f:=f) (S:=S) (H:=H) (u:=S+2*H) (P:=P) oq oq;have ae:=gP (u:=S+2*H) (l:=L);have q:=hid (fun(W:World) (hW:Below w.1.size w W)=>Et (w:=W) f A an z C I J O cl (hf.below hW) hg P D n M hn (hP.below Va hW) T U S H (S+2*H) hS.1 hH ⟨oq,oq⟩);have m:=hid (fun(W:World) (hW:Below w.1.size w W)=>zI (w:=W) L aL Z cL (S+2*H) af (hL.below Va hW) R.1 R.2);have F:=hid (gW (S+2*H) hL);obtain⟨E,hE⟩:=ez (Es f S H P (S+2*H));obtain⟨Q,hQ⟩:=ez (JA (S+2*H) L);rw[hE] at ac q ⊢;rw[hQ] at ae m F ⊢;obtain⟨u,hu⟩:=ez (S+2*H);rw[hu] at q m;have ao:IntKind.i64.wrap (S+2*H)=u:=by rw[hu];exact ZL _ oq
 have am:IntKind.i64.wrap (2*H)=2*H:=ZL _ oq;clear hE hQ hf hg hP hn U hL;unfold fv at *;obtain⟨G,g⟩:∃G,(w.alloc (.cells #[.slice A f.ins.length I,.slice an f.nods.length J,.slice z f.tasks.length O,.slice C f.tells.length cl] 35)).alloc (.cells #[.int .i64 S,.int .i64 H,.slice D n M] 68)=G:=⟨_,rfl⟩;have hB:Below w.1.size w G:=by rw[<-g];exact bq
 have V:G.1[w.1.size]?=some (.cells #[.slice A f.ins.length I,.slice an f.nods.length J,.slice z f.tasks.length O,.slice C f.tells.length cl] 35 (0,0)):=by rw[<-g];exact(Za _ _ _ (by simp)).trans (Yx w _)
 have X:G.1[w.1.size+1]?=some (.cells #[.int .i64 S,.int .i64 H,.slice D n M] 68 (0,0)):=by
  rw[<-g];simpa using Yx (w.alloc (.cells #[.slice A f.ins.length I,.slice an f.nods.length J,.slice z f.tasks.length O,.slice C f.tells.length cl] 35)) (.cells #[.int .i64 S,.int .i64 H,.slice D n M] 68)
 obtain⟨⟨x0,x1,x2,x3⟩,xf⟩:=Yy V;obtain⟨⟨p0,p1,p2⟩,pf⟩:=Y9 X;have HB:=hid hB;clear hB V X hu;go_enter func58,ntmps58;go_upto_region 1 with fail
 first|rw[g]|skip
 clear g;go_wp2_with (first
  | (go_at_call 24;refine(q.o _ HB.o).mono ?_;rintro y w3 ⟨⟨v,rfl,a3,c3,rfl,ah,aj,Y⟩,hb3⟩;have aa:=hid Y;have HB3:=hid (HB.o.trans (hb3.mono HB.o.size));have ag:=hid hb3;clear Y hb3)
  | (go_at_call 57;refine(m.o _ HB3.o).mono ?_;rintro y w4 ⟨rfl,hb4⟩;have j:=hid hb4;clear hb4)
  | (go_at_call 118;refine(uS E Q _ _ _ _ _ _ (aa.o.below Va j.o) (F.o.below Va (HB3.o.trans (j.o.mono HB3.o.size))) rfl rfl oq oq).mono ?_;rintro y w5 ⟨⟨c,rfl,hc⟩,hb5⟩;have ab:=hid hb5;have HC:=hid hc;clear hb5 hc))
 go_ret;exact⟨⟨c,rfl,HC.o⟩,(HB3.o.trans (j.o.mono HB3.o.size)).trans (ab.o.mono (Zm HB3.o.size j.o.size))⟩
def ZfB(f:FD)(x:Ending)(w':World):Prop:=∃(a:OA)(c:Nat)(l:List SLD)(b:Bool),x=.returned (.tuple #[.slice a l.length c,.bool b])/\Row SlR 3 w' l a/\(l.length<=c/\c<=9223372036854775807)/\l.length<=1000000/\(b=true->l.Pairwise (Sep f)/\∀y∈l,xT f y)
theorem ZaZ(q y z A:Value)(m:OA)(j:Nat) :
  Calls prog 55 #[.agg #[q,y,z,A],.slice m 0 j] w fun x w'=>x=.returned (.tuple #[.slice none 0 0,.bool true])/\Below w.1.size w w':=by
 obtain⟨g,f⟩:=ez ((w.alloc (.cells #[q,y,z,A] 35)).alloc (.cells #[.slice m 0 j,.slice none 0 0] 220));have HB:=hid (show Below w.1.size w g by rw[<-f];exact bq);go_enter func55,ntmps55;go_upto_region 3 with fail
 first|rw[f]|skip
 clear f;go_wp2;go_loopw [6] (fun s6 wr=>Hid (s6=.slice none 0 0/\wr=g)) (fun _ _=>0)
 case atStart=>exact⟨rfl,rfl⟩
 obtain⟨rfl,rfl⟩:=hrel.o;clear hrel;go_wp2;exact Zl (v:=.tuple #[.slice none 0 0,.bool true]) (by simp only[results,results55];go_simp) rfl ⟨rfl,HB.o⟩
theorem Za0(f:FD)(m an j q:OA)(D E F cl:Nat)(G:FAP w f m an j q)(H:SgF f)(d:Array YH)(C:OA)(z:Nat)(A:JR w C d)(I:xR f d)(hd:d.size<=1000000) :
  Calls prog 55 #[fv f m an j q D E F cl,.slice C d.size z] w fun x w'=>ZfB f x w'/\Below w.1.size w w':=by
 rcases A with h0|⟨g,rfl,A⟩
 .rw[h0];unfold fv;refine(ZaZ _ _ _ _ C z).mono ?_;rintro x w' ⟨rfl,hb⟩;exact⟨⟨none,0,[],true,rfl,.inl rfl,⟨Zc _,oq⟩,by simp,fun _=>⟨List.Pairwise.nil,fun y hy=>(by cases hy)⟩⟩,hb⟩
 refine(ZaY f m an j q D E F cl G H d g 0 z d.size rfl A I hd).mono ?_;rintro x w' ⟨h,hb⟩;refine⟨?_,hb⟩;rcases h with rfl|⟨v,l,rfl,⟨a,c,rfl,h1,h2,h3⟩,hl,hp,ho⟩
 .exact⟨none,0,[],false,rfl,.inl rfl,⟨Zc _,oq⟩,by simp,fun h=>by cases h⟩
 exact⟨a,c,l,true,rfl,h3,⟨h1,h2⟩,hl,fun _=>⟨hp,ho⟩⟩
theorem ZfV{W:World}{order:List Int}{B:List (Nat × Nat)}{V:OA}{d:Array YH}(h:Ze8 W f order u B V d)(U:u<=20000)(R:f.tasks.length<=30):xR f d/\d.size<=1000000:=by
 obtain⟨D,z,T,hd⟩:=h.from_;have C:Qr D d:=by rw[hd];exact(JN f B u f.tells D).trans (JY f B _ B.length)
 have key:∀k,k<d.size->∃t n:Nat,t<f.tasks.length/\d[k]!.t=(t:Int)/\d[k]!.n=(n:Int)/\d[k]!.r=(tkO f t).ph+(n:Int)*(tkO f t).per/\d[k]!.r<u/\0<=(tkO f t).ph/\1<=(tkO f t).per:=by
  intro k g;rw[h.sz] at g;have hb:B[k]?=some (B.getD k (0,0)):=by rw[Zf,Ze g];rfl
  obtain⟨f1,F,v,_⟩:=z k g;obtain⟨H,I,E,_⟩:=C.2 k;obtain⟨⟨t,n⟩,y⟩:=ez (B.getD k (0,0));rw[y] at hb f1 F v;have A:=(h.win.mem h.ord).1 (Yb hb);have j:=h.rgf.clk t A.1;have m:=(QU j.1 n).1 A.2;have q:Q9 f (t,n)=(tkO f t).ph+(n:Int)*(tkO f t).per:=rfl;exact⟨t,n,A.1,H.trans f1,I.trans F,by rw[E,v,q],by rw[E,v,q];omega,j.2.2.1,j.1⟩
 refine⟨⟨fun k g=>?_,fun k g=>?_,fun k g=>?_⟩,by rw[h.sz];exact eK h.win h.ord h.rgf.clk R U⟩
 .obtain⟨t,n,x,m,_⟩:=key k g;exact⟨t,m,x⟩
 .obtain⟨t,n,x,m,J,q,L,M,G⟩:=key k g;have O:(n:Int)<=(n:Int)*(tkO f t).per:=by
   have:=Int.mul_le_mul_of_nonneg_left G (show 0<=(n:Int) by omega);omega
  omega
 obtain⟨t,n,x,m,J,q,L,M,G⟩:=key k g;have O:=Int.mul_nonneg (show 0<=(n:Int) by omega) (show 0<=(tkO f t).per by omega);omega
