/- Parts of the proof. -/
import Derived.Test.YtdgifkjaflfdeaaGreatDoorX41
set_option linter.all false
set_option maxRecDepth 100000
set_option maxHeartbeats 16000000
namespace Go.Proofs.YtdgifkjaflfdeaaGreatDoor.syn
open Tryz
open Go.RowKit
theorem kZ{w:World}{b:Nat}{f g j m q:Value}{t:TypeId}(h:w.1[b]?=some (.cells #[f,g,j,m,q] t (0,0))) :
  (w.cell? ⟨b,0,none⟩=some f/\w.cell? ⟨b,1,none⟩=some g/\w.cell? ⟨b,2,none⟩=some j/\w.cell? ⟨b,3,none⟩=some m/\w.cell? ⟨b,4,none⟩=some q)/\∀o,w.frozen? ⟨b,o,none⟩=false:=by
 refine⟨⟨?_,?_,?_,?_,?_⟩,?_⟩
 all_goals first|(intro o;simp[World.frozen?,h])|simp[World.cell?,h]
theorem ZaY{w:World}(f:FD)(ai an aT al:OA)(ci cn ct cl:Nat)(hf:FAP w f ai an aT al)(hg:SgF f)(d:Array YH)(g jo cj N:Nat)(hN:d.size=N)(hJ:JH w g jo d)(hj:xR f d)(hd:N<=1000000) :
  Calls prog 55 #[fv f ai an aT al ci cn ct cl,.slice (some ⟨g,jo,none⟩) N cj] w fun x w'=>Zbs f x w'/\Below w.1.size w w':=by
 have bt:=hid (fun(W:World) (hW:Below w.1.size w W) (t:Nat) (ht:t<f.tasks.length)=>jU (w:=W) f ai an aT al ci cn ct cl (hf.below hW) hg t ht);have ca:=hid (fun(t:Nat) (ht:t<f.tasks.length)=>(show 1<=bdg f (t:Int)/\bdg f (t:Int)<=1000 from by obtain⟨k,_,_,_,h1,h2⟩:=hg.bud ht;exact⟨h1,h2⟩));obtain⟨i0,bc,be,bf,bg⟩:=info_parts EC;have HI:=hid (Zh bc (Zh be (Zh bf bg)));have am:=hid hj;have HN:=hid hN;have cd:=hJ.lt;unfold fv at *;obtain⟨fl,aq⟩:=ez (#[.slice ai f.ins.length ci,.slice an f.nods.length cn,.slice aT f.tasks.length ct,.slice al f.tells.length cl]:Array Value);have bu:=hid aq;obtain⟨W2,L⟩:∃W2,(w.alloc (.cells #[.slice ai f.ins.length ci,.slice an f.nods.length cn,.slice aT f.tasks.length ct,.slice al f.tells.length cl] 35)).alloc (.cells #[.slice (some ⟨g,jo,none⟩) N cj,.slice none 0 0] 220)=W2:=⟨_,rfl⟩;have G:=hid (show SoI w W2 fl g jo cj d [] [] (.slice none 0 0) (.slice none 0 0) from by
  have hB:Below w.1.size w W2:=by rw[<-L];exact bq
  have hs:w.1.size+2<=W2.1.size:=by rw[<-L];simp
  refine⟨hB,by rw[<-L,<-aq];exact(Za _ _ _ (by simp)).trans (Yx w _),⟨⟨?_,Yg _ _ _ _,oq,hs⟩,hJ.but (hB.block g cd),fun x h=>(by cases h),oq,by simp⟩,Yg _ _ _ _,fun k e=>(by cases e)⟩;rw[<-L,hN];simpa using Yx (w.alloc (.cells #[.slice ai f.ins.length ci,.slice an f.nods.length cn,.slice aT f.tasks.length ct,.slice al f.tells.length cl] 35)) (.cells #[.slice (some ⟨g,jo,none⟩) N cj,.slice none 0 0] 220))
 clear hf hg hj bc be bf bg hJ aq hN;go_enter func55,ntmps55;go_upto_region 3 with fail
 first|rw[L]|skip
 clear L;go_wp2;go_loopw [6,8,9] (fun s6 s8 s9 wr=>Hid (∃(l:List SLD)(q:List Int)(v:Value)(O:Nat)(now:Int),s8=.int .i64 now/\s9=.int .i64 (O:Int)/\O<=N/\l.length+q.length=O/\SoP f l now/\lnV s6=l.length/\SoI w wr fl g jo cj d l q v s6)) (fun s6 _ _ _=>N-lnV s6)
 case atStart=>exact⟨[],[],.slice none 0 0,0,0,rfl,rfl,Zk _,rfl,SoP.nil f,rfl,G.o⟩
 clear G;obtain⟨l,q,v,O,now,rfl,rfl,aa,ar,af,cg,E⟩:=hrel.o;clear hrel;obtain⟨a6,c6,rfl⟩:=YC E.row;have F:=hid af;have A:=hid E;have h0:=af.n0;have h1:=af.n1;have br:=E.sj.len;clear af E cg;by_cases cm:l.length<N
 .have bn:(l.length:Int)<(N:Int):=oq;have ag:=hid (E6 A.o.sj.sq);go_upto_region 5 with fail
  go_cut [21] (fun s21 W=>Hid (s21=.bool (decide (q.length=0))/\wr=W))
  case first =>
   go_wp2_with (go_at_call 115;refine ag.o.mono ?_;rintro y R ⟨rfl,rfl⟩);go_meet;exact hid ⟨by by_cases h:q.length=0<;>simp[h],rfl⟩
  case rest =>
  obtain⟨rfl,rfl⟩:=hcut.o;clear hcut;go_step;go_cut [8] (fun s8 W=>Hid (∃z:Int,s8=.int .i64 z/\SoP f l z/\(0<q.length\/∃Z:O<N,d[O]!.r<=z)/\wr=W))
  case first =>
   by_cases ab:q.length=0
   .have H:O<N:=oq;obtain⟨⟨_,_,c2,_,_⟩,_⟩:=A.o.sj.jh.cell (show O<d.size by rw[HN.o];exact H);have hr:=am.o.r O (by rw[HN.o];exact H);obtain⟨r,D⟩:∃r,d[O]!.r=r:=⟨_,rfl⟩;rw[D] at c2 hr;have HR:=hid D;have n0:(0:Int)<=(O:Int):=oq;have n1:(O:Int)<(N:Int):=oq;have cb:=hid (F.o.wait hr.2);have cc:decide (q.length=0)=true:=Z1 ab;clear D;go_wp2
    all_goals
     go_meet;refine hid ⟨max now r,?_,cb.o,.inr ⟨H,?_⟩,rfl⟩
     .first|rfl|(congr 1;omega)
     rw[HR.o];omega
   have cc:decide (q.length=0)=false:=Z0 ab;go_wp2;go_meet;exact hid ⟨now,rfl,F.o,.inl oq,rfl⟩
  obtain⟨z,rfl,J,C,rfl⟩:=hcut.o;clear hcut F ag h0 h1;have F:=hid J;have h0:=J.n0;have h1:=J.n1;have G:=hid (Zh ar (Zh C A.o));clear J C ar A;go_wp2;go_loopw [9] (fun s9 W=>Hid (∃(q':List Int)(v':Value)(m:Nat),s9=.int .i64 (m:Int)/\m<=N/\l.length+q'.length=m/\(0<q'.length\/∃Z:m<N,d[m]!.r<=z)/\SoI w W fl g jo cj d l q' v' (.slice a6 l.length c6))) (fun s _=>N-(intOf s).toNat)
  case atStart=>exact⟨q,v,O,rfl,aa,G.o.1,G.o.2.1,G.o.2.2⟩
  clear G aa br;obtain⟨q',v',m,rfl,aa,ar,C,E⟩:=hrel.o;clear hrel;obtain⟨W,rfl⟩:=ey wr;have A:=hid E;have br:=E.sj.len;clear E;by_cases hp:∃Z:m<N,d[m]!.r<=z
  .obtain⟨H,ae⟩:=hp;obtain⟨⟨_,_,c2,_,_⟩,_⟩:=A.o.sj.jh.cell (show m<d.size by rw[HN.o];exact H);obtain⟨r,D⟩:∃r,d[m]!.r=r:=⟨_,rfl⟩;rw[D] at c2 ae;have n0:(0:Int)<=(m:Int):=oq;have n1:(m:Int)<(N:Int):=oq;have bw:=hid (uU A.o.sj m (by rw[HN.o];exact H) oq);clear D C;go_wp2_with (go_at_call 116;refine bw.o.mono ?_;rintro y R ⟨rfl,bo⟩;obtain⟨v2,q2,ce,M⟩:=A.o.push bo;have T:=hid M;clear M bo);exact⟨hid ⟨q2,v2,m+1,by go_num,H,oq,.inl oq,T.o⟩,by simp[intOf];omega⟩
  have ab:0<q'.length:=C.elim id (fun h=>absurd h hp);have ch:N<=m\/(m<N/\z<d[m]!.r):=by
   by_cases Z:m<N
   .exact .inr ⟨Z,by by_cases h:d[m]!.r<=z;exact absurd ⟨Z,h⟩ hp;omega⟩
   exact .inl oq
  have aw:=hid (ZaU A.o.sj ab);have cq:=fun x w=>Kn x w
  clear C hp;rcases ch with Z|⟨Z,ae⟩
  case' inl=>have n1:¬(m:Int)<(N:Int):=oq
  case' inr =>
   obtain⟨⟨_,_,c2,_,_⟩,_⟩:=A.o.sj.jh.cell (show m<d.size by rw[HN.o];exact Z);obtain⟨r,D⟩:∃r,d[m]!.r=r:=⟨_,rfl⟩;rw[D] at c2 ae;have n0:(0:Int)<=(m:Int):=oq;have n1:(m:Int)<(N:Int):=oq;have n2:¬r<=z:=oq;clear D ae
  all_goals
   clear Z;go_upto_region 11 with (go_at_call 117;refine aw.o.mono ?_;rintro y R ⟨x,v2,q2,rfl,hx,ce,M,az,hb2⟩;have T:=hid (A.o.but hb2 M az);obtain⟨⟨k0,k1,k2,k3,k4⟩,_⟩:=M.jh.cell hx;obtain⟨t,ht,au⟩:=am.o.t x hx;have bl:=am.o.n x hx;rw[ht] at k0;obtain⟨jn,aj⟩:=ez (d[x]!.n);obtain⟨jr,bm⟩:=ez (d[x]!.r);obtain⟨jd,bj⟩:=ez (d[x]!.d);obtain⟨ja,bh⟩:=ez (d[x]!.na);obtain⟨jl,bk⟩:=ez (d[x]!.nl);obtain⟨jc,bi⟩:=ez (d[x]!.nc);rw[aj] at k1 bl;rw[bm] at k2;rw[bj] at k3;rw[bh,bk,bi] at k4;rw[HN.o] at hx;have x0:(0:Int)<=(x:Int):=oq;have x1:(x:Int)<(N:Int):=oq;clear M az hb2 ht aj bm bj bh bk bi aw)
   obtain⟨W3,U⟩:=ez (R.alloc (.cells #[.int .i64 (t:Int),.int .i64 jn,.int .i64 jr,.int .i64 jd,.slice ja jl jc] 128))
   first|rw[U]|skip
   have ba:Below R.1.size R W3:=by rw[<-U];exact bq
   have ac:W3.1[R.1.size]?=some (.cells #[.int .i64 (t:Int),.int .i64 jn,.int .i64 jr,.int .i64 jd,.slice ja jl jc] 128 (0,0)):=by rw[<-U];exact Yx R _
   have ao:=hid (T.o.below ba);have ak:¬(Value.slice a6 l.length c6).ownBlock=some R.1.size:=fun e=>by have:=(World.ownsRow.lt T.o.row _ e).2;omega
   have bz:=hid ac;have bv:=hid ak;have cf:=Zb ac;obtain⟨⟨j0,j1,j2,j3,j4⟩,jf⟩:=kZ ac;have co:w.1.size+2<=W3.1.size:=ao.o.sj.sq.hi;have bs:=ca.o t au;have av:=hid (fun W hW=>bt.o W hW t au);have ah:=hid (F.o.more oq au bl bs);obtain⟨bd,bb⟩:=ez (bdg f (t:Int));rw[bb] at av bs ah;have cr:IntKind.i64.wrap (z+bd)=z+bd:=ZL _ oq;clear bb U ba ac ak k0 k1 k2 k3 k4;go_upto_region 12 with (refine lite.YP _ (by rfl) _ _ _ (by rfl) (w.1.size+2) 73 i0 _ 3 24 underlying66 HI.o.1 HI.o.2.1 HI.o.2.2.1 HI.o.2.2.2 rfl oq (.slice a6 l.length c6) l.length (slV l) (by rfl) ((ao.o.below bq).row) (some ⟨W3.1.size,0,none⟩) 1 1 (slV [⟨(t:Int),jn,z⟩]) (by rfl) (by rfl) (fun j u hj=>⟨_,rfl,World.news_of_block (Yx _ _) j u hj⟩) (Vo _) (by unfold maxLen;omega) oq (by simp;omega) ?_;intro v6 w4 I X Y;have ap:=hid (ao.o.app (x:=⟨(t:Int),jn,z⟩) bq X I Y);obtain⟨a7,c7,rfl⟩:=YC I;have bp:=(X.block R.1.size (by simp;omega) (fun e=>bv.o e.symm)).trans ((Za _ _ _ cf).trans bz.o);have ax:=hid bp;have cp:W3.1.size<=w4.1.size:=(by have:=X.size;simp at this;omega);clear I X Y bp)
   clear j0 j1 j2 j3 j4 jf;have V:=ap.o.bx;rw[<-bu.o] at V;have ck:=Zb V;obtain⟨⟨f0,f1,f2,f3⟩,ff⟩:=Yy V;obtain⟨⟨j0,j1,j2,j3,j4⟩,jf⟩:=kZ ax.o;have Y:=Zb ax.o;clear V;go_wp2_with (go_at_call 25;refine(av.o _ ap.o.low).mono ?_;rintro y w5 ⟨rfl,hb5⟩;have ay:=hid (ap.o.below hb5);have e3:=(hb5.cell (p:=⟨R.1.size,3,none⟩) Y).trans j3;clear hb5 f0 f1 f2 f3 ff j0 j1 j2 j3 j4 jf)
   all_goals first
    | exact Zl (v:=.tuple #[.slice none 0 0,.bool false]) (by simp only[results,results55];go_simp) rfl ⟨.inl rfl,ay.o.low⟩
    | exact⟨hid ⟨l++[⟨(t:Int),jn,z⟩],q2,v2,m,z+bd,rfl,rfl,aa,by simp only[Zy,List.length_singleton];omega,ah.o,by simp[lnV],ay.o⟩,by simp[lnV];omega⟩
 have bn:¬(l.length:Int)<(N:Int):=oq;go_wp2;exact Zl (v:=.tuple #[.slice a6 l.length c6,.bool true]) (by simp only[results,results55];go_simp) rfl ⟨.inr ⟨_,l,rfl,xm A.o.row,oq,F.o.pw,F.o.ok⟩,A.o.low⟩
