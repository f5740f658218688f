/- Parts of the proof. -/
import Derived.Test.YtdgifkjaflfdeaaGreatDoorJ35
set_option linter.all false
set_option maxRecDepth 100000
set_option maxHeartbeats 16000000
namespace Go.Proofs.YtdgifkjaflfdeaaGreatDoor.syn
open Tryz
open Go.RowKit
def jL(p:Nat->Bool)(T:Nat):Nat->Int
 | 0=>-1
 | c+1=>if p (T-(c+1))=true then ((T-(c+1):Nat):Int) else jL p T c
theorem yC(p:Nat->Bool)(T:Nat):∀c,c<=T->jL p T c=match (List.range' (T-c) c).find? p with|none=>-1|some j=>(j:Int)
 | 0,_=>rfl
 | c+1,hc=>by
  rw[jL,List.range'_succ,List.find?_cons]
  cases hp:p (T-(c+1)) with
  | true=>simp
  | false =>
   simp only[Bool.false_eq_true,if_false];rw[yC p T c oq,show T-(c+1)+1=T-c by omega]
theorem Zbb(f:Nat->Nat->Bool)(T:Nat)(out:List Int):jL (jQ f T out) T T=match GF f T out with|none=>-1|some j=>(j:Int):=by
 rw[yC _ _ _ (Zc _),Nat.sub_self];unfold GF;rw[List.range_eq_range']
theorem zg{w:World}{base:Nat}{e:TypeId}{l:List Int}{a:Option Addr}{c:Nat}(h:w.ownsRow base e 1 (.slice a l.length c) l.length (ints l)):qi w (Value.int .i64) a l:=by
 have f:=h;rcases h.2 with ⟨_,hn⟩|⟨g,cap,cur,e,hb,hg,_⟩
 .exact .inl (Yc hn)
 injection e with e1 e2 e3
 subst e1;subst e3;exact .inr ⟨g,0,rfl,Zb hg,fun i x hx=>by
  rw[ZD];exact(World.ownsRow.cellAt f i (by have:=(ZA.1 hx).1;omega)).trans (by simp[ints,hx])⟩
def jR(hg:Nat->Nat->Bool)(out:List Int)(t k:Nat):Bool:=!decide ((t:Int)∈out)&&(List.range k).all (fun k=>!hg t k||decide ((k:Int)∈out))
theorem Zbe(f:Nat->Nat->Bool)(out:List Int)(t k:Nat):jR f out t (k+1)=(jR f out t k&&(!f t k||decide ((k:Int)∈out))):=by
 unfold jR;rw[Yh,List.all_append];simp[Bool.and_assoc]
def ZeV:Value->Nat
 | .slice _ n _=>n
 | _=>0
def xc(B T:Nat)(r:Option (List Int))(x:Ending)(w':World):Prop:=match r with
 | none=>x=.returned (.tuple #[.slice none 0 0,.bool false])
 | some l=>∃v,x=.returned (.tuple #[v,.bool true])/\w'.ownsRow B 3 1 v l.length (ints l)
theorem jA:(prog.info? 3).map (fun i=>(i.zero,i.size,i.bytes))=some (some (.int .i64 0),1,8):=by kernel_rfl
theorem Zac{w:World}(f:FD)(ai an aT al:Option Addr)(ci cn ct cl:Nat)(hf:FAP w f ai an aT al) :
  Calls prog 12 #[fv f ai an aT al ci cn ct cl] w fun e w'=>xc w.1.size f.tasks.length (E7 (hg9 f) f.tasks.length f.tasks.length []) e w'/\Below w.1.size w w':=by
 have HG:=hid (fun(W:World) (hb:Below w.1.size w W) (t k:Nat) (ht:t<f.tasks.length) (hk:k<=100000)=>uW (w:=W) f ai an aT al ci cn ct cl (hf.below hb) t k ht hk);have hT:=hf.lens.2.2.1;obtain⟨r,hr⟩:=ez (E7 (hg9 f) f.tasks.length f.tasks.length []);rw[hr];have HR:=hid hr;clear hf hr;unfold fv at *;obtain⟨T,ab⟩:=ez f.tasks.length;rw[ab] at hT HG HR ⊢;have bp:=hid ab;clear ab;obtain⟨G,I⟩:=ez (w.alloc (.cells #[.slice ai f.ins.length ci,.slice an f.nods.length cn,.slice aT T ct,.slice al f.tells.length cl] 35));have hB:Below w.1.size w G:=by rw[<-I];exact bq
 have am:G.1[w.1.size]?=some (.cells #[.slice ai f.ins.length ci,.slice an f.nods.length cn,.slice aT T ct,.slice al f.tells.length cl] 35 (0,0)):=by rw[<-I];exact Yx w _
 have HQ:=hid am;have HB:=hid hB;have ba:w.1.size<G.1.size:=Zb am;obtain⟨bn,O,R,U,V⟩:=info_parts jA;have HI:=hid (Zh O (Zh R (Zh U V)));clear hB am O R U V;go_enter func12,ntmps12;go_upto_region 1 with fail
 first|rw[I]|skip
 clear I;go_wp2;go_loopw [4] (fun s4 wr=>Hid (∃(out:List Int)(n:Nat),out.length+n=T/\ZeV s4=out.length/\wr.ownsRow G.1.size 3 1 s4 out.length (ints out)/\Below G.1.size G wr/\E7 (hg9 f) T n out=r)) (fun s4 _=>T-ZeV s4)
 case atStart=>exact⟨[],T,by simp,rfl,Ye _ _ _ _,Zg _ _,HR.o⟩
 obtain⟨H,rfl⟩:=ey wr;obtain⟨out,n,hn,bj,D,hb3,X⟩:=hrel.o;clear hrel;obtain⟨oa,oc,rfl⟩:=YF D;clear bj;have Z:=hid D;have HB3:=hid hb3;have M:=hid X;have bs:=hb3.size;obtain⟨⟨x0,x1,x2,x3⟩,xf⟩:=Yy ((hb3.block _ ba).trans HQ.o);obtain⟨lo,ah⟩:=ez out.length;have q:=hid ah;rw[ah] at hn ⊢;clear D hb3 X ah;by_cases br:lo<T
 .have l1:(lo:Int)<(T:Int):=oq;have bo:lo<=1000:=oq;obtain⟨n',rfl⟩:∃n',n=n'+1:=⟨n-1,oq⟩;have et:IntKind.i64.wrap ((T:Int)-1)=(T:Int)-1:=ZK _ oq;have v:=hid (fun(W:World) (hb:Below H.1.size H W) (x:Int)=>ZcF (w:=W) out oa oc (by rw[q.o];omega) (zg (own_below (Z.o) hb)) x);rw[q.o] at v;go_wp2;go_loopw [5,6] (fun s5 s6 wr=>Hid (∃c:Nat,c<=T/\s6=.int .i64 ((T:Int)-1-(c:Int))/\s5=.int .i64 (jL (jQ (hg9 f) T out) T c)/\Below H.1.size H wr)) (fun _ s6 _=>((intOf s6)+1).toNat)
  case atStart=>exact⟨0,Zk _,by first|rfl|(simp;done)|go_num,rfl,Zg _ _⟩
  obtain⟨W5,rfl⟩:=ey wr;obtain⟨c,hc,rfl,rfl,hb5⟩:=hrel.o;clear hrel;have HB5:=hid hb5;have bt:=hb5.size;by_cases ay:c<T
  .obtain⟨t,ht⟩:∃t:Nat,(T:Int)-1-(c:Int)=(t:Int):=⟨T-1-c,oq⟩;have bl:t<T:=oq;have be:T-(c+1)=t:=oq;have HT:=hid (Zh ht be);rw[ht];have t0:(t:Int)>=0:=oq;obtain⟨nx,ak⟩:=ez (jL (jQ (hg9 f) T out) T c);rw[ak];have bg:=hid ak;obtain⟨b0,ac⟩:=ez (decide ((t:Int)∈out));have ap:=hid (v.o W5 HB5.o (t:Int));rw[ac] at ap;have bf:=hid ac;clear ht be ak ac hb5;go_upto_region 8 with (go_at_call 37;refine ap.o.mono ?_;rintro y W5 ⟨rfl,rfl⟩)
   go_wp2;go_loopw [7,8] (fun s7 s8 wr=>Hid (∃k:Nat,k<=T/\s8=.int .i64 (k:Int)/\s7=.bool (jR (hg9 f) out t k)/\Below W5.1.size W5 wr)) (fun _ s8 _=>T-(intOf s8).toNat)
   case atStart=>exact⟨0,Zk _,rfl,by rw[show jR (hg9 f) out t 0=!b0 by rw[<-bf.o];simp[jR]],Zg _ _⟩
   obtain⟨W7,rfl⟩:=ey wr;obtain⟨k,hk,rfl,rfl,J⟩:=hrel.o;clear hrel;have z:=hid J;have bu:=J.size;have A:Below H.1.size H W7:=HB5.o.trans (J.mono HB5.o.size);obtain⟨⟨z0,z1,z2,z3⟩,zf⟩:=Yy ((A.block _ oq).trans ((HB3.o.block _ ba).trans HQ.o));have m:=hid A;obtain⟨mk,aj⟩:=ez (jR (hg9 f) out t k);have ar:=hid aj;rw[aj];clear aj J A;by_cases ag:k<T
   .have k1:(k:Int)<(T:Int):=oq;have aw:Below w.1.size w W7:=HB.o.trans ((HB3.o.trans (m.o.mono HB3.o.size)).mono HB.o.size);have Y:=hid (HG.o W7 aw t k bl oq);obtain⟨hb,af⟩:=ez (hg9 f t k);obtain⟨bk,ae⟩:=ez (decide ((k:Int)∈out));rw[af] at Y;have aq:=hid (fun(W:World) (h:Below H.1.size H W)=>v.o W h (k:Int));rw[ae] at aq;have aa:=hid (show jR (hg9 f) out t (k+1)=(mk&&(!hb||bk)) by rw[Zbe,ar.o,af,ae]);clear af ae aw
    cases mk with
    | false =>
     go_wp2;exact⟨hid ⟨k+1,ag,by go_num,by rw[aa.o];rfl,z.o⟩,by simp[intOf];omega⟩
    | true =>
     cases hb with
     | false =>
      go_wp2_with (go_at_call 38;refine Y.o.mono ?_;rintro y w8 ⟨rfl,C⟩;have F:=hid C;clear C);exact⟨hid ⟨k+1,ag,by go_num,by rw[aa.o];rfl,z.o.trans (F.o.mono z.o.size)⟩,by simp[intOf];omega⟩
     | true =>
      go_wp2_with (first|(go_at_call 38;refine Y.o.mono ?_;rintro y w8 ⟨rfl,C⟩;have F:=hid C;clear C)|(go_at_call 37;refine(aq.o _ (m.o.trans (F.o.mono m.o.size))).mono ?_;rintro y w9 ⟨rfl,rfl⟩));exact⟨hid ⟨k+1,ag,by go_num,by rw[aa.o];simp,z.o.trans (F.o.mono z.o.size)⟩,by simp[intOf];omega⟩
   obtain rfl:k=T:=oq;have k1:¬(k:Int)<(k:Int):=oq;have bd:jL (jQ (hg9 f) k out) k (c+1)=if mk=true then (t:Int) else nx:=by
    rw[jL,HT.o.2,bg.o,<-ar.o];rfl
   have av:=hid bd;have ax:(k:Int)-1-((c+1:Nat):Int)=(t:Int)-1:=by have:=HT.o.1;omega
   have ao:=hid ax;clear bd ax
   cases mk with
   | true =>
    go_wp2;exact⟨hid ⟨c+1,ay,by rw[ao.o],by rw[av.o];rfl,m.o⟩,by simp[intOf]⟩
   | false =>
    go_wp2;exact⟨hid ⟨c+1,ay,by rw[ao.o],by rw[av.o];rfl,m.o⟩,by simp[intOf]⟩
  obtain rfl:c=T:=oq;have bb:(c:Int)-1-(c:Int)=-1:=oq;rw[bb];rw[Zbb];have g:=M.o;rw[E7] at g
  cases hnb:GF (hg9 f) c out with
  | none =>
   rw[hnb] at g;simp only at g ⊢;subst g;have HE:=hid (HB3.o.trans (HB5.o.mono HB3.o.size));clear hnb hb5;go_wp2;go_ret2;exact⟨rfl,HB.o.trans (HE.o.mono HB.o.size)⟩
  | some x =>
   rw[hnb] at g;simp only at g ⊢;have bh:=hid g;have bv:¬(x:Int)<0:=oq;have L:=hid (show W5.ownsRow G.1.size 3 1 (.slice oa lo oc) lo (ints out) from(by have h:=own_below Z.o HB5.o;rw[q.o] at h;exact h));clear hnb g hb5 v HG;go_wp2_with (refine lite.Y6 _ (by rfl) _ _ _ (by rfl) G.1.size 3 bn _ 1 8 underlying44 HI.o.1 HI.o.2.1 HI.o.2.2.1 HI.o.2.2.2 rfl oq (.slice oa lo oc) lo (ints out) (by rfl) (own_below L.o ((Zg _ _).alloc (Zc _) _)) (some ⟨W5.1.size,0,none⟩) 1 1 [.int .i64 (x:Int)] (by rfl) (by rfl) (fun j u h=>⟨_,rfl,World.news_of_block (Zz _ _) j u h⟩) (by simp[Value.oneCell']) (by unfold maxLen;omega) oq (by simp;omega) ?_;intro v4 wz E az bi;have au:=hid E;obtain⟨ob,bc⟩:∃ob,(W5.alloc ob).grownBy wz (Value.slice oa lo oc).ownBlock:=⟨_,az⟩;have HB4:=hid (But.of_grown bc);clear E az bi bc);obtain⟨va,vc,bm⟩:=YF au.o;subst bm;refine⟨hid ⟨out++[(x:Int)],n',by simp[q.o];omega,by simp[ZeV,q.o],?_,?_,bh.o⟩,by simp[ZeV];omega⟩
   .have h:=au.o;rw[<-JB];simpa [q.o,ints] using h
   exact(HB3.o.trans (HB5.o.mono HB3.o.size)).trans (Below.trans ((Zg _ _).alloc (Zm HB3.o.size HB5.o.size) ob) (HB4.o.below (by simp;omega) (fun k hk=>X1 L.o k hk)))
 have l1:¬(lo:Int)<(T:Int):=oq;obtain rfl:n=0:=oq;have g:=M.o;rw[E7] at g;subst g;have HW:=hid (show H.ownsRow G.1.size 3 1 (.slice oa lo oc) out.length (ints out) from(by have h:=Z.o;rw[q.o] at h ⊢;exact h));go_wp2;go_ret2;exact⟨⟨_,rfl,Xz HW.o HB.o.size⟩,HB.o.trans (HB3.o.mono HB.o.size)⟩
