/- Parts of the proof. -/
import Derived.Test.YtdgifkjaflfdeaaGreatDoorV37
set_option linter.all false
set_option maxRecDepth 100000
set_option maxHeartbeats 16000000
namespace Go.Proofs.YtdgifkjaflfdeaaGreatDoor.syn
open Tryz
open Go.RowKit
def qC(p:Nat→Bool)(T:Nat):Nat→Int
 | 0=>-1
 | c+1=>if p (T-(c+1))=true then ((T-(c+1):Nat):Int) else qC p T c
theorem zJ(p:Nat→Bool)(T:Nat):∀c,c≤T→qC p T c=match (List.range' (T-c) c).find? p with|none=>-1|some j=>(j:Int)
 | 0,_=>rfl
 | c+1,hc=>by
  rw[qC,List.range'_succ,List.find?_cons]
  cases hp:p (T-(c+1)) with
  | true=>simp
  | false =>
   simp only[Bool.false_eq_true,if_false];rw[zJ p T c oq,show T-(c+1)+1=T-c by omega]
theorem Zam(f:Nat→Nat→Bool)(T:Nat)(out:List Int):qC (qH f T out) T T=match K7 f T out with|none=>-1|some j=>(j:Int):=by
 rw[zJ _ _ _ (Zc _),Nat.sub_self];unfold K7;rw[List.range_eq_range']
theorem Zcx{w:World}{base:Nat}{e:TypeId}{l:List Int}{a:Option Addr}{c:Nat}(h:w.ownsRow base e 1 (.slice a l.length c) l.length (ints l)):Je w (Value.int .i64) a l:=by
 have f:=h;rcases h.2 with ⟨_,hn⟩|⟨g,cap,cur,e,hb,hg,_⟩
 ·exact .inl (Yb hn)
 injection e with e1 e2 e3
 subst e1;subst e3;exact .inr ⟨g,0,rfl,Zb hg,fun i x hx=>by
  rw[ZC];exact(World.ownsRow.cellAt f i (by have:=(Zz.1 hx).1;omega)).trans (by simp[ints,hx])⟩
def qI(hg:Nat→Nat→Bool)(out:List Int)(t k:Nat):Bool:=!decide ((t:Int)∈out)&&(List.range k).all (fun k=>!hg t k||decide ((k:Int)∈out))
theorem Zas(f:Nat→Nat→Bool)(out:List Int)(t k:Nat):qI f out t (k+1)=(qI f out t k&&(!f t k||decide ((k:Int)∈out))):=by
 unfold qI;rw[Yg,List.all_append];simp[Bool.and_assoc]
def Zd0:Value→Nat
 | .slice _ n _=>n
 | _=>0
def vh(B T:Nat)(r:Option (List Int))(x:Ending)(w':World):Prop:=match r with
 | none=>x=.returned (.tuple #[.slice none 0 0,.bool false])
 | some l=>∃v,x=.returned (.tuple #[v,.bool true])∧w'.ownsRow B 3 1 v l.length (ints l)
theorem Zb2:(prog.info? 3).map (fun i=>(i.zero,i.size,i.bytes))=some (some (.int .i64 0),1,8):=by kernel_rfl
theorem Zd9{w:World}(f:FD)(ai an aT al:Option Addr)(ci cn ct cl:Nat)(hf:FAP w f ai an aT al) :
  Calls prog 12 #[fv f ai an aT al ci cn ct cl] w fun e w'=>vh w.heap.size f.tasks.length (Ez (hg9 f) f.tasks.length f.tasks.length []) e w'∧Below w.heap.size w w':=by
 have HG:=hid (fun(W:World) (hb:Below w.heap.size w W) (t k:Nat) (ht:t<f.tasks.length) (hk:k≤100000)=>um (w:=W) f ai an aT al ci cn ct cl (hf.below hb) t k ht hk);have hT:=hf.lens.2.2.1;obtain⟨r,hr⟩:=ez (Ez (hg9 f) f.tasks.length f.tasks.length []);rw[hr];have HR:=hid hr;clear hf hr;unfold fv at *;obtain⟨T,ab⟩:=ez f.tasks.length;rw[ab] at hT HG HR ⊢;have bp:=hid ab;clear ab;obtain⟨G,I⟩:=ez (w.alloc (.cells #[.slice ai f.ins.length ci,.slice an f.nods.length cn,.slice aT T ct,.slice al f.tells.length cl] 35));have hB:Below w.heap.size w G:=by rw[←I];exact bq
 have am:G.heap[w.heap.size]?=some (.cells #[.slice ai f.ins.length ci,.slice an f.nods.length cn,.slice aT T ct,.slice al f.tells.length cl] 35 (0,0)):=by rw[←I];exact Yw w _
 have HQ:=hid am;have HB:=hid hB;have ba:w.heap.size<G.heap.size:=Zb am;obtain⟨bn,O,R,U,V⟩:=info_parts Zb2;have HI:=hid (Zh O (Zh R (Zh U V)));clear hB am O R U V;go_enter func12,ntmps12;go_upto_region 1 with fail
 first|rw[I]|skip
 clear I;go_wp2;go_loopw [4] (fun s4 wr=>Hid (∃(out:List Int)(n:Nat),out.length+n=T∧Zd0 s4=out.length∧wr.ownsRow G.heap.size 3 1 s4 out.length (ints out)∧Below G.heap.size G wr∧Ez (hg9 f) T n out=r)) (fun s4 _=>T-Zd0 s4)
 case atStart=>exact⟨[],T,by simp,rfl,Yd _ _ _ _,Zg _ _,HR.out⟩
 obtain⟨H,rfl⟩:=ey wr;obtain⟨out,n,hn,bj,D,hb3,X⟩:=hrel.out;clear hrel;obtain⟨oa,oc,rfl⟩:=YG D;clear bj;have Z:=hid D;have HB3:=hid hb3;have M:=hid X;have bs:=hb3.size;obtain⟨⟨x0,x1,x2,x3⟩,xf⟩:=Yx ((hb3.block _ ba).trans HQ.out);obtain⟨lo,ah⟩:=ez out.length;have q:=hid ah;rw[ah] at hn ⊢;clear D hb3 X ah;by_cases br:lo<T
 ·have l1:(lo:Int)<(T:Int):=oq;have bo:lo≤1000:=oq;obtain⟨n',rfl⟩:∃n',n=n'+1:=⟨n-1,oq⟩;have et:IntKind.i64.wrap ((T:Int)-1)=(T:Int)-1:=ZJ _ oq;have v:=hid (fun(W:World) (hb:Below H.heap.size H W) (x:Int)=>ZbU (w:=W) out oa oc (by rw[q.out];omega) (Zcx (own_below (Z.out) hb)) x);rw[q.out] at v;go_wp2;go_loopw [5,6] (fun s5 s6 wr=>Hid (∃c:Nat,c≤T∧s6=.int .i64 ((T:Int)-1-(c:Int))∧s5=.int .i64 (qC (qH (hg9 f) T out) T c)∧Below H.heap.size H wr)) (fun _ s6 _=>((intOf s6)+1).toNat)
  case atStart=>exact⟨0,Zk _,by first|rfl|(simp;done)|go_num,rfl,Zg _ _⟩
  obtain⟨W5,rfl⟩:=ey wr;obtain⟨c,hc,rfl,rfl,hb5⟩:=hrel.out;clear hrel;have HB5:=hid hb5;have bt:=hb5.size;by_cases ay:c<T
  ·obtain⟨t,ht⟩:∃t:Nat,(T:Int)-1-(c:Int)=(t:Int):=⟨T-1-c,oq⟩;have bl:t<T:=oq;have be:T-(c+1)=t:=oq;have HT:=hid (Zh ht be);rw[ht];have t0:(t:Int)≥0:=oq;obtain⟨nx,ak⟩:=ez (qC (qH (hg9 f) T out) T c);rw[ak];have bg:=hid ak;obtain⟨b0,ac⟩:=ez (decide ((t:Int)∈out));have ap:=hid (v.out W5 HB5.out (t:Int));rw[ac] at ap;have bf:=hid ac;clear ht be ak ac hb5;go_upto_region 8 with (go_at_call 37;refine ap.out.mono ?_;rintro y W5 ⟨rfl,rfl⟩)
   go_wp2;go_loopw [7,8] (fun s7 s8 wr=>Hid (∃k:Nat,k≤T∧s8=.int .i64 (k:Int)∧s7=.bool (qI (hg9 f) out t k)∧Below W5.heap.size W5 wr)) (fun _ s8 _=>T-(intOf s8).toNat)
   case atStart=>exact⟨0,Zk _,rfl,by rw[show qI (hg9 f) out t 0=!b0 by rw[←bf.out];simp[qI]],Zg _ _⟩
   obtain⟨W7,rfl⟩:=ey wr;obtain⟨k,hk,rfl,rfl,J⟩:=hrel.out;clear hrel;have z:=hid J;have bu:=J.size;have A:Below H.heap.size H W7:=HB5.out.trans (J.mono HB5.out.size);obtain⟨⟨z0,z1,z2,z3⟩,zf⟩:=Yx ((A.block _ oq).trans ((HB3.out.block _ ba).trans HQ.out));have m:=hid A;obtain⟨mk,aj⟩:=ez (qI (hg9 f) out t k);have ar:=hid aj;rw[aj];clear aj J A;by_cases ag:k<T
   ·have k1:(k:Int)<(T:Int):=oq;have aw:Below w.heap.size w W7:=HB.out.trans ((HB3.out.trans (m.out.mono HB3.out.size)).mono HB.out.size);have Y:=hid (HG.out W7 aw t k bl oq);obtain⟨hb,af⟩:=ez (hg9 f t k);obtain⟨bk,ae⟩:=ez (decide ((k:Int)∈out));rw[af] at Y;have aq:=hid (fun(W:World) (h:Below H.heap.size H W)=>v.out W h (k:Int));rw[ae] at aq;have aa:=hid (show qI (hg9 f) out t (k+1)=(mk&&(!hb||bk)) by rw[Zas,ar.out,af,ae]);clear af ae aw
    cases mk with
    | false =>
     go_wp2;exact⟨hid ⟨k+1,ag,by go_num,by rw[aa.out];rfl,z.out⟩,by simp[intOf];omega⟩
    | true =>
     cases hb with
     | false =>
      go_wp2_with (go_at_call 38;refine Y.out.mono ?_;rintro y w8 ⟨rfl,C⟩;have F:=hid C;clear C);exact⟨hid ⟨k+1,ag,by go_num,by rw[aa.out];rfl,z.out.trans (F.out.mono z.out.size)⟩,by simp[intOf];omega⟩
     | true =>
      go_wp2_with (first|(go_at_call 38;refine Y.out.mono ?_;rintro y w8 ⟨rfl,C⟩;have F:=hid C;clear C)|(go_at_call 37;refine(aq.out _ (m.out.trans (F.out.mono m.out.size))).mono ?_;rintro y w9 ⟨rfl,rfl⟩));exact⟨hid ⟨k+1,ag,by go_num,by rw[aa.out];simp,z.out.trans (F.out.mono z.out.size)⟩,by simp[intOf];omega⟩
   obtain rfl:k=T:=oq;have k1:¬(k:Int)<(k:Int):=oq;have bd:qC (qH (hg9 f) k out) k (c+1)=if mk=true then (t:Int) else nx:=by
    rw[qC,HT.out.2,bg.out,←ar.out];rfl
   have av:=hid bd;have ax:(k:Int)-1-((c+1:Nat):Int)=(t:Int)-1:=by have:=HT.out.1;omega
   have ao:=hid ax;clear bd ax
   cases mk with
   | true =>
    go_wp2;exact⟨hid ⟨c+1,ay,by rw[ao.out],by rw[av.out];rfl,m.out⟩,by simp[intOf]⟩
   | false =>
    go_wp2;exact⟨hid ⟨c+1,ay,by rw[ao.out],by rw[av.out];rfl,m.out⟩,by simp[intOf]⟩
  obtain rfl:c=T:=oq;have bb:(c:Int)-1-(c:Int)=-1:=oq;rw[bb];rw[Zam];have g:=M.out;rw[Ez] at g
  cases hnb:K7 (hg9 f) c out with
  | none =>
   rw[hnb] at g;simp only at g ⊢;subst g;have HE:=hid (HB3.out.trans (HB5.out.mono HB3.out.size));clear hnb hb5;go_wp2;go_ret2;exact⟨rfl,HB.out.trans (HE.out.mono HB.out.size)⟩
  | some x =>
   rw[hnb] at g;simp only at g ⊢;have bh:=hid g;have bv:¬(x:Int)<0:=oq;have L:=hid (show W5.ownsRow G.heap.size 3 1 (.slice oa lo oc) lo (ints out) from(by have h:=own_below Z.out HB5.out;rw[q.out] at h;exact h));clear hnb g hb5 v HG;go_wp2_with (refine lite.Xz _ (by rfl) _ _ _ (by rfl) G.heap.size 3 bn _ 1 8 underlying44 HI.out.1 HI.out.2.1 HI.out.2.2.1 HI.out.2.2.2 rfl oq (.slice oa lo oc) lo (ints out) (by rfl) (own_below L.out ((Zg _ _).alloc (Zc _) _)) (some ⟨W5.heap.size,0,none⟩) 1 1 [.int .i64 (x:Int)] (by rfl) (by rfl) (fun j u h=>⟨_,rfl,World.news_of_block (Zy _ _) j u h⟩) (by simp[Value.oneCell']) (by unfold maxLen;omega) oq (by simp;omega) ?_;intro v4 wz E az bi;have au:=hid E;obtain⟨ob,bc⟩:∃ob,(W5.alloc ob).grownBy wz (Value.slice oa lo oc).ownBlock:=⟨_,az⟩;have HB4:=hid (But.of_grown bc);clear E az bi bc);obtain⟨va,vc,bm⟩:=YG au.out;subst bm;refine⟨hid ⟨out++[(x:Int)],n',by simp[q.out];omega,by simp[Zd0,q.out],?_,?_,bh.out⟩,by simp[Zd0];omega⟩
   ·have h:=au.out;rw[←Jk];simpa [q.out,ints] using h
   exact(HB3.out.trans (HB5.out.mono HB3.out.size)).trans (Below.trans ((Zg _ _).alloc (Zm HB3.out.size HB5.out.size) ob) (HB4.out.below (by simp;omega) (fun k hk=>YW L.out k hk)))
 have l1:¬(lo:Int)<(T:Int):=oq;obtain rfl:n=0:=oq;have g:=M.out;rw[Ez] at g;subst g;have HW:=hid (show H.ownsRow G.heap.size 3 1 (.slice oa lo oc) out.length (ints out) from(by have h:=Z.out;rw[q.out] at h ⊢;exact h));go_wp2;go_ret2;exact⟨⟨_,rfl,Xo HW.out HB.out.size⟩,HB.out.trans (HB3.out.mono HB.out.size)⟩
end Go.Proofs.YtdgifkjaflfdeaaGreatDoor.syn
