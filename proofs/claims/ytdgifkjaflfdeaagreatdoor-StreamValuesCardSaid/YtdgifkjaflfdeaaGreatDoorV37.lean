/- Parts of the proof. -/
import Derived.Test.YtdgifkjaflfdeaaGreatDoorV29
set_option linter.all false
set_option maxRecDepth 100000
set_option maxHeartbeats 16000000
namespace Go.Proofs.YtdgifkjaflfdeaaGreatDoor.syn
open Tryz
open Go.RowKit
theorem swp_get{l:List Int}{i j:Nat}(hi:i<l.length)(m:j<l.length)(k:Nat):(swp l i j).getD k 0=if k=j then l.getD i 0 else if k=i then l.getD j 0 else l.getD k 0:=by
 unfold swp;rw[Zf,List.getElem?_set];by_cases f:j=k
 ·subst f;rw[Z0 rfl,Z0 (by simp;exact m),Z0 rfl];rfl
 rw[ZZ f,ZZ (fun e=>f e.symm),List.getElem?_set];by_cases g:i=k
 ·subst g;rw[Z0 rfl,Z0 hi,Z0 rfl];rfl
 rw[ZZ g,ZZ (fun e=>g e.symm),Zf]
def HPn(l:List Int)(n:Nat):Prop:=∀i,0<i→i<n→l.getD ((i-1)/2) 0≤l.getD i 0
structure HPu (l:List Int) (n j:Nat):Prop where
 a:∀i,0<i→i<n→i≠j→l.getD ((i-1)/2) 0≤l.getD i 0
 b:∀c,0<c→c<n→(c-1)/2=j→0<j→l.getD ((j-1)/2) 0≤l.getD c 0
theorem Zdc:∀(m:Nat)(l:List Int)(j:Nat),j<m→j<l.length→HPu l l.length j→HPn (upP m l j) l.length:=by
 intro m
 induction m with
 | zero=>intro l j h;omega
 | succ m ih =>
  intro l j I G h;rw[upP];by_cases E:(j-1)/2=j
  ·rw[Z0 E];intro i x y;exact h.a i x y oq
  rw[ZZ E];by_cases C:l.getD j 0<l.getD ((j-1)/2) 0
  ·rw[Z0 C];have H:(j-1)/2<j:=oq;obtain⟨p,q⟩:=ez ((j-1)/2);rw[q] at H C ⊢;have A:=fun k=>swp_get (l:=l) (i:=p) (j:=j) oq G k
   have:=ih (swp l p j) p oq (by rw[Xc];omega) (by
    rw[Xc];refine⟨fun i x y hne=>?_,fun c c0 c1 hc p0=>?_⟩
    ·rw[A,A];by_cases f:i=j
     ·subst f;rw[q,ZZ oq,Z0 rfl,Z0 rfl];omega
     rw[ZZ f,ZZ hne];by_cases D:(i-1)/2=j
     ·rw[Z0 D];have:=h.b i x y D oq;rw[q] at this;exact this
     rw[ZZ D];have z:=h.a i x y f;by_cases v:(i-1)/2=p
     ·rw[Z0 v];rw[v] at z;omega
     rw[ZZ v];exact z
    rw[A,A,ZZ oq,ZZ oq];have z:=h.a p p0 oq oq;by_cases g:c=j
    ·rw[Z0 g];exact z
    rw[ZZ g,ZZ oq];have F:=h.a c c0 c1 g;rw[hc] at F;omega)
   rw[Xc] at this;exact this
  rw[ZZ C];intro i x y;by_cases f:i=j
  ·subst f;omega
  exact h.a i x y f
structure HPd (l:List Int) (n j:Nat):Prop where
 a:∀i,0<i→i<n→(i-1)/2≠j→l.getD ((i-1)/2) 0≤l.getD i 0
 b:∀c,0<c→c<n→(c-1)/2=j→0<j→l.getD ((j-1)/2) 0≤l.getD c 0
theorem ZfA{l:List Int}{i n:Nat}(h:¬n≤2*i+1):(Uq l i n=2*i+1∨Uq l i n=2*i+2)∧Uq l i n<n∧∀c,0<c→c<n→(c-1)/2=i→l.getD (Uq l i n) 0≤l.getD c 0:=by
 unfold Uq;by_cases f:2*i+2<n∧l.getD (2*i+2) 0<l.getD (2*i+1) 0
 ·rw[Z0 f];refine⟨.inr rfl,f.1,fun c c0 c1 hc=>?_⟩;have:c=2*i+1∨c=2*i+2:=oq;rcases this with rfl|rfl
  ·omega
  exact Int.le_refl _
 rw[ZZ f];refine⟨.inl rfl,oq,fun c c0 c1 hc=>?_⟩;have:c=2*i+1∨c=2*i+2:=oq;rcases this with rfl|rfl
 ·exact Int.le_refl _
 have:¬l.getD (2*i+2) 0<l.getD (2*i+1) 0:=fun e=>f ⟨c1,e⟩
 omega
theorem vV:∀(k:Nat)(l:List Int)(i n:Nat),n≤i+k→n≤l.length→HPd l n i→HPn (Qc k l i n) n∧∀m,n≤m→(Qc k l i n).getD m 0=l.getD m 0:=by
 intro k
 induction k with
 | zero =>
  intro l i n I E h;refine⟨fun c c0 c1=>h.a c c0 c1 oq,fun m hm=>rfl⟩
 | succ k ih =>
  intro l i n I E h;rw[Qc];by_cases A:n≤2*i+1
  ·rw[Z0 A];exact⟨fun c c0 c1=>h.a c c0 c1 oq,fun m hm=>rfl⟩
  rw[ZZ A];obtain⟨H,x,f⟩:=ZfA (l:=l) A;obtain⟨c,C⟩:=ez (Uq l i n);rw[C] at H x f ⊢;have q:(c-1)/2=i:=oq;by_cases D:l.getD c 0<l.getD i 0
  ·rw[Z0 D];have z:=fun k=>swp_get (l:=l) (i:=i) (j:=c) oq oq k
   obtain⟨F,G⟩:=ih (swp l i c) c n oq (by rw[Xc];exact E) (by
    refine⟨fun d d0 d1 hne=>?_,fun d d0 d1 hd _=>?_⟩
    ·rw[z,z,ZZ hne];by_cases g:(d-1)/2=i
     ·rw[Z0 g];by_cases y:d=c
      ·rw[Z0 y];omega
      rw[ZZ y,ZZ oq];exact f d d0 d1 g
     rw[ZZ g,ZZ (fun e=>g (by rw[e];exact q))];by_cases v:d=i
     ·rw[Z0 v];have:=h.b c oq x q oq;rw[v];exact this
     rw[ZZ v];exact h.a d d0 d1 g
    rw[z,z,q,ZZ oq,Z0 rfl,ZZ oq,ZZ oq];have:=h.a d d0 d1 oq;rw[hd] at this;exact this)
   refine⟨F,fun m hm=>?_⟩;rw[G m hm,z,ZZ oq,ZZ oq]
  rw[ZZ D];refine⟨fun d d0 d1=>?_,fun m hm=>rfl⟩;by_cases g:(d-1)/2=i
  ·have:=f d d0 d1 g;rw[g];omega
  exact h.a d d0 d1 g
theorem ZbW{l:List Int}{n:Nat}(h:HPn l n):∀i,i<n→l.getD 0 0≤l.getD i 0:=by
 intro i
 induction i using Nat.strongRecOn with
 | ind i ih =>
  intro hi;by_cases f:i=0
  ·subst f;exact Int.le_refl _
  have g:=ih ((i-1)/2) oq oq;have j:=h i oq hi;omega
theorem EJ{l:List Int}(h:HPn l l.length)(x:Int):HPn (QB l x) (QB l x).length:=by
 have f:∀k,k<l.length→(l++[x]).getD k 0=l.getD k 0:=fun k hk=>by
  rw[Zf,Zf,List.getElem?_append_left hk]
 have:=Zdc (l.length+1) (l++[x]) l.length oq (by simp) ⟨fun i i0 i1 hne=>by
  have hi:i<l.length:=by simp at i1;omega
  rw[f i hi,f _ oq];exact h i i0 hi,fun c c0 c1 hc h0=>by simp at c1;omega⟩
 rw[Kz];unfold QB;simpa using this
theorem zR{l:List Int}(A:l≠[])(h:HPn l l.length):(∀y∈l,(XL l).1≤y)∧(XL l).1∈l∧HPn (XL l).2 (XL l).2.length:=by
 have f:0<l.length:=by cases l with
  | nil=>exact absurd rfl A
  | cons _ _=>simp
 have g:=fun k=>swp_get (l:=l) (i:=0) (j:=l.length-1) f oq k
 obtain⟨v,x⟩:=vV l.length (swp l 0 (l.length-1)) 0 (l.length-1) oq (by rw[Xc];omega) ⟨fun i m q hne=>by
  rw[g,g,ZZ oq,ZZ oq,ZZ oq,ZZ oq];exact h i m oq,fun c c0 c1 hc f=>oq⟩
 have e:(XL l).1=l.getD 0 0:=by
  unfold XL XV;simp only;rw[x _ (Zc _),g,Z0 rfl]
 refine⟨fun y hy=>?_,?_,?_⟩
 ·obtain⟨i,hi,rfl⟩:=Yk hy;rw[e];have:=ZbW h i hi;rw[Zf,Zf,Ze hi] at this;rw[Zf];exact this
 ·rw[e];exact Jc f
 rw[EI];intro i m q;have z:=v i m q;have ht:∀k,k<l.length-1→(XL l).2.getD k 0=(XV l).getD k 0:=fun k hk=>by
  unfold XL;simp only;rw[Zf,Zf,Ym hk]
 rw[ht _ q,ht _ oq];exact z
def qH(hg:Nat→Nat→Bool)(T:Nat)(out:List Int)(t:Nat):Bool:=!decide ((t:Int)∈out)&&(List.range T).all (fun k=>!hg t k||decide ((k:Int)∈out))
def K7(hg:Nat→Nat→Bool)(T:Nat)(out:List Int):Option Nat:=(List.range T).find? (qH hg T out)
def Ez(hg:Nat→Nat→Bool)(T:Nat):Nat→List Int→Option (List Int)
 | 0,out=>some out
 | n+1,out=>match K7 hg T out with
  | none=>none
  | some t=>Ez hg T n (out++[(t:Int)])
def Zdp(f:FD)(hg:Nat→Nat→Bool):Prop:=∀t,t<f.tasks.length→∀k:Nat,k<f.tasks.length→(hg t k=true↔(k:Int)∈YZ f t)
theorem zg{s:WS}(r:Int)(h:HPn s.q s.q.length):HPn (YC s r).q (YC s r).q.length:=by
 unfold YC;simp only;split
 ·exact EJ h _
 exact h
theorem EM:∀(R:List Int)(s:WS),HPn s.q s.q.length→HPn (R.foldl YC s).q (R.foldl YC s).q.length
 | [],s,h=>h
 | r::R,s,h=>EM R _ (zg r h)
theorem next_heap{s:WS}(f:s.q≠[])(h:HPn s.q s.q.length):HPn (YK s).2.q (YK s).2.q.length:=by
 unfold YK;exact EM _ _ (zR f h).2.2
theorem V0(f:FD):∀n,HPn (Xg f n).q (Xg f n).q.length
 | 0=>by
  intro i i0 i1;simp[Xg] at i1
 | n+1=>by
  rw[QO];unfold Qz;split
  ·exact V0 f n
  simp only;split
  ·exact EJ (V0 f n) _
  exact V0 f n
theorem Er{f:FD}{m:Nat→Nat→Bool}(v:Zdp f m)(l:List Int){t:Nat}(ht:t<f.tasks.length):qH m f.tasks.length l t=true↔((t:Int)∉l∧∀y∈YZ f t,y∈l):=by
 unfold qH;rw[ZA,List.all_eq_true];constructor
 ·rintro⟨g,j⟩;refine⟨by simpa using g,fun y hy=>?_⟩;obtain⟨x,z⟩:=Zai y hy;obtain⟨k,rfl⟩:∃k:Nat,y=(k:Int):=⟨y.toNat,oq⟩;have q:=j k (List.mem_range.2 oq);rw[(v t ht k oq).2 hy] at q;simpa using q
 rintro⟨g,j⟩;refine⟨by simpa using g,fun k hk=>?_⟩
 cases hb:m t k with
 | false=>rfl
 | true =>
  have:=j _ ((v t ht k (List.mem_range.1 hk)).1 hb);simp[this]
theorem yn.all_out{f:FD}{s:WS}{l:List Int}(h:yn f s l)(I:l.length=f.tasks.length):s.q=[]:=by
 apply Yf;intro D;obtain⟨x,C⟩:=List.exists_mem_of_ne_nil _ D;obtain⟨F,G⟩:=h.ok.q x C;obtain⟨k,rfl⟩:∃k:Nat,x=(k:Int):=⟨x.toNat,oq⟩;have g:l.Nodup:=by
  rw[List.nodup_iff_count];intro a;by_cases A:a∈l
  ·have:=h.rng a A;obtain⟨j,rfl⟩:∃j:Nat,a=(j:Int):=⟨a.toNat,oq⟩;have:=h.nd j oq;omega
  rw[List.count_eq_zero.2 A];omega
 have m:(k:Int)∉l:=fun hm=>by
  have v:=h.nd k oq;have z:=List.count_pos_iff.2 C;have H:=List.count_pos_iff.2 hm;omega
 have v:((k:Int)::l).Nodup:=List.nodup_cons.2 ⟨m,g⟩;have z:=List.Nodup.length_le_of_subset (l₂:=(List.range f.tasks.length).map (fun k:Nat=>(k:Int))) v (by
  intro y hy;have E:0≤y∧y<(f.tasks.length:Int):=by
   rcases ZQ.1 hy with rfl|hy
   ·exact⟨F,G⟩
   exact h.rng y hy
  exact Yc.2 ⟨y.toNat,List.mem_range.2 oq,oq⟩)
 rw[Zp,Zo,List.length_range] at z;omega
theorem EB{s:WS}(f:s.q=[])(l:List Int):Y4 (muW s) s l=l:=by
 cases hm:muW s with
 | zero=>rfl
 | succ m=>rw[Y4,Z0 f]
theorem qU{f:FD}{y:Nat→Nat→Bool}(D:Zdp f y):∀(n:Nat)(s:WS)(l:List Int),yn f s l→HPn s.q s.q.length→l.length+n=f.tasks.length →
  Ez y f.tasks.length n l=if (Y4 (muW s) s l).length<f.tasks.length then none else some (Y4 (muW s) s l)
 | 0,s,l,h,hp,hl=>by
  rw[EB (h.all_out oq),ZZ oq];rfl
 | n+1,s,l,h,hp,hl=>by
  by_cases hq:s.q=[]
  ·rw[EB hq,Z0 oq,Ez];have:K7 y f.tasks.length l=none:=by
    unfold K7;rw[List.find?_eq_none];intro t ht E;have ht:=List.mem_range.1 ht;obtain⟨A,m⟩:=(Er D l ht).1 E;rcases (h.inn t ht).2 m with v|v
    ·rw[hq] at v;cases v
    exact A v
   rw[this]
  obtain⟨A,m,v⟩:=zR hq hp;obtain⟨L,M⟩:=h.ok.q _ m;obtain⟨x,J⟩:∃x:Nat,(XL s.q).1=(x:Int):=⟨(XL s.q).1.toNat,oq⟩;have z:(YK s).1=(x:Int):=J;rw[J] at A m L M;have g:x<f.tasks.length:=oq;have F:∀t:Nat,t<f.tasks.length→(t:Int)∈s.q→(t:Int)∉l:=fun t ht E hm2=>by
   have G:=h.nd t ht;have H:=List.count_pos_iff.2 E;have C:=List.count_pos_iff.2 hm2;omega
  have:K7 y f.tasks.length l=some x:=by
   unfold K7;rw[List.find?_range_eq_some];refine⟨(Er D l g).2 ⟨F x g m,(h.inn x g).1 (.inl m)⟩,List.mem_range.2 g,fun j hj=>?_⟩
   cases hb:qH y f.tasks.length l j with
   | false=>rfl
   | true =>
    obtain⟨G,H⟩:=(Er D l oq).1 hb;rcases (h.inn j oq).2 H with C|C
    ·have:=A _ C;omega
    exact absurd C G
  rw[Ez,this];simp only;have I:=qU D n (YK s).2 (l++[(YK s).1]) (h.next hq) (next_heap hq hp) (by simp;omega);rw[z] at I;rw[I,K9 l hq,z]
theorem ZfK{f:FD}{g:Nat→Nat→Bool}(j:Zdp f g):Ez g f.tasks.length f.tasks.length []=ofP f:=by
 rw[qU j _ (Gq f) [] (qQ f) (by rw[gI];exact V0 f _) (by simp)];rfl
theorem ZbU{w:World}(l:List Int)(L:Option Addr)(cap:Nat)(T:l.length≤100000)(h:Je w (Value.int .i64) L l)(n:Int) :
  Calls prog 37 #[.slice L l.length cap,.int .i64 n] w fun e w'=>e=.returned (.bool (decide (n∈l)))∧w'=w:=by
 have O:=hid h;obtain⟨A,j⟩:=ez l.length;have I:=hid j;rw[j] at T;obtain⟨an,m⟩:=ez (decide (n∈l));have H:=hid m;rw[m,j];clear h j m;go_enter func37,ntmps37;go_wp2;go_loopw [5] (fun s wr=>Hid (∃i:Nat,s=.int .i64 (i:Int)∧i≤A∧n∉l.take i∧wr=w)) (fun s _=>A-(intOf s).toNat)
 case atStart=>exact⟨0,rfl,Zk _,by simp,rfl⟩
 obtain⟨W,rfl⟩:=ey wr;obtain⟨i,rfl,hi,z,U⟩:=hrel.out;clear hrel;subst U;have q:=hid z;clear z;by_cases v:i<A
 ·have X:(0:Int)≤(i:Int):=oq;have V:(i:Int)<(A:Int):=oq;have g:i<l.length:=by rw[I.out];exact v
  obtain⟨b,o,rfl,hb,M⟩:=O.out.resolve_left (fun e=>by rw[e] at g;simp at g);obtain⟨x,G⟩:=ez (l[i]);have c0:=M i x (by rw[←G];exact Ze g);have J:=hid (show ∃h:i<l.length,l[i]=x from ⟨g,G⟩);clear M g G;by_cases f:x=n
  ·have R:(x == n)=true:=beq_iff_eq.2 f;have D:an=true:=by
    rw[←H.out];refine ZY ?_;obtain⟨E,F⟩:=J.out;rw[←f,←F];exact Zi E
   subst D;clear f;go_wp2;go_ret;exact⟨rfl,rfl⟩
  have R:(x == n)=false:=ZW.2 f;have C:=hid f;clear f;go_wp2;refine⟨hid ⟨i+1,by go_num,v,?_,by first|rfl|trivial⟩,by simp[intOf];omega⟩;obtain⟨E,F⟩:=J.out;rw[Zu E,F];intro y;rcases List.mem_append.1 y with y|y
  ·exact q.out y
  exact C.out (List.mem_singleton.1 y).symm
 obtain rfl:i=A:=oq;have V:¬(i:Int)<(i:Int):=oq;have D:an=false:=by
  rw[←H.out];refine ZX ?_;have:=q.out
  rwa [←I.out,ZR] at this
 subst D;go_wp2;go_ret;exact⟨rfl,rfl⟩
def UZ(o:Int × Int × Int):Bool:=decide (o.1=6)||(decide (o.1=5)&&decide (0<o.2.1))
def Q4(f:FD)(k:Nat)(a:AD):Bool:=decide (a.src=(f.ins.length:Int)+(k:Int))&&!(a.ops.any UZ)
def hg9(f:FD)(t k:Nat):Bool:=match f.tasks[t]? with
 | none=>false
 | some d=>d.args.any (Q4 f k)
theorem Vv{α:Type}{p:α→Bool}{l:List α}{j:Nat}(h:j<l.length):(l.take (j+1)).any p=((l.take j).any p||p l[j]):=by
 rw[Zu h,List.any_append];simp
theorem Zdx{α:Type}{p:α→Bool}{l:List α}{j:Nat}(h:j<l.length)(hp:p l[j]=true):l.any p=true:=List.any_eq_true.2 ⟨_,Zi h,hp⟩
theorem um{w:World}(f:FD)(ai an aT al:Option Addr)(ci cn ct cl:Nat)(hf:FAP w f ai an aT al)(t k:Nat)(ht:t<f.tasks.length)(hk:k≤100000) :
  Calls prog 38 #[fv f ai an aT al ci cn ct cl,.int .i64 (t:Int),.int .i64 (k:Int)] w fun e w'=>e=.returned (.bool (hg9 f t k))∧Below w.heap.size w w':=by
 obtain⟨d,hd⟩:∃d,f.tasks[t]?=some d:=⟨_,Ze ht⟩;have av:f.tasks[t]=d:=(Zz.1 hd).2;have ac:=hid (hf.args d (Z8 hd));have ax:=hf.lens;obtain⟨bt,ot,rfl,bf,au⟩:=hf.tasks.resolve_left (fun e=>by rw[e] at ht;simp at ht);obtain⟨u0,u1,u2,ta,tc,u3,F⟩:=au t ht;rw[av] at u3 F;obtain⟨G,A⟩:=ez (d.args.any (Q4 f k));have e9:hg9 f t k=G:=by unfold hg9;rw[hd];exact A
 rw[e9];have HA:=hid A;have ak:=hid F;have HU:=hid u3;have t0:(0:Int)≤(t:Int):=oq;have t1:(t:Int)<(f.tasks.length:Int):=oq;obtain⟨nA,J⟩:=ez d.args.length;have bi:nA≤1000:=by rw[←J];exact ac.out.1
 have ah:=hid J;rw[J] at HU;obtain⟨nI,V⟩:=ez f.ins.length;have bj:nI≤1000:=oq;have az:=hid V;unfold fv;rw[V];have ek:IntKind.i64.wrap ((nI:Int)+(k:Int))=(nI:Int)+(k:Int):=ZJ _ oq;clear hf au u0 u1 u2 u3 F A e9 J hd av V ax;obtain⟨W1,H⟩:=ez (w.alloc (.cells #[.slice ai nI ci,.slice an f.nods.length cn,.slice (some ⟨bt,ot,none⟩) f.tasks.length ct,.slice al f.tells.length cl] 35));have hB:Below w.heap.size w W1:=by rw[←H];exact bq
 have Z:W1.heap[w.heap.size]?=some (.cells #[.slice ai nI ci,.slice an f.nods.length cn,.slice (some ⟨bt,ot,none⟩) f.tasks.length ct,.slice al f.tells.length cl] 35 (0,0)):=by rw[←H];exact Yw w _
 have HQ:=hid Z;have HB:=hid hB;have aw:w.heap.size<W1.heap.size:=Zb Z;clear hB Z;go_enter func38,ntmps38;go_upto_region 1 with fail
 first|rw[H]|skip
 clear H;go_wp2;go_loopw [7] (fun s7 wr=>Hid (∃i:Nat,s7=.int .i64 (i:Int)∧i≤nA∧(d.args.take i).any (Q4 f k)=false∧Below W1.heap.size W1 wr)) (fun s _=>nA-(intOf s).toNat)
 case atStart=>exact⟨0,rfl,Zk _,rfl,Zg _ _⟩
 obtain⟨W3,rfl⟩:=ey wr;obtain⟨i,rfl,hi,ay,hb3⟩:=hrel.out;clear hrel;have HB3:=hid hb3;have aj:=hid ay;have bl:=hb3.size;have C:Below w.heap.size w W3:=HB.out.trans (hb3.mono HB.out.size);have HBW:=hid C;obtain⟨⟨x0,x1,x2,x3⟩,xf⟩:=Yx ((hb3.block _ aw).trans HQ.out);have y3:=(C.cell (p:=⟨bt,_,none⟩) bf).trans HU.out;clear ay hb3;by_cases T:i<nA
 ·have i0:(0:Int)≤(i:Int):=oq;have i1:(i:Int)<(nA:Int):=oq;have m:i<d.args.length:=by rw[ah.out];exact T
  obtain⟨ba,oa,rfl,ao,aq⟩:=ak.out.resolve_left (fun e=>by rw[e] at m;simp at m);obtain⟨v0,pa,pc,v1,E⟩:=aq i m;obtain⟨a,z⟩:=ez (d.args[i]);rw[z] at v0 v1 E;have z0:=(C.cell (p:=⟨ba,_,none⟩) ao).trans v0;have z1:=(C.cell (p:=⟨ba,_,none⟩) ao).trans v1;have ae:=hid (show(d.args.take (i+1)).any (Q4 f k)=Q4 f k a by rw[Vv m,aj.out,Bool.false_or,z]);have am:=hid (fun(h:Q4 f k a=true)=>show G=true by rw[←HA.out];exact Zdx m (by rw[z];exact h));have bh:=(ac.out.2 a (by rw[←z];exact Zi m)).1;have bc:=hid E;obtain⟨nO,X⟩:=ez a.ops.length;have L:=hid X;rw[X] at z1 bh;obtain⟨sr,ab⟩:=ez a.src;have be:=hid ab;rw[ab] at z0;clear C aq v0 v1 E m z X ab;go_upto_region 5 with fail
  obtain⟨W4,I⟩:=ez (W3.alloc (.cells #[.int .i64 sr,.slice pa nO pc] 92));rw[I];have hb4:Below W3.heap.size W3 W4:=by rw[←I];exact bq
  have aa:W4.heap[W3.heap.size]?=some (.cells #[.int .i64 sr,.slice pa nO pc] 92 (0,0)):=by rw[←I];exact Yw W3 _
  have bd:=hid aa;have HB4:=hid hb4;have bg:=Zb aa;clear I hb4 aa z0 z1 x0 x1 x2 x3 xf y3;go_wp2;go_loopw [9,10] (fun s9 s10 wr=>Hid (∃j:Nat,s10=.int .i64 (j:Int)∧j≤nO∧s9=.bool ((a.ops.take j).any UZ)∧Below W4.heap.size W4 wr)) (fun _ s _=>nO-(intOf s).toNat)
  case atStart=>exact⟨0,rfl,Zk _,rfl,Zg _ _⟩
  obtain⟨W5,rfl⟩:=ey wr;obtain⟨j,rfl,hj,rfl,hb5⟩:=hrel.out;clear hrel;have HB5:=hid hb5;obtain⟨⟨z0,z1⟩,zf⟩:=YJ ((hb5.block _ bg).trans bd.out);have g:Below w.heap.size w W5:=HBW.out.trans ((HB4.out.trans (hb5.mono HB4.out.size)).mono HBW.out.size);have af:=hid g;obtain⟨lt,U⟩:=ez ((a.ops.take j).any UZ);have ag:=hid U;rw[U];clear U;by_cases v:j<nO
  ·have j0:(0:Int)≤(j:Int):=oq;have j1:(j:Int)<(nO:Int):=oq;have D:j<a.ops.length:=by rw[L.out];exact v
   obtain⟨bo,oo,rfl,ap,ar⟩:=bc.out.resolve_left (fun e=>by rw[e] at D;simp at D);obtain⟨o0,o1,o2⟩:=ar j D;obtain⟨⟨ok,on,od⟩,Y⟩:=ez (a.ops[j]);rw[Y] at o0 o1;have q0:=(g.cell (p:=⟨bo,_,none⟩) ap).trans o0;have q1:=(g.cell (p:=⟨bo,_,none⟩) ap).trans o1;simp only at q0 q1;have bb:=hid (show(a.ops.take (j+1)).any UZ=(lt||(decide (ok=6)||(decide (ok=5)&&decide (0<on)))) by rw[Vv D,ag.out,Y];rfl);clear ar o0 o1 o2 D Y hb5 g;have fin:∀b:Bool,(lt||(decide (ok=6)||(decide (ok=5)&&decide (0<on))))=b→(a.ops.take (j+1)).any UZ=b:=fun b h=>bb.out.trans h
   have x:=hid fin;clear fin
   cases lt with
   | true =>
    go_wp2;exact⟨hid ⟨j+1,by go_num,v,by rw[x.out true rfl],HB5.out⟩,by simp[intOf];omega⟩
   | false =>
    by_cases O:ok=6
    ·have e6:(ok == 6)=true:=beq_iff_eq.2 O;have y:=hid (x.out true (by simp[O]));clear O;go_wp2;exact⟨hid ⟨j+1,by go_num,v,by rw[y.out],HB5.out⟩,by simp[intOf];omega⟩
    have e6:(ok == 6)=false:=ZW.2 O;by_cases M:ok=5
    ·have e5:(ok == 5)=true:=beq_iff_eq.2 M;by_cases bk:on > 0
     ·have y:=hid (x.out true (by simp[M];omega));clear M O;go_wp2;exact⟨hid ⟨j+1,by go_num,v,by rw[y.out],HB5.out⟩,by simp[intOf];omega⟩
     have y:=hid (x.out false (by simp[M];omega));clear M O;go_wp2;exact⟨hid ⟨j+1,by go_num,v,by rw[y.out],HB5.out⟩,by simp[intOf];omega⟩
    have e5:(ok == 5)=false:=ZW.2 M;have y:=hid (x.out false (by simp[M,O]));clear M O;go_wp2;exact⟨hid ⟨j+1,by go_num,v,by rw[y.out],HB5.out⟩,by simp[intOf];omega⟩
  obtain rfl:j=nO:=oq;have j1:¬(j:Int)<(j:Int):=oq;have R:a.ops.any UZ=lt:=by have:=ag.out;rwa [←L.out,ZR] at this
  have bn:=hb5.size;have bm:=HB4.out.size;obtain⟨⟨x0,x1,x2,x3⟩,xf⟩:=Yx ((hb5.block _ oq).trans ((HB4.out.block _ oq).trans ((HB3.out.block _ aw).trans HQ.out)));have HW:=hid ((HB4.out.trans (HB5.out.mono HB4.out.size)));have hh:Q4 f k a=(decide (sr=(nI:Int)+(k:Int))&&!lt):=by unfold Q4;rw[R,be.out,az.out]
  have HH:=hid hh;clear hb5 g R hh;by_cases q:sr=(nI:Int)+(k:Int)
  ·have e1:(sr == (nI:Int)+(k:Int))=true:=beq_iff_eq.2 q
   cases lt with
   | false =>
    have e2:G=true:=am.out (by rw[HH.out,q];simp);subst e2;clear q;go_wp2;go_ret;exact⟨rfl,af.out⟩
   | true =>
    have y:=hid (show Q4 f k a=false by rw[HH.out];simp);clear q;go_wp2;exact⟨hid ⟨i+1,by go_num,T,by rw[ae.out,y.out],HB3.out.trans (HW.out.mono HB3.out.size)⟩,by simp[intOf];omega⟩
  have e1:(sr == (nI:Int)+(k:Int))=false:=ZW.2 q;have y:=hid (show Q4 f k a=false by rw[HH.out,ZX q];rfl);clear q;go_wp2;exact⟨hid ⟨i+1,by go_num,T,by rw[ae.out,y.out],HB3.out.trans (HW.out.mono HB3.out.size)⟩,by simp[intOf];omega⟩
 obtain rfl:i=nA:=oq;have i1:¬(i:Int)<(i:Int):=oq;have e2:G=false:=by
  have:=aj.out;rw[←ah.out,ZR,HA.out] at this;exact this
 subst e2;go_wp2;go_ret;exact⟨rfl,HBW.out⟩
end Go.Proofs.YtdgifkjaflfdeaaGreatDoor.syn
