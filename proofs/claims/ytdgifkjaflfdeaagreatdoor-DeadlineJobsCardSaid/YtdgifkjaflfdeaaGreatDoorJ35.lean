/- Parts of the proof. -/
import Derived.Test.YtdgifkjaflfdeaaGreatDoorJ28
set_option linter.all false
set_option maxRecDepth 100000
set_option maxHeartbeats 16000000
namespace Go.Proofs.YtdgifkjaflfdeaaGreatDoor.syn
open Tryz
open Go.RowKit
variable {l:List Int}{i j n:Nat}{s:WS}{f:FD}{w:World}{α:Type}
theorem swp_get(hi:i<l.length)(m:j<l.length)(k:Nat):(swp l i j).getD k 0=if k=j then l.getD i 0 else if k=i then l.getD j 0 else l.getD k 0:=by
 unfold swp;rw[Zf,List.getElem?_set];by_cases f:j=k
 .subst f;rw[Z1 rfl,Z1 (by simp;exact m),Z1 rfl];rfl
 rw[Z0 f,Z0 (fun e=>f e.symm),List.getElem?_set];by_cases g:i=k
 .subst g;rw[Z1 rfl,Z1 hi,Z1 rfl];rfl
 rw[Z0 g,Z0 (fun e=>g e.symm),Zf]
def HPn(l:List Int)(n:Nat):Prop:=∀i,0<i->i<n->l.getD ((i-1)/2) 0<=l.getD i 0
structure HPu (l:List Int) (n j:Nat):Prop where
 a:∀i,0<i->i<n->i≠j->l.getD ((i-1)/2) 0<=l.getD i 0
 b:∀c,0<c->c<n->(c-1)/2=j->0<j->l.getD ((j-1)/2) 0<=l.getD c 0
theorem Zd9:∀(m:Nat)(l:List Int)(j:Nat),j<m->j<l.length->HPu l l.length j->HPn (upP m l j) l.length:=by
 intro m
 induction m with
 | zero=>intro l j h;omega
 | succ m ih =>
  intro l j I G h;rw[upP];by_cases E:(j-1)/2=j
  .rw[Z1 E];intro i x y;exact h.a i x y oq
  rw[Z0 E];by_cases C:l.getD j 0<l.getD ((j-1)/2) 0
  .rw[Z1 C];have H:(j-1)/2<j:=oq;obtain⟨p,q⟩:=ez ((j-1)/2);rw[q] at H C ⊢;have A:=fun k=>swp_get (l:=l) (i:=p) (j:=j) oq G k
   have:=ih (swp l p j) p oq (by rw[Xf];omega) (by
    rw[Xf];refine⟨fun i x y hne=>?_,fun c c0 c1 hc p0=>?_⟩
    .rw[A,A];by_cases f:i=j
     .subst f;rw[q,Z0 oq,Z1 rfl,Z1 rfl];omega
     rw[Z0 f,Z0 hne];by_cases D:(i-1)/2=j
     .rw[Z1 D];have:=h.b i x y D oq;rw[q] at this;exact this
     rw[Z0 D];have z:=h.a i x y f;by_cases v:(i-1)/2=p
     .rw[Z1 v];rw[v] at z;omega
     rw[Z0 v];exact z
    rw[A,A,Z0 oq,Z0 oq];have z:=h.a p p0 oq oq;by_cases g:c=j
    .rw[Z1 g];exact z
    rw[Z0 g,Z0 oq];have F:=h.a c c0 c1 g;rw[hc] at F;omega)
   rw[Xf] at this;exact this
  rw[Z0 C];intro i x y;by_cases f:i=j
  .subst f;omega
  exact h.a i x y f
structure HPd (l:List Int) (n j:Nat):Prop where
 a:∀i,0<i->i<n->(i-1)/2≠j->l.getD ((i-1)/2) 0<=l.getD i 0
 b:∀c,0<c->c<n->(c-1)/2=j->0<j->l.getD ((j-1)/2) 0<=l.getD c 0
theorem Zgi(h:¬n<=2*i+1):(UD l i n=2*i+1\/UD l i n=2*i+2)/\UD l i n<n/\∀c,0<c->c<n->(c-1)/2=i->l.getD (UD l i n) 0<=l.getD c 0:=by
 unfold UD;by_cases f:2*i+2<n/\l.getD (2*i+2) 0<l.getD (2*i+1) 0
 .rw[Z1 f];refine⟨.inr rfl,f.1,fun c c0 c1 hc=>?_⟩;have:c=2*i+1\/c=2*i+2:=oq;rcases this with rfl|rfl
  .omega
  exact Int.le_refl _
 rw[Z0 f];refine⟨.inl rfl,oq,fun c c0 c1 hc=>?_⟩;have:c=2*i+1\/c=2*i+2:=oq;rcases this with rfl|rfl
 .exact Int.le_refl _
 have:¬l.getD (2*i+2) 0<l.getD (2*i+1) 0:=fun e=>f ⟨c1,e⟩
 omega
theorem uJ:∀(k:Nat)(l:List Int)(i n:Nat),n<=i+k->n<=l.length->HPd l n i->HPn (Qi k l i n) n/\∀m,n<=m->(Qi k l i n).getD m 0=l.getD m 0:=by
 intro k
 induction k with
 | zero =>
  intro l i n I E h;refine⟨fun c c0 c1=>h.a c c0 c1 oq,fun m hm=>rfl⟩
 | succ k ih =>
  intro l i n I E h;rw[Qi];by_cases A:n<=2*i+1
  .rw[Z1 A];exact⟨fun c c0 c1=>h.a c c0 c1 oq,fun m hm=>rfl⟩
  rw[Z0 A];obtain⟨H,x,f⟩:=Zgi (l:=l) A;obtain⟨c,C⟩:=ez (UD l i n);rw[C] at H x f ⊢;have q:(c-1)/2=i:=oq;by_cases D:l.getD c 0<l.getD i 0
  .rw[Z1 D];have z:=fun k=>swp_get (l:=l) (i:=i) (j:=c) oq oq k
   obtain⟨F,G⟩:=ih (swp l i c) c n oq (by rw[Xf];exact E) (by
    refine⟨fun d d0 d1 hne=>?_,fun d d0 d1 hd _=>?_⟩
    .rw[z,z,Z0 hne];by_cases g:(d-1)/2=i
     .rw[Z1 g];by_cases y:d=c
      .rw[Z1 y];omega
      rw[Z0 y,Z0 oq];exact f d d0 d1 g
     rw[Z0 g,Z0 (fun e=>g (by rw[e];exact q))];by_cases v:d=i
     .rw[Z1 v];have:=h.b c oq x q oq;rw[v];exact this
     rw[Z0 v];exact h.a d d0 d1 g
    rw[z,z,q,Z0 oq,Z1 rfl,Z0 oq,Z0 oq];have:=h.a d d0 d1 oq;rw[hd] at this;exact this)
   refine⟨F,fun m hm=>?_⟩;rw[G m hm,z,Z0 oq,Z0 oq]
  rw[Z0 D];refine⟨fun d d0 d1=>?_,fun m hm=>rfl⟩;by_cases g:(d-1)/2=i
  .have:=f d d0 d1 g;rw[g];omega
  exact h.a d d0 d1 g
theorem ZcH(h:HPn l n):∀i,i<n->l.getD 0 0<=l.getD i 0:=by
 intro i
 induction i using Nat.strongRecOn with
 | ind i ih =>
  intro hi;by_cases f:i=0
  .subst f;exact Int.le_refl _
  have g:=ih ((i-1)/2) oq oq;have j:=h i oq hi;omega
theorem zl(h:HPn l l.length)(x:Int):HPn (QI l x) (QI l x).length:=by
 have f:∀k,k<l.length->(l++[x]).getD k 0=l.getD k 0:=fun k hk=>by
  rw[Zf,Zf,List.getElem?_append_left hk]
 have:=Zd9 (l.length+1) (l++[x]) l.length oq (by simp) ⟨fun i i0 i1 hne=>by
  have hi:i<l.length:=by simp at i1;omega
  rw[f i hi,f _ oq];exact h i i0 hi,fun c c0 c1 hc h0=>by simp at c1;omega⟩
 rw[Gg];unfold QI;simpa using this
theorem yL(A:l≠[])(h:HPn l l.length):(∀y∈l,(XV l).1<=y)/\(XV l).1∈l/\HPn (XV l).2 (XV l).2.length:=by
 have f:0<l.length:=by cases l with
  | nil=>exact absurd rfl A
  | cons _ _=>simp
 have g:=fun k=>swp_get (l:=l) (i:=0) (j:=l.length-1) f oq k
 obtain⟨v,x⟩:=uJ l.length (swp l 0 (l.length-1)) 0 (l.length-1) oq (by rw[Xf];omega) ⟨fun i m q hne=>by
  rw[g,g,Z0 oq,Z0 oq,Z0 oq,Z0 oq];exact h i m oq,fun c c0 c1 hc f=>oq⟩
 have e:(XV l).1=l.getD 0 0:=by
  unfold XV X2;simp only;rw[x _ (Zc _),g,Z1 rfl]
 refine⟨fun y hy=>?_,?_,?_⟩
 .obtain⟨i,hi,rfl⟩:=Yl hy;rw[e];have:=ZcH h i hi;rw[Zf,Zf,Ze hi] at this;rw[Zf];exact this
 .rw[e];exact Js f
 rw[zk];intro i m q;have z:=v i m q;have ht:∀k,k<l.length-1->(XV l).2.getD k 0=(X2 l).getD k 0:=fun k hk=>by
  unfold XV;simp only;rw[Zf,Zf,Yn hk]
 rw[ht _ q,ht _ oq];exact z
def jQ(hg:Nat->Nat->Bool)(T:Nat)(out:List Int)(t:Nat):Bool:=!decide ((t:Int)∈out)&&(List.range T).all (fun k=>!hg t k||decide ((k:Int)∈out))
def GF(hg:Nat->Nat->Bool)(T:Nat)(out:List Int):Option Nat:=(List.range T).find? (jQ hg T out)
def E7(hg:Nat->Nat->Bool)(T:Nat):Nat->List Int->Option (List Int)
 | 0,out=>some out
 | n+1,out=>match GF hg T out with
  | none=>none
  | some t=>E7 hg T n (out++[(t:Int)])
def Zei(f:FD)(hg:Nat->Nat->Bool):Prop:=∀t,t<f.tasks.length->∀k:Nat,k<f.tasks.length->(hg t k=true↔(k:Int)∈Y8 f t)
theorem zU(r:Int)(h:HPn s.q s.q.length):HPn (YC s r).q (YC s r).q.length:=by
 unfold YC;simp only;split
 .exact zl h _
 exact h
theorem zn:∀(R:List Int)(s:WS),HPn s.q s.q.length->HPn (R.foldl YC s).q (R.foldl YC s).q.length
 | [],s,h=>h
 | r::R,s,h=>zn R _ (zU r h)
theorem next_heap(f:s.q≠[])(h:HPn s.q s.q.length):HPn (YM s).2.q (YM s).2.q.length:=by
 unfold YM;exact zn _ _ (yL f h).2.2
theorem Uf(f:FD):∀n,HPn (Xu f n).q (Xu f n).q.length
 | 0=>by
  intro i i0 i1;simp[Xu] at i1
 | n+1=>by
  rw[QY];unfold QG;split
  .exact Uf f n
  simp only;split
  .exact zl (Uf f n) _
  exact Uf f n
theorem EY{m:Nat->Nat->Bool}(v:Zei f m)(l:List Int){t:Nat}(ht:t<f.tasks.length):jQ m f.tasks.length l t=true↔((t:Int)∉l/\∀y∈Y8 f t,y∈l):=by
 unfold jQ;rw[ZB,List.all_eq_true];constructor
 .rintro⟨g,j⟩;refine⟨by simpa using g,fun y hy=>?_⟩;obtain⟨x,z⟩:=Za3 y hy;obtain⟨k,rfl⟩:∃k:Nat,y=(k:Int):=⟨y.toNat,oq⟩;have q:=j k (List.mem_range.2 oq);rw[(v t ht k oq).2 hy] at q;simpa using q
 rintro⟨g,j⟩;refine⟨by simpa using g,fun k hk=>?_⟩
 cases hb:m t k with
 | false=>rfl
 | true =>
  have:=j _ ((v t ht k (List.mem_range.1 hk)).1 hb);simp[this]
theorem yZ.all_out(h:yZ f s l)(I:l.length=f.tasks.length):s.q=[]:=by
 apply Yg;intro D;obtain⟨x,C⟩:=List.exists_mem_of_ne_nil _ D;obtain⟨F,G⟩:=h.ok.q x C;obtain⟨k,rfl⟩:∃k:Nat,x=(k:Int):=⟨x.toNat,oq⟩;have g:l.Nodup:=by
  rw[List.nodup_iff_count];intro a;by_cases A:a∈l
  .have:=h.rng a A;obtain⟨j,rfl⟩:∃j:Nat,a=(j:Int):=⟨a.toNat,oq⟩;have:=h.nd j oq;omega
  rw[List.count_eq_zero.2 A];omega
 have m:(k:Int)∉l:=fun hm=>by
  have v:=h.nd k oq;have z:=List.count_pos_iff.2 C;have H:=List.count_pos_iff.2 hm;omega
 have v:((k:Int)::l).Nodup:=List.nodup_cons.2 ⟨m,g⟩;have z:=List.Nodup.length_le_of_subset (l₂:=(List.range f.tasks.length).map (fun k:Nat=>(k:Int))) v (by
  intro y hy;have E:0<=y/\y<(f.tasks.length:Int):=by
   rcases ZR.1 hy with rfl|hy
   .exact⟨F,G⟩
   exact h.rng y hy
  exact Yd.2 ⟨y.toNat,List.mem_range.2 oq,oq⟩)
 rw[Zp,Zo,List.length_range] at z;omega
theorem E9(f:s.q=[])(l:List Int):Xh (muW s) s l=l:=by
 cases hm:muW s with
 | zero=>rfl
 | succ m=>rw[Xh,Z1 f]
theorem j8{f:FD}{y:Nat->Nat->Bool}(D:Zei f y):∀(n:Nat)(s:WS)(l:List Int),yZ f s l->HPn s.q s.q.length->l.length+n=f.tasks.length ->
  E7 y f.tasks.length n l=if (Xh (muW s) s l).length<f.tasks.length then none else some (Xh (muW s) s l)
 | 0,s,l,h,hp,hl=>by
  rw[E9 (h.all_out oq),Z0 oq];rfl
 | n+1,s,l,h,hp,hl=>by
  by_cases hq:s.q=[]
  .rw[E9 hq,Z1 oq,E7];have:GF y f.tasks.length l=none:=by
    unfold GF;rw[List.find?_eq_none];intro t ht E;have ht:=List.mem_range.1 ht;obtain⟨A,m⟩:=(EY D l ht).1 E;rcases (h.inn t ht).2 m with v|v
    .rw[hq] at v;cases v
    exact A v
   rw[this]
  obtain⟨A,m,v⟩:=yL hq hp;obtain⟨L,M⟩:=h.ok.q _ m;obtain⟨x,J⟩:∃x:Nat,(XV s.q).1=(x:Int):=⟨(XV s.q).1.toNat,oq⟩;have z:(YM s).1=(x:Int):=J;rw[J] at A m L M;have g:x<f.tasks.length:=oq;have F:∀t:Nat,t<f.tasks.length->(t:Int)∈s.q->(t:Int)∉l:=fun t ht E hm2=>by
   have G:=h.nd t ht;have H:=List.count_pos_iff.2 E;have C:=List.count_pos_iff.2 hm2;omega
  have:GF y f.tasks.length l=some x:=by
   unfold GF;rw[List.find?_range_eq_some];refine⟨(EY D l g).2 ⟨F x g m,(h.inn x g).1 (.inl m)⟩,List.mem_range.2 g,fun j hj=>?_⟩
   cases hb:jQ y f.tasks.length l j with
   | false=>rfl
   | true =>
    obtain⟨G,H⟩:=(EY D l oq).1 hb;rcases (h.inn j oq).2 H with C|C
    .have:=A _ C;omega
    exact absurd C G
  rw[E7,this];simp only;have I:=j8 D n (YM s).2 (l++[(YM s).1]) (h.next hq) (next_heap hq hp) (by simp;omega);rw[z] at I;rw[I,GG l hq,z]
theorem Zgs{g:Nat->Nat->Bool}(j:Zei f g):E7 g f.tasks.length f.tasks.length []=ofP f:=by
 rw[j8 j _ (GQ f) [] (jY f) (by rw[Zaa];exact Uf f _) (by simp)];rfl
theorem ZcF(l:List Int)(L:Option Addr)(cap:Nat)(T:l.length<=100000)(h:qi w (Value.int .i64) L l)(n:Int) :
  Calls prog 37 #[.slice L l.length cap,.int .i64 n] w fun e w'=>e=.returned (.bool (decide (n∈l)))/\w'=w:=by
 have O:=hid h;obtain⟨A,j⟩:=ez l.length;have I:=hid j;rw[j] at T;obtain⟨an,m⟩:=ez (decide (n∈l));have H:=hid m;rw[m,j];clear h j m;go_enter func37,ntmps37;go_wp2;go_loopw [5] (fun s wr=>Hid (∃i:Nat,s=.int .i64 (i:Int)/\i<=A/\n∉l.take i/\wr=w)) (fun s _=>A-(intOf s).toNat)
 case atStart=>exact⟨0,rfl,Zk _,by simp,rfl⟩
 obtain⟨W,rfl⟩:=ey wr;obtain⟨i,rfl,hi,z,U⟩:=hrel.o;clear hrel;subst U;have q:=hid z;clear z;by_cases v:i<A
 .have X:(0:Int)<=(i:Int):=oq;have V:(i:Int)<(A:Int):=oq;have g:i<l.length:=by rw[I.o];exact v
  obtain⟨b,o,rfl,hb,M⟩:=O.o.resolve_left (fun e=>by rw[e] at g;simp at g);obtain⟨x,G⟩:=ez (l[i]);have c0:=M i x (by rw[<-G];exact Ze g);have J:=hid (show ∃h:i<l.length,l[i]=x from ⟨g,G⟩);clear M g G;by_cases f:x=n
  .have R:(x == n)=true:=beq_iff_eq.2 f;have D:an=true:=by
    rw[<-H.o];refine ZZ ?_;obtain⟨E,F⟩:=J.o;rw[<-f,<-F];exact Zi E
   subst D;clear f;go_wp2;go_ret;exact⟨rfl,rfl⟩
  have R:(x == n)=false:=ZX.2 f;have C:=hid f;clear f;go_wp2;refine⟨hid ⟨i+1,by go_num,v,?_,by first|rfl|trivial⟩,by simp[intOf];omega⟩;obtain⟨E,F⟩:=J.o;rw[Zv E,F];intro y;rcases List.mem_append.1 y with y|y
  .exact q.o y
  exact C.o (List.mem_singleton.1 y).symm
 obtain rfl:i=A:=oq;have V:¬(i:Int)<(i:Int):=oq;have D:an=false:=by
  rw[<-H.o];refine ZY ?_;have:=q.o
  rwa [<-I.o,ZS] at this
 subst D;go_wp2;go_ret;exact⟨rfl,rfl⟩
def Ke(o:Int × Int × Int):Bool:=decide (o.1=6)||(decide (o.1=5)&&decide (0<o.2.1))
def Jf(f:FD)(k:Nat)(a:AD):Bool:=decide (a.src=(f.ins.length:Int)+(k:Int))&&!(a.ops.any Ke)
def hg9(f:FD)(t k:Nat):Bool:=match f.tasks[t]? with
 | none=>false
 | some d=>d.args.any (Jf f k)
theorem VH{p:α->Bool}{l:List α}(h:j<l.length):(l.take (j+1)).any p=((l.take j).any p||p l[j]):=by
 rw[Zv h,List.any_append];simp
theorem Zet{p:α->Bool}{l:List α}(h:j<l.length)(hp:p l[j]=true):l.any p=true:=List.any_eq_true.2 ⟨_,Zi h,hp⟩
theorem uW(f:FD)(ai an aT al:Option Addr)(ci cn ct cl:Nat)(hf:FAP w f ai an aT al)(t k:Nat)(ht:t<f.tasks.length)(hk:k<=100000) :
  Calls prog 38 #[fv f ai an aT al ci cn ct cl,.int .i64 (t:Int),.int .i64 (k:Int)] w fun e w'=>e=.returned (.bool (hg9 f t k))/\Below w.1.size w w':=by
 obtain⟨d,hd⟩:∃d,f.tasks[t]?=some d:=⟨_,Ze ht⟩;have av:f.tasks[t]=d:=(ZA.1 hd).2;have ac:=hid (hf.args d (Z9 hd));have ax:=hf.lens;obtain⟨bt,ot,rfl,bf,au⟩:=hf.tasks.resolve_left (fun e=>by rw[e] at ht;simp at ht);obtain⟨u0,u1,u2,ta,tc,u3,F⟩:=au t ht;rw[av] at u3 F;obtain⟨G,A⟩:=ez (d.args.any (Jf f k));have e9:hg9 f t k=G:=by unfold hg9;rw[hd];exact A
 rw[e9];have HA:=hid A;have ak:=hid F;have HU:=hid u3;have t0:(0:Int)<=(t:Int):=oq;have t1:(t:Int)<(f.tasks.length:Int):=oq;obtain⟨nA,J⟩:=ez d.args.length;have bi:nA<=1000:=by rw[<-J];exact ac.o.1
 have ah:=hid J;rw[J] at HU;obtain⟨nI,V⟩:=ez f.ins.length;have bj:nI<=1000:=oq;have az:=hid V;unfold fv;rw[V];have ek:IntKind.i64.wrap ((nI:Int)+(k:Int))=(nI:Int)+(k:Int):=ZK _ oq;clear hf au u0 u1 u2 u3 F A e9 J hd av V ax;obtain⟨W1,H⟩:=ez (w.alloc (.cells #[.slice ai nI ci,.slice an f.nods.length cn,.slice (some ⟨bt,ot,none⟩) f.tasks.length ct,.slice al f.tells.length cl] 35));have hB:Below w.1.size w W1:=by rw[<-H];exact bq
 have Z:W1.1[w.1.size]?=some (.cells #[.slice ai nI ci,.slice an f.nods.length cn,.slice (some ⟨bt,ot,none⟩) f.tasks.length ct,.slice al f.tells.length cl] 35 (0,0)):=by rw[<-H];exact Yx w _
 have HQ:=hid Z;have HB:=hid hB;have aw:w.1.size<W1.1.size:=Zb Z;clear hB Z;go_enter func38,ntmps38;go_upto_region 1 with fail
 first|rw[H]|skip
 clear H;go_wp2;go_loopw [7] (fun s7 wr=>Hid (∃i:Nat,s7=.int .i64 (i:Int)/\i<=nA/\(d.args.take i).any (Jf f k)=false/\Below W1.1.size W1 wr)) (fun s _=>nA-(intOf s).toNat)
 case atStart=>exact⟨0,rfl,Zk _,rfl,Zg _ _⟩
 obtain⟨W3,rfl⟩:=ey wr;obtain⟨i,rfl,hi,ay,hb3⟩:=hrel.o;clear hrel;have HB3:=hid hb3;have aj:=hid ay;have bl:=hb3.size;have C:Below w.1.size w W3:=HB.o.trans (hb3.mono HB.o.size);have HBW:=hid C;obtain⟨⟨x0,x1,x2,x3⟩,xf⟩:=Yy ((hb3.block _ aw).trans HQ.o);have y3:=(C.cell (p:=⟨bt,_,none⟩) bf).trans HU.o;clear ay hb3;by_cases T:i<nA
 .have i0:(0:Int)<=(i:Int):=oq;have i1:(i:Int)<(nA:Int):=oq;have m:i<d.args.length:=by rw[ah.o];exact T
  obtain⟨ba,oa,rfl,ao,aq⟩:=ak.o.resolve_left (fun e=>by rw[e] at m;simp at m);obtain⟨v0,pa,pc,v1,E⟩:=aq i m;obtain⟨a,z⟩:=ez (d.args[i]);rw[z] at v0 v1 E;have z0:=(C.cell (p:=⟨ba,_,none⟩) ao).trans v0;have z1:=(C.cell (p:=⟨ba,_,none⟩) ao).trans v1;have ae:=hid (show(d.args.take (i+1)).any (Jf f k)=Jf f k a by rw[VH m,aj.o,Bool.false_or,z]);have am:=hid (fun(h:Jf f k a=true)=>show G=true by rw[<-HA.o];exact Zet m (by rw[z];exact h));have bh:=(ac.o.2 a (by rw[<-z];exact Zi m)).1;have bc:=hid E;obtain⟨nO,X⟩:=ez a.ops.length;have L:=hid X;rw[X] at z1 bh;obtain⟨sr,ab⟩:=ez a.src;have be:=hid ab;rw[ab] at z0;clear C aq v0 v1 E m z X ab;go_upto_region 5 with fail
  obtain⟨W4,I⟩:=ez (W3.alloc (.cells #[.int .i64 sr,.slice pa nO pc] 92));rw[I];have hb4:Below W3.1.size W3 W4:=by rw[<-I];exact bq
  have aa:W4.1[W3.1.size]?=some (.cells #[.int .i64 sr,.slice pa nO pc] 92 (0,0)):=by rw[<-I];exact Yx W3 _
  have bd:=hid aa;have HB4:=hid hb4;have bg:=Zb aa;clear I hb4 aa z0 z1 x0 x1 x2 x3 xf y3;go_wp2;go_loopw [9,10] (fun s9 s10 wr=>Hid (∃j:Nat,s10=.int .i64 (j:Int)/\j<=nO/\s9=.bool ((a.ops.take j).any Ke)/\Below W4.1.size W4 wr)) (fun _ s _=>nO-(intOf s).toNat)
  case atStart=>exact⟨0,rfl,Zk _,rfl,Zg _ _⟩
  obtain⟨W5,rfl⟩:=ey wr;obtain⟨j,rfl,hj,rfl,hb5⟩:=hrel.o;clear hrel;have HB5:=hid hb5;obtain⟨⟨z0,z1⟩,zf⟩:=YL ((hb5.block _ bg).trans bd.o);have g:Below w.1.size w W5:=HBW.o.trans ((HB4.o.trans (hb5.mono HB4.o.size)).mono HBW.o.size);have af:=hid g;obtain⟨lt,U⟩:=ez ((a.ops.take j).any Ke);have ag:=hid U;rw[U];clear U;by_cases v:j<nO
  .have j0:(0:Int)<=(j:Int):=oq;have j1:(j:Int)<(nO:Int):=oq;have D:j<a.ops.length:=by rw[L.o];exact v
   obtain⟨bo,oo,rfl,ap,ar⟩:=bc.o.resolve_left (fun e=>by rw[e] at D;simp at D);obtain⟨o0,o1,o2⟩:=ar j D;obtain⟨⟨ok,on,od⟩,Y⟩:=ez (a.ops[j]);rw[Y] at o0 o1;have q0:=(g.cell (p:=⟨bo,_,none⟩) ap).trans o0;have q1:=(g.cell (p:=⟨bo,_,none⟩) ap).trans o1;simp only at q0 q1;have bb:=hid (show(a.ops.take (j+1)).any Ke=(lt||(decide (ok=6)||(decide (ok=5)&&decide (0<on)))) by rw[VH D,ag.o,Y];rfl);clear ar o0 o1 o2 D Y hb5 g;have fin:∀b:Bool,(lt||(decide (ok=6)||(decide (ok=5)&&decide (0<on))))=b->(a.ops.take (j+1)).any Ke=b:=fun b h=>bb.o.trans h
   have x:=hid fin;clear fin
   cases lt with
   | true =>
    go_wp2;exact⟨hid ⟨j+1,by go_num,v,by rw[x.o true rfl],HB5.o⟩,by simp[intOf];omega⟩
   | false =>
    by_cases O:ok=6
    .have e6:(ok == 6)=true:=beq_iff_eq.2 O;have y:=hid (x.o true (by simp[O]));clear O;go_wp2;exact⟨hid ⟨j+1,by go_num,v,by rw[y.o],HB5.o⟩,by simp[intOf];omega⟩
    have e6:(ok == 6)=false:=ZX.2 O;by_cases M:ok=5
    .have e5:(ok == 5)=true:=beq_iff_eq.2 M;by_cases bk:on > 0
     .have y:=hid (x.o true (by simp[M];omega));clear M O;go_wp2;exact⟨hid ⟨j+1,by go_num,v,by rw[y.o],HB5.o⟩,by simp[intOf];omega⟩
     have y:=hid (x.o false (by simp[M];omega));clear M O;go_wp2;exact⟨hid ⟨j+1,by go_num,v,by rw[y.o],HB5.o⟩,by simp[intOf];omega⟩
    have e5:(ok == 5)=false:=ZX.2 M;have y:=hid (x.o false (by simp[M,O]));clear M O;go_wp2;exact⟨hid ⟨j+1,by go_num,v,by rw[y.o],HB5.o⟩,by simp[intOf];omega⟩
  obtain rfl:j=nO:=oq;have j1:¬(j:Int)<(j:Int):=oq;have R:a.ops.any Ke=lt:=by have:=ag.o;rwa [<-L.o,ZS] at this
  have bn:=hb5.size;have bm:=HB4.o.size;obtain⟨⟨x0,x1,x2,x3⟩,xf⟩:=Yy ((hb5.block _ oq).trans ((HB4.o.block _ oq).trans ((HB3.o.block _ aw).trans HQ.o)));have HW:=hid ((HB4.o.trans (HB5.o.mono HB4.o.size)));have hh:Jf f k a=(decide (sr=(nI:Int)+(k:Int))&&!lt):=by unfold Jf;rw[R,be.o,az.o]
  have HH:=hid hh;clear hb5 g R hh;by_cases q:sr=(nI:Int)+(k:Int)
  .have e1:(sr == (nI:Int)+(k:Int))=true:=beq_iff_eq.2 q
   cases lt with
   | false =>
    have e2:G=true:=am.o (by rw[HH.o,q];simp);subst e2;clear q;go_wp2;go_ret;exact⟨rfl,af.o⟩
   | true =>
    have y:=hid (show Jf f k a=false by rw[HH.o];simp);clear q;go_wp2;exact⟨hid ⟨i+1,by go_num,T,by rw[ae.o,y.o],HB3.o.trans (HW.o.mono HB3.o.size)⟩,by simp[intOf];omega⟩
  have e1:(sr == (nI:Int)+(k:Int))=false:=ZX.2 q;have y:=hid (show Jf f k a=false by rw[HH.o,ZY q];rfl);clear q;go_wp2;exact⟨hid ⟨i+1,by go_num,T,by rw[ae.o,y.o],HB3.o.trans (HW.o.mono HB3.o.size)⟩,by simp[intOf];omega⟩
 obtain rfl:i=nA:=oq;have i1:¬(i:Int)<(i:Int):=oq;have e2:G=false:=by
  have:=aj.o;rw[<-ah.o,ZS,HA.o] at this;exact this
 subst e2;go_wp2;go_ret;exact⟨rfl,HBW.o⟩
