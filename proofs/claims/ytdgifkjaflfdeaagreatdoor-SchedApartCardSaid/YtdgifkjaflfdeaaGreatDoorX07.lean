/- Parts of the proof. -/
import Derived.Deep.CutBlock
import Derived.Deep.DeepCutAuto
import Derived.Deep.RegionLaw
import Derived.Deep.Upon
import Derived.Lib.AppendZeros
import Derived.Lib.SlicesCompact
import Derived.Sort.CutIn
import Derived.StillTailTactics
import Derived.Test.YtdgifkjaflfdeaaGreatDoorX02
import Derived.Test.YtdgifkjaflfdeaaGreatDoorX04
set_option linter.all false
set_option maxRecDepth 100000
set_option maxHeartbeats 16000000
namespace Go.Proofs.YtdgifkjaflfdeaaGreatDoor.lite
open Tryz
open Go.RowKit
variable {P:Program}
theorem E5(w:World)(base:Nat)(t F e:TypeId)(i:TypeInfo)(z:Value)(size bytes:Nat)(ht:P.underlying t=some (.slice e))(hi:P.info? e=some i)(hz:i.zero=some z)
  (D:i.size=size)(I:i.bytes=bytes)(R:z.cells.size=size)(M:0<size)
  (v:Value)(n:Nat)(xs:List Value)(q:w.ownsRow base e size v n xs)
  (G:OA)(m c:Nat)(news:List Value)(J:news.length=m*size)(f:∀j u,news[j]?=some u->∃x:Addr,G=some x/\w.cell? (x.add j)=some u)(T:∀u∈news,u.oneCell'=true)
  (H:n+m<=maxLen)(A:(n+m)*bytes<=140737488355328)(C:base<=w.1.size) :
  ∃v' w',(Builtin.append_ #[t,t] F #[v,.slice G m c]).run P w=.ok v' w'/\w'.ownsRow base e size v' (n+m) (xs++news)/\w.grownBy w' v.ownBlock/\(v'.ownBlock=v.ownBlock\/v'.ownBlock=some w.1.size):=by
 cases G with
 | some a =>
  obtain⟨v',w',hr,U,V,_,X⟩:=run_append_own_at (P:=P) w base t F e i z size bytes ht hi hz D I R M v n xs q a m c news J (fun j u h=>by obtain⟨x,O,Y⟩:=f j u h;cases O;exact Y) T H A C;exact⟨v',w',hr,U,V,X⟩
 | none =>
  have Z:m=0:=by
   cases news with
   | nil =>
    have h:m*size=0:=J.symm;rcases Nat.mul_eq_zero.1 h with h|h
    .exact h
    omega
   | cons u us=>obtain⟨x,O,_⟩:=f 0 u rfl;cases O
  subst Z;obtain rfl:news=[]:=by simpa using J
  have key:∀(b:OA)(k E:Nat),k<=E->(Builtin.append_ #[t,t] F #[.slice b k E,.slice none 0 c]).run P w=.ok (.slice b k E) w:=by
   intro b k E L;refine run_append_nothing w t t F e i ht hi b k E L _ ⟨.inl ⟨_,ht⟩,?_,?_,?_,by simp,by simp⟩
   .intro w';simp[Builtin.lenOf]
   .simp[Builtin.firstCells]
   simp[Builtin.firstCells]
  have y:=q;rcases q.2 with ⟨rfl,rfl⟩|⟨g,cap,cur,rfl,hb,hg,hnc,hcm,hcs,htk⟩
  .refine⟨_,w,key _ _ _ (Yr _),by simpa using y,World.grownBy.refl _ _,.inl rfl⟩
  refine⟨_,w,key _ _ _ hnc,by simpa using y,World.grownBy.refl _ _,.inl rfl⟩
theorem YP(w:World){C:Array Oper}{rest:List Oper}{o:Oper}{a:Act}{Q:Exit->Act->World->Prop}(hgd:o.guard=none)(s x:Operand)(t:TypeId)
  (R:o.op=.call { callee:=.builtin .append,args:=#[s,x],argTypes:=#[t,t] })
  (base:Nat)(e:TypeId)(i:TypeInfo)(z:Value)(size bytes:Nat)(ht:P.underlying t=some (.slice e))(hi:P.info? e=some i)(X:i.zero=some z)
  (y:i.size=size)(F:i.bytes=bytes)(H:z.cells.size=size)(G:0<size)
  (v:Value)(n:Nat)(xs:List Value)(U:a.eval s=v)(A:w.ownsRow base e size v n xs)
  (D:OA)(m c:Nat)(news:List Value)(V:a.eval x=.slice D m c)(O:news.length=m*size)(q:∀j u,news[j]?=some u->∃x:Addr,D=some x/\w.cell? (x.add j)=some u)(I:∀u∈news,u.oneCell'=true)
  (E:n+m<=maxLen)(f:(n+m)*bytes<=140737488355328)(g:base<=w.1.size)
  (h:∀v' w',w'.ownsRow base e size v' (n+m) (xs++news)->w.grownBy w' v.ownBlock->(v'.ownBlock=v.ownBlock\/v'.ownBlock=some w.1.size)->wpList P C Q rest (a.put o.dst v') w'):wpList P C Q (o::rest) a w:=by
 obtain⟨v',w',T,J,L,M⟩:=E5 (P:=P) w base t o.type e i z size bytes ht hi X y F H G v n xs A D m c news O q I E f g;exact Lib.wpList_append_run w hgd s x t t R v _ U V v' w' T (h v' w' J L M)
theorem info_parts{e:TypeId}{z:Value}{n b:Nat}(h:(P.info? e).map (fun i=>(i.zero,i.size,i.bytes))=some (some z,n,b)):∃i,P.info? e=some i/\i.zero=some z/\i.size=n/\i.bytes=b:=by
 cases hi:P.info? e with
 | none=>rw[hi] at h;cases h
 | some i=>rw[hi] at h;simp at h;exact⟨i,rfl,h.1,h.2.1,h.2.2⟩
end Go.Proofs.YtdgifkjaflfdeaaGreatDoor.lite
namespace Go.Proofs.YtdgifkjaflfdeaaGreatDoor.syn
open Tryz
open Go.RowKit
variable {w w' b a W W':World}{base n t B o cap j m T c i k d lo hi b1 b2:Nat}{e:TypeId}{v f g:Value}{xs vs:List Value}{P:Program}{S:Nat->Prop}{xss:List (List Value)}{l order:List Int}{α β:Type}{x u:Int}{Q:Int->Prop}{F:Fence}{ds:List Deferred}
theorem YC{size:Nat}(h:w.ownsRow base e size v n xs):∃ad cap,v=.slice ad n cap:=by
 rcases h.2 with ⟨rfl,rfl⟩|⟨g,cap,cur,rfl,_⟩
 .exact⟨none,0,rfl⟩
 exact⟨_,cap,rfl⟩
theorem own_below{size:Nat}(h:w.ownsRow base e size v n xs)(hb:Below w.1.size w w'):w'.ownsRow base e size v n xs :=
 h.kept (row:=none) ⟨hb.os,hb.tape,hb.output,hb.size,fun k hk _=>hb.block k hk⟩ (by cases hv:v.ownBlock<;>simp)
theorem info_parts{z:Value}{n b:Nat}(h:(P.info? e).map (fun i=>(i.zero,i.size,i.bytes))=some (some z,n,b)):∃i,P.info? e=some i/\i.zero=some z/\i.size=n/\i.bytes=b:=by
 cases hi:P.info? e with
 | none=>rw[hi] at h;cases h
 | some i=>rw[hi] at h;simp at h;exact⟨i,rfl,h.1,h.2.1,h.2.2⟩
theorem YI{b:Nat}{t:TypeId}(h:w.1[b]?=some (.cells #[f,g] t (0,0))):(w.cell? ⟨b,0,none⟩=some f/\w.cell? ⟨b,1,none⟩=some g)/\∀o,w.frozen? ⟨b,o,none⟩=false:=by
 refine⟨⟨?_,?_⟩,?_⟩
 all_goals first|(intro o;simp[World.frozen?,h])|simp[World.cell?,h]
theorem QA{size n:Nat}(h:w.ownsRow base e size v n xs):∀k,v.ownBlock=some k->base<=k:=by
 intro k f;rcases h.2 with ⟨rfl,_⟩|⟨g,cap,cur,rfl,hb,_⟩
 .cases f
 simp[Value.ownBlock] at f;omega
theorem Xc{size n:Nat}(h:w.ownsRow base e size v n xs)(hB:B<base)(u:Value):(w.setCell ⟨B,o,none⟩ u).ownsRow base e size v n xs :=
 h.kept (row:=some B) ⟨rfl,rfl,rfl,((Zg 0 w).setCell (p:=⟨B,o,none⟩) (Zk _) u).size,fun k _ hk=>Zr _ _ _ _ (fun e=>hk (by rw[e]))⟩ (Or.inr (fun e=>by have:=QA h _ e;omega))
theorem Xq{base base':Nat}{size n:Nat}(h:w.ownsRow base e size v n xs)(hb:base'<=base):w.ownsRow base' e size v n xs:=by
 refine⟨h.1,?_⟩;rcases h.2 with h0|⟨g,cap,cur,hv,hg,rest⟩
 .exact .inl h0
 exact .inr ⟨g,cap,cur,hv,Zm hb hg,rest⟩
theorem EY{size n:Nat}(h:w.ownsRow base e size v n xs)(hB:B<base)(hu:Upon B w w'):w'.ownsRow base e size v n xs :=
 h.kept (row:=some B) ⟨hu.os,hu.tape,hu.output,hu.size,fun k hk hne=>hu.block k hk (fun e=>hne (by rw[e]))⟩ (Or.inr (fun e=>by have:=QA h _ e;omega))
theorem ZcX{base n size:Nat}{q:OA}(h:w.ownsRow base e size (.slice q n cap) n xs):∀j u,xs[j]?=some u->∃x:Addr,q=some x/\w.cell? (x.add j)=some u:=by
 intro j u f;rcases h.2 with ⟨h1,h2⟩|⟨g,cap',cur,h1,hb,hg,hnc,hcm,hcs,htk⟩
 .have:=h.1;rw[h2,Nat.zero_mul] at this;rw[Ye this] at f;simp at f
 injection h1 with h1 _ _
 refine⟨_,h1,?_⟩;rw[show(⟨g,0,none⟩:Addr).add j=⟨g,j,none⟩ from by unfold Addr.add;split<;>simp_all];have m:j<n*size:=by rw[<-h.1];exact(ZB.1 f).1
 rw[Z8 w _ _ cur e (0,0) hg,<-f,<-htk,Yp m,Array.getElem?_toList]
theorem Yy{b:Nat}{f g j m:Value}{t:TypeId}(h:w.1[b]?=some (.cells #[f,g,j,m] t (0,0))) :
  (w.cell? ⟨b,0,none⟩=some f/\w.cell? ⟨b,1,none⟩=some g/\w.cell? ⟨b,2,none⟩=some j/\w.cell? ⟨b,3,none⟩=some m)/\∀o,w.frozen? ⟨b,o,none⟩=false:=by
 refine⟨⟨?_,?_,?_,?_⟩,?_⟩
 all_goals first|(intro o;simp[World.frozen?,h])|simp[World.cell?,h]
structure But (S:Nat->Prop) (w w':World):Prop where
 os:w'.os=w.os
 tape:w'.tape=w.tape
 output:w'.output=w.output
 size:w.1.size<=w'.1.size
 block:∀k,k<w.1.size->¬S k->w'.1[k]?=w.1[k]?
theorem But.refl(S:Nat->Prop)(w:World):But S w w:=⟨rfl,rfl,rfl,Zc _,fun _ _ _=>rfl⟩
theorem But.trans{S:Nat->Prop}{a b c:World}(h:But S a b)(k:But S b c):But S a c :=
 ⟨k.os.trans h.os,k.tape.trans h.tape,k.output.trans h.output,Zm h.size k.size,fun i hi hr=>(k.block i (Zd hi h.size) hr).trans (h.block i hi hr)⟩
theorem But.then{S T:Nat->Prop}{a b c:World}(h:But S a b)(k:But T b c)(hT:∀i,i<a.1.size->T i->S i):But S a c :=
 ⟨k.os.trans h.os,k.tape.trans h.tape,k.output.trans h.output,Zm h.size k.size,fun i hi hr=>(k.block i (Zd hi h.size) (fun t=>hr (hT i hi t))).trans (h.block i hi hr)⟩
theorem But.imp{S T:Nat->Prop}(h:But S a b)(hT:∀i,i<a.1.size->S i->T i):But T a b:=⟨h.os,h.tape,h.output,h.size,fun k hk hr=>h.block k hk (fun s=>hr (hT k hk s))⟩
theorem But.of_below(h:Below a.1.size a b):But S a b:=⟨h.os,h.tape,h.output,h.size,fun k hk _=>h.block k hk⟩
theorem But.of_upon{r:Nat}(h:Upon r a b):But (fun k=>k=r) a b:=⟨h.os,h.tape,h.output,h.size,fun k hk hr=>h.block k hk hr⟩
theorem But.of_grown{row:Option Nat}(h:a.grownBy b row):But (fun k=>row=some k) a b:=⟨h.os,h.tape,h.output,h.size,fun k hk hr=>h.block k hk (fun e=>hr e.symm)⟩
theorem But.below(h:But S a b)(h1:B<=a.1.size)(h2:∀k,S k->B<=k):Below B a b :=
 ⟨h.os,h.tape,h.output,h.size,fun k hk=>h.block k oq (fun s=>by have:=h2 k s;omega)⟩
theorem But.drewN(h:But S a w)(n:Nat):But S a (w.drewN n):=⟨h.os,h.tape,h.output,h.size,h.block⟩
theorem But.drew(h:But S a w):But S a w.drew:=⟨h.os,h.tape,h.output,h.size,h.block⟩
theorem But.set{b o:Nat}(hb:S b)(u:Value):But S w (w.setCell ⟨b,o,none⟩ u) :=
 (But.of_upon ((Upon.refl b w).setAt (.inl rfl) u)).imp (fun i _ e=>e▸hb)
theorem But.own{size n:Nat}(h:But S w w')(f:w.ownsRow base e size v n xs)(j:∀k,v.ownBlock=some k->¬S k):w'.ownsRow base e size v n xs:=by
 refine⟨f.1,?_⟩;rcases f.2 with hn|⟨g,cap,cur,rfl,hb,hgg,rest⟩
 .exact .inl hn
 exact .inr ⟨g,cap,cur,rfl,hb,(h.block g (Zq.1 hgg).1 (j g rfl)).trans hgg,rest⟩
structure Fam (w:World) (base:Nat) (e:TypeId) (vs:List Value) (xss:List (List Value)):Prop where
 len:vs.length=xss.length
 own:∀(i:Nat)(v:Value)(xs:List Value),vs[i]?=some v->xss[i]?=some xs->w.ownsRow base e 1 v xs.length xs
 dis:∀(i j:Nat)(v u:Value)(k:Nat),vs[i]?=some v->vs[j]?=some u->v.ownBlock=some k->u.ownBlock=some k->i=j
theorem Fam.block{f:List (List Value)}(h:Fam w base e vs f)(g:vs[i]?=some v):∀k,v.ownBlock=some k->base<=k/\k<w.1.size:=by
 have hi:i<f.length:=by rw[<-h.len];exact(ZB.1 g).1
 exact(h.own i v _ g (Ze hi)).lt
theorem Fam.but(h:Fam w base e vs xss)(hb:But S w w')(hS:∀(i:Nat)(v:Value)(k:Nat),vs[i]?=some v->v.ownBlock=some k->¬S k):Fam w' base e vs xss :=
 ⟨h.len,fun i v xs h1 h2=>hb.own (h.own i v xs h1 h2) (fun k hk=>hS i v k h1 hk),h.dis⟩
theorem Fam.below(h:Fam w base e vs xss)(hb:Below w.1.size w w'):Fam w' base e vs xss :=
 h.but (But.of_below (S:=fun _=>False) hb) (fun _ _ _ _ _ hf=>hf)
theorem Fam.butB(h:Fam w base e vs xss)(hb:But S w w')(hS:∀k,S k->k<base):Fam w' base e vs xss :=
 h.but hb (fun i v k hv hk hs=>by have h1:=(h.block hv k hk).1;have h2:=hS k hs;omega)
theorem Fam.set{w:World}{base:Nat}{e:TypeId}{vs:List Value}{xss:List (List Value)}(h:Fam w base e vs xss){b o:Nat}(hb:b<base)(u:Value):Fam (w.setCell ⟨b,o,none⟩ u) base e vs xss :=
 h.butB (But.set (S:=fun k=>k=b) rfl u) (fun k hk=>oq)
theorem Fam.put{y:List (List Value)}(h:Fam w base e vs y){v v':Value}{xs':List Value}(hi:vs[i]?=some v)(E:But (fun k=>v.ownBlock=some k\/k<base) w w')
  (F:w'.ownsRow base e 1 v' xs'.length xs')(D:∀k,v'.ownBlock=some k->v.ownBlock=some k\/w.1.size<=k):Fam w' base e (vs.set i v') (y.set i xs'):=by
 have z:=(ZB.1 hi).1;refine⟨by simp[h.len],?_,?_⟩
 .intro j u G f g;by_cases q:j=i
  .subst q;rw[List.getElem?_set_self z] at f;rw[List.getElem?_set_self (by rw[<-h.len];exact z)] at g
   cases f
   cases g
   exact F
  rw[List.getElem?_set_ne (fun e=>q e.symm)] at f g;refine E.own (h.own j u G f g) (fun k hk hs=>?_);rcases hs with hs|hs
  .exact q (h.dis j i u v k f hi hk hs)
  have:=(h.block f k hk).1;omega
 intro j l u x k f g A C;by_cases q:j=i
 .subst q;rw[List.getElem?_set_self z] at f
  cases f
  by_cases m:l=j
  .exact m.symm
  rw[List.getElem?_set_ne (fun e=>m e.symm)] at g;rcases D k A with h3|h3
  .exact h.dis j l v x k hi g h3 C
  have:=(h.block g k C).2;omega
 rw[List.getElem?_set_ne (fun e=>q e.symm)] at f;by_cases m:l=i
 .subst m;rw[List.getElem?_set_self z] at g
  cases g
  rcases D k C with h3|h3
  .exact h.dis j l u v k f hi A h3
  have:=(h.block f k A).2;omega
 rw[List.getElem?_set_ne (fun e=>m e.symm)] at g;exact h.dis j l u x k f g A C
theorem Fam.nils(w:World)(base:Nat)(e:TypeId)(n:Nat):Fam w base e (List.replicate n (.slice none 0 0)) (List.replicate n []):=by
 refine⟨by simp,?_,?_⟩
 .intro i v x f g;rw[List.getElem?_replicate] at f g;split at f
  .rename_i hlt
   rw[Z3 hlt] at g
   cases f
   cases g
   exact Yg w base e 1
  cases f
 intro i j v u k f g m q;rw[List.getElem?_replicate] at f;split at f
 .cases f
  cases m
 cases f
def ints(l:List Int):List Value:=l.map (fun x=>.int .i64 x)
theorem Q1(l:List Int):(ints l).length=l.length:=by simp[ints]
theorem ints_at(h:i<l.length):(ints l)[i]?=some (.int .i64 (l.getD i 0)):=by
 unfold ints;rw[List.getElem?_map,Ze h,Zf,Ze h];rfl
theorem ints_set(l:List Int)(i:Nat)(x:Int):(ints l).set i (.int .i64 x)=ints (l.set i x):=by unfold ints;rw[List.map_set]
theorem Jt(l:List Int)(x:Int):ints l++[.int .i64 x]=ints (l++[x]):=by simp[ints]
theorem V5{base g n cap:Nat}(h:w.ownsRow base e 1 (.slice (some ⟨g,0,none⟩) n cap) n xs)(j:Nat)(u:Value)(f:j<n):(w.setCell ⟨g,j,none⟩ u).ownsRow base e 1 (.slice (some ⟨g,0,none⟩) n cap) n (xs.set j u):=by
 rcases h.2 with ⟨h1,_⟩|⟨g',cap',cur,h1,hb,hg,hnc,hcm,hcs,htk⟩
 .cases h1
 injection h1 with h1 _ h3
 injection h1 with h1
 injection h1 with h1
 subst h1;subst h3;refine⟨by simp[h.1],.inr ⟨g,cap,cur.setIfInBounds j u,rfl,hb,Zj w g j cur e u hg,hnc,hcm,by simp[hcs],?_⟩⟩;rw[<-htk,Array.toList_setIfInBounds,Z9,List.take_set]
theorem jH{base g n m cap:Nat}(h:w.ownsRow base e 1 (.slice (some ⟨g,0,none⟩) n cap) n xs)(f:m<=n):w.ownsRow base e 1 (.slice (some ⟨g,0,none⟩) m cap) m (xs.take m):=by
 rcases h.2 with ⟨h1,_⟩|⟨g',cap',cur,h1,hb,hg,hnc,hcm,hcs,htk⟩
 .cases h1
 injection h1 with h1 _ h3
 injection h1 with h1
 injection h1 with h1
 subst h1;subst h3;refine⟨by rw[Yc,h.1];omega,.inr ⟨g,cap,cur,rfl,hb,hg,oq,hcm,hcs,?_⟩⟩;rw[<-htk,List.take_take,show min m (n*1)=m*1 by omega]
structure AD where
 src:Int
 ops:List (Int × Int × Int)
structure TD where
 node:Int
 per:Int
 ph:Int
 args:List AD
structure LD where
 per:Int
 ph:Int
 arg:AD
 dl:Int
structure NB where
 bud:Int
 nps:Nat
structure FD where
 ins:List (Int × Int)
 nods:List NB
 tasks:List TD
 tells:List LD
def ZdL(w:World)(b o:Nat)(c:Int × Int):Prop:=w.cell? ⟨b,o,none⟩=some (.int .i64 c.1)/\w.cell? ⟨b,o+1,none⟩=some (.int .i64 c.2)
def OpR(w:World)(b o:Nat)(x:Int × Int × Int):Prop:=w.cell? ⟨b,o,none⟩=some (.int .i64 x.1)/\w.cell? ⟨b,o+1,none⟩=some (.int .i64 x.2.1)/\w.cell? ⟨b,o+2,none⟩=some (.int .i64 x.2.2)
def xP(w:World)(b o:Nat)(a:AD):Prop:=w.cell? ⟨b,o,none⟩=some (.int .i64 a.src)/\∃ad cap,w.cell? ⟨b,o+1,none⟩=some (.slice ad a.ops.length cap)/\Row OpR 3 w a.ops ad
def vw(w:World)(b o:Nat)(t:TD):Prop:=w.cell? ⟨b,o,none⟩=some (.int .i64 t.node)/\w.cell? ⟨b,o+1,none⟩=some (.int .i64 t.per)/\w.cell? ⟨b,o+2,none⟩=some (.int .i64 t.ph)/\∃ad cap,w.cell? ⟨b,o+3,none⟩=some (.slice ad t.args.length cap)/\Row xP 2 w t.args ad
def ZdU(w:World)(b o:Nat)(t:LD):Prop:=w.cell? ⟨b,o,none⟩=some (.int .i64 t.per)/\w.cell? ⟨b,o+1,none⟩=some (.int .i64 t.ph)/\w.cell? ⟨b,o+2,none⟩=some (.int .i64 t.arg.src)/\w.cell? ⟨b,o+4,none⟩=some (.int .i64 t.dl)/\∃ad cap,w.cell? ⟨b,o+3,none⟩=some (.slice ad t.arg.ops.length cap)/\Row OpR 3 w t.arg.ops ad
def NdR(w:World)(b o:Nat)(n:NB):Prop:=∃(nm:ByteArray)(pa:OA)(pc:Nat)(k:Int)(nm2:ByteArray)(n2 d2:Int)(ea:OA)(el ec:Nat)(a2 a:Int),
 w.cell? ⟨b,o,none⟩=some (.string nm)/\w.cell? ⟨b,o+1,none⟩=some (.slice pa n.nps pc)/\w.cell? ⟨b,o+2,none⟩=some (.int .i64 n.bud)/\w.cell? ⟨b,o+3,none⟩=some (.int .i64 k)/\w.cell? ⟨b,o+4,none⟩=some (.string nm2)/\w.cell? ⟨b,o+5,none⟩=some (.int .i64 n2) /\
 w.cell? ⟨b,o+6,none⟩=some (.int .i64 d2)/\w.cell? ⟨b,o+7,none⟩=some (.slice ea el ec)/\w.cell? ⟨b,o+8,none⟩=some (.int .i64 a2)/\w.cell? ⟨b,o+9,none⟩=some (.int .i64 a)
theorem ZfK:Sta ZdL:=fun w w' b o x hb hlt h=>⟨(hb.cell (p:=⟨b,_,none⟩) hlt).trans h.1,(hb.cell (p:=⟨b,_,none⟩) hlt).trans h.2⟩
theorem VK:Sta OpR:=fun w w' b o x hb hlt h=>⟨(hb.cell (p:=⟨b,_,none⟩) hlt).trans h.1,(hb.cell (p:=⟨b,_,none⟩) hlt).trans h.2.1,(hb.cell (p:=⟨b,_,none⟩) hlt).trans h.2.2⟩
theorem vC:Sta xP:=fun w w' b o x hb hlt h=>by
 obtain⟨h0,ad,cap,h1,h2⟩:=h;exact⟨(hb.cell (p:=⟨b,_,none⟩) hlt).trans h0,ad,cap,(hb.cell (p:=⟨b,_,none⟩) hlt).trans h1,h2.below VK hb⟩
theorem zm:Sta vw:=fun w w' b o x hb hlt h=>by
 obtain⟨h0,h1,h2,ad,cap,h3,h4⟩:=h;exact⟨(hb.cell (p:=⟨b,_,none⟩) hlt).trans h0,(hb.cell (p:=⟨b,_,none⟩) hlt).trans h1,(hb.cell (p:=⟨b,_,none⟩) hlt).trans h2,ad,cap,(hb.cell (p:=⟨b,_,none⟩) hlt).trans h3,h4.below vC hb⟩
theorem ZdA:Sta ZdU:=fun w w' b o x hb hlt h=>by
 obtain⟨h0,h1,h2,h3,ad,cap,h4,h5⟩:=h;exact⟨(hb.cell (p:=⟨b,_,none⟩) hlt).trans h0,(hb.cell (p:=⟨b,_,none⟩) hlt).trans h1,(hb.cell (p:=⟨b,_,none⟩) hlt).trans h2,(hb.cell (p:=⟨b,_,none⟩) hlt).trans h3,ad,cap,(hb.cell (p:=⟨b,_,none⟩) hlt).trans h4,h5.below VK hb⟩
theorem Zfh:Sta NdR:=fun w w' b o x hb hlt h=>by
 obtain⟨nm,pa,pc,k,nm2,n2,d2,ea,el,ec,a2,a,h0,h1,h2,h3,h4,h5,h6,h7,h8,h9⟩:=h;have hc:=fun o=>hb.cell (p:=⟨b,o,none⟩) hlt
 exact⟨nm,pa,pc,k,nm2,n2,d2,ea,el,ec,a2,a,(hc _).trans h0,(hc _).trans h1,(hc _).trans h2,(hc _).trans h3,(hc _).trans h4,(hc _).trans h5,(hc _).trans h6,(hc _).trans h7,(hc _).trans h8,(hc _).trans h9⟩
structure FAP (w:World) (f:FD) (ai an aT al:OA):Prop where
 ins:Row ZdL 2 w f.ins ai
 nods:Row NdR 10 w f.nods an
 tasks:Row vw 4 w f.tasks aT
 tells:Row ZdU 5 w f.tells al
 lens:f.ins.length<=1000/\f.nods.length<=1000/\f.tasks.length<=1000/\f.tells.length<=1000
 args:∀t∈f.tasks,t.args.length<=1000/\∀a∈t.args,a.ops.length<=1000/\I64 a.src
 tops:∀t∈f.tells,t.arg.ops.length<=1000/\I64 t.arg.src
theorem FAP.below{w w':World}{f:FD}{ai an aT al:OA}(h:FAP w f ai an aT al)(hb:Below w.1.size w w'):FAP w' f ai an aT al :=
 ⟨h.ins.below ZfK hb,h.nods.below Zfh hb,h.tasks.below zm hb,h.tells.below ZdA hb,h.lens,h.args,h.tops⟩
def fv(f:FD)(ai an aT al:OA)(ci cn ct cl:Nat):Value:=.agg #[.slice ai f.ins.length ci,.slice an f.nods.length cn,.slice aT f.tasks.length ct,.slice al f.tells.length cl]
def XV(f:FD)(i:Int):Option (Int × Int):=if i<0 then none else if i<(f.ins.length:Int) then f.ins[i.toNat]? else (f.tasks[(i-(f.ins.length:Int)).toNat]?).map (fun t=>(t.per,t.ph))
def Uv(o:Option (Int × Int)):Value:=.tuple #[.agg #[.int .i64 (o.getD (0,0)).1,.int .i64 (o.getD (0,0)).2],.bool o.isSome]
theorem eF{f:FD}{i:Int}(h:i<0):XV f i=none:=Z3 h
theorem Zdt{f:FD}(h:k<f.ins.length):XV f (k:Int)=some f.ins[k]:=by
 unfold XV;rw[Z2 oq,Z3 oq,ZR,Ze h]
theorem Ke{f:FD}(h:k<f.tasks.length):XV f ((f.ins.length:Int)+(k:Int))=some (f.tasks[k].per,f.tasks[k].ph):=by
 unfold XV;rw[Z2 oq,Z2 oq,show((f.ins.length:Int)+(k:Int)-(f.ins.length:Int)).toNat=k by omega,Ze h];rfl
theorem eE{f:FD}{i:Int}(g:¬i<0)(j:¬i<(f.ins.length:Int))(m:¬i-(f.ins.length:Int)<(f.tasks.length:Int)):XV f i=none:=by
 unfold XV;rw[Z2 g,Z2 j,Yd oq];rfl
theorem Uu(f:FD)(F an E G:OA)(R T U cl:Nat)(X:FAP w f F an E G)(i:Int)(I:I64 i) :
  Calls prog 169 #[fv f F an E G R T U cl,.int .i64 i] w fun x w'=>x=.returned (Uv (XV f i))/\Below w.1.size w w':=by
 have Z:=X.lens;have HF:=hid X;unfold I64 at I;clear X;unfold fv;obtain⟨y,g⟩:=ez (XV f i);rw[g];go_enter func169,ntmps169;go_upto_region 1 with fail
 obtain⟨D,q⟩:∃D,(w.alloc (.cells #[.slice F f.ins.length R,.slice an f.nods.length T,.slice E f.tasks.length U,.slice G f.tells.length cl] 35)).alloc (.cells #[.int .i64 0,.int .i64 0] 50)=D:=⟨_,rfl⟩;rw[q];have hB:Below w.1.size w D:=by rw[<-q];exact bq
 have L:D.1[w.1.size]?=some (.cells #[.slice F f.ins.length R,.slice an f.nods.length T,.slice E f.tasks.length U,.slice G f.tells.length cl] 35 (0,0)):=by rw[<-q];exact(Za _ _ _ (by simp)).trans (Yx w _)
 have M:D.1[w.1.size+1]?=some (.cells #[.int .i64 0,.int .i64 0] 50 (0,0)):=by rw[<-q];simpa using Yx (w.alloc (.cells #[.slice F f.ins.length R,.slice an f.nods.length T,.slice E f.tasks.length U,.slice G f.tells.length cl] 35)) (.cells #[.int .i64 0,.int .i64 0] 50)
 obtain⟨⟨x0,x1,x2,x3⟩,xf⟩:=Yy L;obtain⟨⟨q0,q1⟩,qf⟩:=YI M;have HB:=hid hB;clear q hB L M;by_cases h0:i<0
 .obtain rfl:y=none:=g.symm.trans (eF h0);clear g;have V:¬i>=0:=oq;go_wp2;exact Zl (v:=Uv none) (by unfold Uv;simp only[results,results169];go_simp) rfl ⟨rfl,bq⟩
 have V:i>=0:=oq;by_cases h1:i<(f.ins.length:Int)
 .obtain⟨k,rfl⟩:∃k:Nat,i=(k:Int):=⟨i.toNat,oq⟩;have J:k<f.ins.length:=oq;obtain⟨b,o,rfl,hb,j,m⟩:=HF.o.ins.at J;obtain⟨⟨O,H⟩,A⟩:∃c,f.ins[k]=c:=⟨_,rfl⟩;obtain rfl:y=some (O,H):=g.symm.trans ((Zdt J).trans (Z4 some A));rw[A] at j m;simp only at j m;have y0:=(HB.o.cell (p:=⟨b,o+k*2,none⟩) hb).trans j;have y1:=(HB.o.cell (p:=⟨b,o+k*2+1,none⟩) hb).trans m;have Y:(0:Int)<=(k:Int):=oq;clear j m A g;go_wp2;exact Zl (v:=Uv (some (O,H))) (by unfold Uv;simp only[Ya,Option.isSome_some];simp only[results,results169];go_simp) rfl ⟨rfl,bq⟩
 have ae:i>=(f.ins.length:Int):=oq;by_cases h2:i-(f.ins.length:Int)<(f.tasks.length:Int)
 .obtain⟨k,rfl⟩:∃k:Nat,i=(f.ins.length:Int)+(k:Int):=⟨(i-(f.ins.length:Int)).toNat,oq⟩;have J:k<f.tasks.length:=oq;obtain⟨b,o,rfl,hb,_,j,m,_⟩:=HF.o.tasks.at J;obtain⟨O,C⟩:=ez (f.tasks[k].per);obtain⟨H,z⟩:=ez (f.tasks[k].ph);obtain rfl:y=some (O,H):=g.symm.trans ((Ke J).trans (by rw[C,z]));rw[C] at j;rw[z] at m;have y0:=(HB.o.cell (p:=⟨b,o+k*4+1,none⟩) hb).trans j;have y1:=(HB.o.cell (p:=⟨b,o+k*4+2,none⟩) hb).trans m;have Y:(0:Int)<=(k:Int):=oq;have af:(k:Int)<(f.tasks.length:Int):=oq;have aa:IntKind.i64.wrap ((f.ins.length:Int)+(k:Int)-(f.ins.length:Int))=(k:Int):=by rw[show(f.ins.length:Int)+(k:Int)-(f.ins.length:Int)=(k:Int) by omega];exact ZL _ oq
  have ab:IntKind.i64.wrap ((f.ins.length:Int)+(f.tasks.length:Int))=(f.ins.length:Int)+(f.tasks.length:Int):=ZL _ oq;have ac:(f.ins.length:Int)+(k:Int)<(f.ins.length:Int)+(f.tasks.length:Int):=oq;clear j m C z g;go_wp2;exact Zl (v:=Uv (some (O,H))) (by unfold Uv;simp only[Ya,Option.isSome_some];simp only[results,results169];go_simp) rfl ⟨rfl,bq⟩
 obtain rfl:y=none:=g.symm.trans (eE h0 h1 h2);clear g;have aa:IntKind.i64.wrap (i-(f.ins.length:Int))=i-(f.ins.length:Int):=ZL _ oq;have ab:IntKind.i64.wrap ((f.ins.length:Int)+(f.tasks.length:Int))=(f.ins.length:Int)+(f.tasks.length:Int):=ZL _ oq;have ac:¬i<(f.ins.length:Int)+(f.tasks.length:Int):=oq;go_wp2;exact Zl (v:=Uv none) (by unfold Uv;simp only[results,results169];go_simp) rfl ⟨rfl,bq⟩
def swp(l:List Int)(i j:Nat):List Int:=(l.set i (l.getD j 0)).set j (l.getD i 0)
theorem XD(l:List Int)(i j:Nat):(swp l i j).length=l.length:=by simp[swp]
theorem J4(h:i<l.length):l.getD i 0∈l:=by rw[Zf,Ze h];exact Zi h
theorem QP{l:List α}{a x:α}(h:x∈l.set i a):x∈l\/x=a:=by
 rcases List.mem_or_eq_of_mem_set h with h|h
 .exact .inl h
 exact .inr h
theorem xG(hi:i<l.length)(g:j<l.length)(h:∀x∈l,Q x):∀x∈swp l i j,Q x:=by
 intro x f;unfold swp at f;rcases QP f with f|f
 .rcases QP f with f|f
  .exact h x f
  rw[f];exact h _ (J4 g)
 rw[f];exact h _ (J4 hi)
def upP:Nat->List Int->Nat->List Int
 | 0,l,_=>l
 | n+1,l,j=>if (j-1)/2=j then l else if l.getD j 0<l.getD ((j-1)/2) 0 then upP n (swp l ((j-1)/2) j) ((j-1)/2) else l
theorem Ze4:∀(n:Nat)(l:List Int)(j:Nat),(upP n l j).length=l.length:=by
 intro n
 induction n with
 | zero=>intro l j;rfl
 | succ n ih =>
  intro l j;rw[upP];split
  .rfl
  split
  .rw[ih,XD]
  rfl
theorem Ze3:∀(n:Nat)(l:List Int)(j:Nat),j<l.length->(∀x∈l,Q x)->∀x∈upP n l j,Q x:=by
 intro n
 induction n with
 | zero=>intro l j _ h;exact h
 | succ n ih =>
  intro l j f h;rw[upP];split
  .exact h
  split
  .refine ih _ _ (by rw[XD];omega) (xG oq f h)
  exact h
def xc(l:List Int)(i n:Nat):Nat:=if 2*i+2<n/\l.getD (2*i+2) 0<l.getD (2*i+1) 0 then 2*i+2 else 2*i+1
def QE:Nat->List Int->Nat->Nat->List Int
 | 0,l,_,_=>l
 | k+1,l,i,n=>if n<=2*i+1 then l else if l.getD (xc l i n) 0<l.getD i 0 then QE k (swp l i (xc l i n)) (xc l i n) n else l
theorem uw(h:¬n<=2*i+1):xc l i n<n/\i<xc l i n:=by
 unfold xc;split<;>omega
theorem Zai:∀(k:Nat)(l:List Int)(i n:Nat),(QE k l i n).length=l.length:=by
 intro k
 induction k with
 | zero=>intro l i n;rfl
 | succ k ih =>
  intro l i n;rw[QE];split
  .rfl
  split
  .rw[ih,XD]
  rfl
theorem Zah:∀(k:Nat)(l:List Int)(i n:Nat),n<=l.length->(∀x∈l,Q x)->∀x∈QE k l i n,Q x:=by
 intro k
 induction k with
 | zero=>intro l i n _ h;exact h
 | succ k ih =>
  intro l i n f h;rw[QE];split
  .exact h
  rename_i h1
  have g:=uw (l:=l) h1;split
  .exact ih _ _ _ (by rw[XD];exact f) (xG oq oq h)
  exact h
def Jd(l:List Int)(x:Int):List Int:=upP (l.length+1) (l++[x]) l.length
def Qf(l:List Int):List Int:=QE l.length (swp l 0 (l.length-1)) 0 (l.length-1)
def QB(l:List Int):Int × List Int:=((Qf l).getD (l.length-1) 0,(Qf l).take (l.length-1))
theorem yl(l:List Int)(x:Int):(Jd l x).length=l.length+1:=by unfold Jd;rw[Ze4];simp
theorem Jm(l:List Int):(Qf l).length=l.length:=by unfold Qf;rw[Zai,XD]
theorem jJ(l:List Int):(QB l).2.length=l.length-1:=by unfold QB;rw[Yc,Jm];omega
theorem V6(h:∀y∈l,Q y)(f:Q x):∀y∈Jd l x,Q y:=by
 unfold Jd;refine Ze3 _ _ _ (by simp) ?_;intro y hy;rcases List.mem_append.1 hy with hy|hy
 .exact h y hy
 rw[List.mem_singleton.1 hy];exact f
theorem ZaV(g:l≠[])(h:∀y∈l,Q y):∀y∈Qf l,Q y:=by
 have f:0<l.length:=by cases l with
  | nil=>exact absurd rfl g
  | cons _ _=>simp
 unfold Qf;exact Zah _ _ _ _ (by rw[XD];omega) (xG f oq h)
theorem E0(g:l≠[])(h:∀y∈l,Q y):Q (QB l).1/\∀y∈(QB l).2,Q y:=by
 have j:0<l.length:=by cases l with
  | nil=>exact absurd rfl g
  | cons _ _=>simp
 have f:=ZaV g h;exact⟨f _ (J4 (by rw[Jm];omega)),fun y hy=>f y (List.mem_of_mem_take hy)⟩
def Er(o:Int × Int × Int):Bool:=decide (o.1=6\/(o.1=5/\¬o.2.1=0))
def ve(f:FD)(i:Int):Option Int:=if (XV f i).isSome=true/\(f.ins.length:Int)<=i then some (i-(f.ins.length:Int)) else none
def Jc(f:FD)(a:AD):Option Int:=if a.ops.any Er=true then none else ve f a.src
def zt(f:FD)(t:TD):List Int:=t.args.filterMap (Jc f)
def Y6(f:FD)(t:TD):List Int:=Lib.compact ((zt f t).mergeSort (fun x y=>decide (x<=y)))
theorem za{f:FD}{i:Int}(h:(XV f i).isSome=true)(j:(f.ins.length:Int)<=i):i-(f.ins.length:Int)<(f.tasks.length:Int):=by
 by_cases g:i-(f.ins.length:Int)<(f.tasks.length:Int)
 .exact g
 rw[eE oq oq g] at h
 cases h
theorem Zgu{f:FD}{i x:Int}(h:ve f i=some x):0<=x/\x<(f.tasks.length:Int):=by
 unfold ve at h;split at h
 .rename_i h1
  cases h
  exact⟨oq,za h1.1 h1.2⟩
 cases h
theorem Zf0{f:FD}{t:TD}:∀x∈zt f t,0<=x/\x<(f.tasks.length:Int):=by
 intro x j;obtain⟨a,_,g⟩:=List.mem_filterMap.1 j;unfold Jc at g;split at g
 .cases g
 exact Zgu g
structure WS where
 q:List Int
 many:List Int
 rd:List (List Int)
def addR(t:Nat)(r:List (List Int))(x:Int):List (List Int):=r.set x.toNat (r.getD x.toNat []++[(t:Int)])
def QW(f:FD)(s:WS)(t:Nat):WS:=match f.tasks[t]? with
 | none=>s
 | some d=>⟨if Y6 f d=[] then Jd s.q (t:Int) else s.q,s.many.set t ((Y6 f d).length:Int),(Y6 f d).foldl (addR t) s.rd⟩
def EO(f:FD):WS:=(List.range f.tasks.length).foldl (QW f) ⟨[],List.replicate f.tasks.length 0,List.replicate f.tasks.length []⟩
def YJ(s:WS)(r:Int):WS:=⟨if s.many.getD r.toNat 0-1=0 then Jd s.q r else s.q,s.many.set r.toNat (s.many.getD r.toNat 0-1),s.rd⟩
def YO(s:WS):Int × WS:=((QB s.q).1,(s.rd.getD (QB s.q).1.toNat []).foldl YJ ⟨(QB s.q).2,s.many,s.rd⟩)
def Xw:Nat->WS->List Int->List Int
 | 0,_,l=>l
 | n+1,s,l=>if s.q=[] then l else Xw n (YO s).2 (l++[(YO s).1])
def muW(s:WS):Nat:=s.q.length+s.many.countP (fun x=>decide (0<x))
def ofP(f:FD):Option (List Int):=if (Xw (muW (EO f)) (EO f) []).length<f.tasks.length then none else some (Xw (muW (EO f)) (EO f) [])
structure WOk (T:Nat) (s:WS):Prop where
 q:∀x∈s.q,0<=x/\x<(T:Int)
 many:s.many.length=T
 rd:s.rd.length=T
 rds:∀r∈s.rd,∀x∈r,0<=x/\x<(T:Int)
theorem vU{p:Int->Bool}(h:i<l.length):(l.set i x).countP p+(if p (l.getD i 0)=true then 1 else 0)=l.countP p+(if p x=true then 1 else 0):=by
 induction l generalizing i with
 | nil=>simp at h
 | cons a l ih =>
  cases i with
  | zero =>
   simp only[List.set_cons_zero,List.countP_cons,List.getD_cons_zero];omega
  | succ i =>
   have:=ih (i:=i) (by simpa using h);simp only[List.set_cons_succ,List.countP_cons,List.getD_cons_succ];omega
theorem ZeH(s:WS)(r:Int):muW (YJ s r)<=muW s:=by
 unfold muW YJ;simp only;by_cases q:r.toNat<s.many.length
 .have h:=vU (x:=s.many.getD r.toNat 0-1) (p:=fun x=>decide (0<x)) q;generalize s.many.getD r.toNat 0=m at h ⊢;simp only[Yl] at h;by_cases g:m-1=0
  .rw[Z3 g,yl];rw[Z3 oq,Z2 oq] at h;omega
  rw[Z2 g];by_cases f:0<m
  .rw[Z3 f,Z3 oq] at h;omega
  rw[Z2 f,Z2 oq] at h;omega
 have j:s.many.getD r.toNat 0=0:=by rw[Zf,Yd oq];rfl
 rw[j,Z2 oq,List.set_eq_of_length_le oq];exact Zc _
theorem E1:∀(l:List Int)(s:WS),muW (l.foldl YJ s)<=muW s
 | [],s=>Zc _
 | r::l,s=>Zm (E1 l (YJ s r)) (ZeH s r)
theorem xh{s:WS}(h:s.q≠[]):muW (YO s).2+1<=muW s:=by
 have f:=E1 (s.rd.getD (QB s.q).1.toNat []) ⟨(QB s.q).2,s.many,s.rd⟩;have g:=jJ s.q;have j:0<s.q.length:=by cases hq:s.q with
  | nil=>exact absurd hq h
  | cons _ _=>simp
 unfold YO;simp only;unfold muW at f ⊢;simp only at f ⊢;omega
theorem qX:∀(n:Nat)(s:WS)(l:List Int),muW s<=n->Xw (n+1) s l=Xw n s l:=by
 intro n
 induction n with
 | zero =>
  intro s l h;have:s.q=[]:=by cases hq:s.q with
   | nil=>rfl
   | cons a b=>unfold muW at h;rw[hq] at h;simp at h
  (conv=>lhs;rw[Xw,Z3 this]);rfl
 | succ n ih =>
  intro s l h
  conv=>lhs;rw[Xw]
  conv=>rhs;rw[Xw]
  split
  .rfl
  rename_i hq
  have:=xh hq;exact ih _ _ oq
theorem qY{s:WS}(l:List Int)(h:s.q≠[]):Xw (muW s) s l=Xw (muW (YO s).2) (YO s).2 (l++[(YO s).1]):=by
 have j:=xh h;have key:∀d n,n=muW (YO s).2+d->Xw n (YO s).2 (l++[(YO s).1])=Xw (muW (YO s).2) (YO s).2 (l++[(YO s).1]):=by
  intro d
  induction d with
  | zero=>intro n f;rw[f];rfl
  | succ d ih =>
   intro n f;rw[show n=(muW (YO s).2+d)+1 by omega,qX _ _ _ oq];exact ih _ rfl
 obtain⟨m,g⟩:∃m,muW s=m+1:=⟨muW s-1,oq⟩;rw[g,Xw,Z2 h];exact key (m-muW (YO s).2) m oq
theorem uE{s:WS}(n:Nat)(l:List Int)(h:s.q=[]):Xw n s l=l:=by
 cases n with
 | zero=>rfl
 | succ n=>rw[Xw,Z3 h]
theorem Zc4{s:WS}(h:WOk T s)(i:Nat):∀x∈s.rd.getD i [],0<=x/\x<(T:Int):=by
 intro x f;by_cases hi:i<s.rd.length
 .rw[Zf,Ze hi] at f;exact h.rds _ (Zi hi) x f
 rw[Zf,Yd oq] at f
 cases f
theorem WOk.read{s:WS}(h:WOk T s){r:Int}(f:0<=r/\r<(T:Int)):WOk T (YJ s r):=by
 refine⟨?_,by simp[YJ,h.many],h.rd,h.rds⟩;unfold YJ;simp only;split
 .exact V6 h.q f
 exact h.q
theorem WOk.reads{T:Nat}:∀(l:List Int)(s:WS),WOk T s->(∀x∈l,0<=x/\x<(T:Int))->WOk T (l.foldl YJ s)
 | [],s,h,_=>h
 | r::l,s,h,hl=>WOk.reads l _ (h.read (hl r (by simp))) (fun x hx=>hl x (by simp[hx]))
theorem WOk.next{s:WS}(h:WOk T s)(g:s.q≠[]):(0<=(YO s).1/\(YO s).1<(T:Int))/\WOk T (YO s).2:=by
 have f:=E0 g h.q;exact⟨f.1,WOk.reads _ _ ⟨f.2,h.many,h.rd,h.rds⟩ (Zc4 h _)⟩
theorem Gg{d:Array Int}(y:m<=d.size):∀x∈Lib.compactUpTo d m,x∈d.toList:=by
 intro x g;unfold Lib.compactUpTo at g;obtain⟨j,q,rfl⟩:=Yf.1 g;have v:=List.mem_range.1 (List.mem_filter.1 q).1;have f:j<d.size:=oq;simp only[getElem!_pos d j f];simp
theorem qz{f:FD}{t:TD}:∀x∈Y6 f t,0<=x/\x<(f.tasks.length:Int):=by
 intro x j;have g:=Gg (Nat.le_of_eq (by simp)) x j;exact Zf0 x (List.mem_mergeSort.1 g)
theorem QZ(q:List Int):(Lib.compact q).length<=q.length:=by
 unfold Lib.compact Lib.compactUpTo;rw[Zo];exact Zm (List.length_filter_le _ _) (by simp)
theorem WOk.addR{T:Nat}{t:Nat}(ht:t<T){r:List (List Int)}{x:Int}(g:r.length=T)(h:∀s∈r,∀y∈s,0<=y/\y<(T:Int)):(addR t r x).length=T/\∀s∈addR t r x,∀y∈s,0<=y/\y<(T:Int):=by
 refine⟨by simp[syn.addR,g],?_⟩;intro s f y hy;unfold syn.addR at f;rcases QP f with f|rfl
 .exact h s f y hy
 rcases List.mem_append.1 hy with hy|hy
 .by_cases hi:x.toNat<r.length
  .rw[Zf,Ze hi] at hy;exact h _ (Zi hi) y hy
  rw[Zf,Yd oq] at hy
  cases hy
 rw[List.mem_singleton.1 hy];omega
theorem WOk.addRs{T:Nat}{t:Nat}(ht:t<T):∀(l:List Int)(r:List (List Int)),r.length=T->(∀s∈r,∀y∈s,0<=y/\y<(T:Int))->(l.foldl (syn.addR t) r).length=T/\∀s∈l.foldl (syn.addR t) r,∀y∈s,0<=y/\y<(T:Int)
 | [],r,h1,h2=>⟨h1,h2⟩
 | x::l,r,h1,h2=>by
  obtain⟨h3,h4⟩:=WOk.addR (x:=x) ht h1 h2;exact WOk.addRs ht l _ h3 h4
theorem WOk.newS{f:FD}{s:WS}(ht:t<f.tasks.length)(h:WOk f.tasks.length s):WOk f.tasks.length (QW f s t):=by
 unfold QW;rw[Ze ht];simp only;obtain⟨g,j⟩:=WOk.addRs ht (Y6 f f.tasks[t]) s.rd h.rd h.rds;refine⟨?_,by simp[h.many],g,j⟩;simp only;split
 .exact V6 h.q oq
 exact h.q
def Xv(f:FD)(n:Nat):WS:=(List.range n).foldl (QW f) ⟨[],List.replicate f.tasks.length 0,List.replicate f.tasks.length []⟩
theorem Jl(f:FD)(n:Nat):Xv f (n+1)=QW f (Xv f n) n:=by
 unfold Xv;rw[Yj,List.foldl_append];rfl
theorem GK(f:FD):∀n,n<=f.tasks.length->WOk f.tasks.length (Xv f n)
 | 0,_=>⟨by simp[Xv],by simp[Xv],by simp[Xv],by
   intro r hr x hx;have:=List.eq_of_mem_replicate (show r∈List.replicate f.tasks.length [] from hr);subst this
   cases hx⟩
 | n+1,h=>by
  rw[Jl];exact WOk.newS oq (GK f n oq)
theorem Ju{f:FD}{s:WS}{d:TD}(h:f.tasks[t]?=some d):QW f s t=⟨if Y6 f d=[] then Jd s.q (t:Int) else s.q,s.many.set t ((Y6 f d).length:Int),(Y6 f d).foldl (addR t) s.rd⟩:=by
 unfold QW;rw[h]
theorem KM(f:FD):∀n,(Xv f n).q.length<=n
 | 0=>by simp[Xv]
 | n+1=>by
  have ih:=KM f n;rw[Jl]
  cases h:f.tasks[n]? with
  | none=>unfold QW;rw[h];simp only;omega
  | some d =>
   rw[Ju h];simp only;split
   .rw[yl];omega
   omega
def RB(c:Nat)(rd:List (List Int)):Prop:=∀r∈rd,r.length<=c
theorem RB.getD{rd:List (List Int)}(h:RB c rd)(i:Nat):(rd.getD i []).length<=c:=by
 by_cases hi:i<rd.length
 .rw[Zf,Ze hi];exact h _ (Zi hi)
 rw[Zf,Yd oq];simp
theorem RB.mono{rd:List (List Int)}(h:RB c rd)(hd:c<=d):RB d rd:=fun r hr=>Zm (h r hr) hd
theorem RB.add{rd:List (List Int)}(h:RB c rd)(x:Int):RB (c+1) (addR t rd x):=by
 intro r f;unfold addR at f;rcases QP f with f|rfl
 .exact Nat.le_succ_of_le (h r f)
 rw[Zy];have:=h.getD x.toNat;simp only[Zp,Zx];omega
theorem RB.adds{t:Nat}:∀(l:List Int)(c:Nat)(rd:List (List Int)),RB c rd->RB (c+l.length) (l.foldl (addR t) rd)
 | [],c,rd,h=>h
 | x::l,c,rd,h=>by
  have:=RB.adds (t:=t) l (c+1) _ (h.add (t:=t) x);rw[show c+(x::l).length=c+1+l.length by simp;omega];exact this
theorem xg(f:FD)(hh:∀(n:Nat)(d:TD),f.tasks[n]?=some d->(Y6 f d).length<=1000):∀n,RB (n*1000) (Xv f n).rd
 | 0=>by
  intro r hr;have:=List.eq_of_mem_replicate (show r∈List.replicate f.tasks.length [] from hr);subst this;simp
 | n+1=>by
  have ih:=xg f hh n;rw[Jl]
  cases h:f.tasks[n]? with
  | none=>unfold QW;rw[h];exact ih.mono oq
  | some d =>
   rw[Ju h];exact(RB.adds (Y6 f d) _ _ ih).mono (by have:=hh n d h;omega)
def MB(c:Nat)(l:List Int):Prop:=∀x∈l,-(c:Int)<=x/\x<=100000
theorem MB.getD(h:MB c l)(i:Nat):-(c:Int)<=l.getD i 0/\l.getD i 0<=100000:=by
 by_cases hi:i<l.length
 .rw[Zf,Ze hi];exact h _ (Zi hi)
 rw[Zf,Yd oq];simp
theorem MB.mono(h:MB c l)(hd:c<=d):MB d l:=fun x hx=>⟨by have:=(h x hx).1;omega,(h x hx).2⟩
theorem MB.read{s:WS}(h:MB c s.many)(r:Int):MB (c+1) (YJ s r).many:=by
 intro x f;unfold YJ at f;rcases QP f with f|rfl
 .have:=h x f;omega
 have:=h.getD r.toNat;omega
theorem MB.reads:∀(l:List Int)(c:Nat)(s:WS),MB c s.many->MB (c+l.length) (l.foldl YJ s).many
 | [],c,s,h=>h
 | r::l,c,s,h=>by
  have:=MB.reads l (c+1) _ (h.read r);rw[show c+(r::l).length=c+1+l.length by simp;omega];exact this
theorem gQ(f:FD)(hh:∀(n:Nat)(d:TD),f.tasks[n]?=some d->(Y6 f d).length<=1000):∀n,MB 0 (Xv f n).many
 | 0=>by
  intro x hx;have:=List.eq_of_mem_replicate (show x∈List.replicate f.tasks.length (0:Int) from hx);subst this;omega
 | n+1=>by
  have ih:=gQ f hh n;rw[Jl]
  cases h:f.tasks[n]? with
  | none=>unfold QW;rw[h];exact ih
  | some d =>
   rw[Ju h];intro x hx;rcases QP hx with hx|rfl
   .exact ih x hx
   have:=hh n d h;omega
theorem E2:∀(l:List Int)(s:WS),(l.foldl YJ s).rd=s.rd
 | [],s=>rfl
 | r::l,s=>(E2 l (YJ s r)).trans rfl
theorem Zev(s:WS):(YO s).2.rd=s.rd:=by unfold YO;simp only;rw[E2]
theorem MB.next{s:WS}(h:MB c s.many)(f:RB d s.rd):MB (c+d) (YO s).2.many:=by
 unfold YO;simp only;exact(MB.reads _ _ ⟨(QB s.q).2,s.many,s.rd⟩ h).mono (by have:=f.getD (QB s.q).1.toNat;omega)
theorem Zg5(s:WS):s.q.length<=muW s:=by unfold muW;omega
theorem VT(hi:i<l.length)(f:j<l.length):(swp l i j).Perm l:=by
 have h:((l.set i l[j]).set j l[i]).Perm l:=List.set_set_perm hi f;unfold swp;rw[Zf,Zf,Ze hi,Ze f];exact h
theorem ZdE:∀(n:Nat)(l:List Int)(j:Nat),j<l.length->(upP n l j).Perm l:=by
 intro n
 induction n with
 | zero=>intro l j _;exact List.Perm.refl _
 | succ n ih =>
  intro l j f;rw[upP];split
  .exact List.Perm.refl _
  split
  .exact(ih _ _ (by rw[XD];omega)).trans (VT oq f)
  exact List.Perm.refl _
theorem vW:∀(k:Nat)(l:List Int)(i n:Nat),n<=l.length->(QE k l i n).Perm l:=by
 intro k
 induction k with
 | zero=>intro l i n _;exact List.Perm.refl _
 | succ k ih =>
  intro l i n f;rw[QE];split
  .exact List.Perm.refl _
  rename_i h1
  have g:=uw (l:=l) h1;split
  .exact(ih _ _ _ (by rw[XD];exact f)).trans (VT oq oq)
  exact List.Perm.refl _
theorem Vl(l:List Int)(x:Int):(Jd l x).Perm (x::l):=by
 unfold Jd;exact(ZdE _ _ _ (by simp)).trans (List.perm_append_singleton _ _)
theorem ZaL(j:l≠[]):((QB l).1::(QB l).2).Perm l:=by
 have f:0<l.length:=by cases l with
  | nil=>exact absurd rfl j
  | cons _ _=>simp
 have g:(Qf l).Perm l:=by
  unfold Qf;exact(vW _ _ _ _ (by rw[XD];omega)).trans (VT f oq)
 refine List.Perm.trans ?_ g;have m:=Jm l;have hi:l.length-1<(Qf l).length:=oq;have e:Qf l=(QB l).2++[(QB l).1]:=by
  unfold QB;simp only;rw[Zf,Ze hi];have:=Zw hi;rw[show l.length-1+1=(Qf l).length by omega,ZT] at this;exact this
 rw[e];exact(List.perm_append_singleton _ _).symm
def Xn(f:FD)(t:Nat):List Int:=match f.tasks[t]? with
 | none=>[]
 | some d=>Y6 f d
theorem zV{f:FD}{d:TD}(h:f.tasks[t]?=some d):Xn f t=Y6 f d:=by unfold Xn;rw[h]
theorem Ey(l:List α)(i j:Nat)(a z:α)(hi:i<l.length):(l.set i a).getD j z=if i=j then a else l.getD j z:=by
 rw[Zf,Zf];by_cases h:i=j
 .subst h;rw[Z3 rfl,List.getElem?_set_self hi];rfl
 rw[Z2 h,List.getElem?_set_ne h]
theorem jN{T:Nat}:∀(R:List Int)(s:WS),WOk T s->(∀x∈R,0<=x/\x<(T:Int))->(∀t:Nat,t<T->((R.count (t:Int):Nat):Int)<=s.many.getD t 0) ->
  (R.foldl YJ s).rd=s.rd/\(∀t:Nat,t<T->(R.foldl YJ s).many.getD t 0=s.many.getD t 0-((R.count (t:Int):Nat):Int)) /\
  (∀t:Nat,t<T->(R.foldl YJ s).q.count (t:Int)=s.q.count (t:Int)+(if 0<R.count (t:Int)/\s.many.getD t 0=((R.count (t:Int):Nat):Int) then 1 else 0))
 | [],s,_,_,_=>⟨rfl,fun t _=>by simp,fun t _=>by simp⟩
 | r::R,s,hs,hR,hc=>by
  have hr:=hR r (by simp);obtain⟨k,rfl⟩:∃k:Nat,r=(k:Int):=⟨r.toNat,oq⟩;have hk:k<T:=oq;have hm:=hs.many;have hck:=hc k hk;simp only[List.count_cons_self] at hck;have hmany:∀t:Nat,t<T->(YJ s (k:Int)).many.getD t 0=if k=t then s.many.getD k 0-1 else s.many.getD t 0:=fun t ht=>by
   unfold YJ;simp only[ZR];exact Ey _ _ _ _ _ oq
  have hcnt:∀t:Nat,((k:Int)::R).count (t:Int)=R.count (t:Int)+(if k=t then 1 else 0):=fun t=>by
   rw[List.count_cons];by_cases h:k=t
   .subst h;simp
   rw[Z2 h,Z2];intro h2;have:=eq_of_beq h2;omega
  obtain⟨h1,h2,h3⟩:=jN R (YJ s (k:Int)) (hs.read hr) (fun x hx=>hR x (by simp[hx])) (fun t ht=>by
   have:=hc t ht;rw[hcnt t] at this;rw[hmany t ht];by_cases h:k=t
   .subst h;rw[Z3 rfl] at this ⊢;omega
   rw[Z2 h] at this ⊢;exact this)
  refine⟨h1,fun t ht=>?_,fun t ht=>?_⟩
  .show(R.foldl YJ (YJ s (k:Int))).many.getD t 0=_;rw[h2 t ht,hmany t ht,hcnt t];by_cases h:k=t
   .subst h;rw[Z3 rfl,Z3 rfl];omega
   rw[Z2 h,Z2 h];omega
  show(R.foldl YJ (YJ s (k:Int))).q.count (t:Int)=_;rw[h3 t ht,hmany t ht,hcnt t];have hq:(YJ s (k:Int)).q=if s.many.getD k 0-1=0 then Jd s.q (k:Int) else s.q:=rfl
  rw[hq];by_cases h:k=t
  .subst h;simp only[Z3];by_cases h0:s.many.getD k 0-1=0
   .rw[Z3 h0,(Vl _ _).count_eq,List.count_cons_self,Z2 oq,Z3 oq]
   rw[Z2 h0];by_cases h4:0<R.count (k:Int)/\s.many.getD k 0-1=((R.count (k:Int):Nat):Int)
   .rw[Z3 h4,Z3 oq]
   rw[Z2 h4,Z2 oq]
  simp only[Z2 h,Nat.add_zero];have hne:¬((k:Int) == (t:Int))=true:=fun h2=>by have:=eq_of_beq h2;omega
  by_cases h0:s.many.getD k 0-1=0
  .rw[Z3 h0,(Vl _ _).count_eq,List.count_cons,Z2 hne];rfl
  rw[Z2 h0]
structure eN (f:FD) (s:WS) (l:List Int):Prop where
 ok:WOk f.tasks.length s
 rd:∀x t:Nat,x<f.tasks.length->t<f.tasks.length->(s.rd.getD x []).count (t:Int)=(Xn f t).count (x:Int)
 many:∀t:Nat,t<f.tasks.length->s.many.getD t 0=(((Xn f t).countP (fun y=>decide (y∉l)):Nat):Int)
 inn:∀t:Nat,t<f.tasks.length->(((t:Int)∈s.q\/(t:Int)∈l)↔∀y∈Xn f t,y∈l)
 nd:∀t:Nat,t<f.tasks.length->s.q.count (t:Int)+l.count (t:Int)<=1
 rng:∀x∈l,0<=x/\x<(f.tasks.length:Int)
 top:∀(i:Nat)(x:Int),l[i]?=some x->∀y∈Xn f x.toNat,y∈l.take i
theorem countP_split(h:List Int)(l:List Int)(x:Int)(j:x∉l):h.countP (fun y=>decide (y∉l))=h.countP (fun y=>decide (y∉l++[x]))+h.count x:=by
 induction h with
 | nil=>rfl
 | cons a h ih =>
  rw[List.countP_cons,List.countP_cons,List.count_cons,ih];by_cases f:a=x
  .subst f;simp[j];omega
  by_cases g:a∈l
  .simp[g,f]
  simp[g,f];omega
theorem eN.next{f:FD}{s:WS}{l:List Int}(h:eN f s l)(hq:s.q≠[]):eN f (YO s).2 (l++[(YO s).1]):=by
 have hp:=ZaL hq;have hn:=h.ok.next hq;have ah:(YO s).1=(QB s.q).1:=rfl;have af:(YO s).2=(s.rd.getD (QB s.q).1.toNat []).foldl YJ ⟨(QB s.q).2,s.many,s.rd⟩:=rfl;obtain⟨Z,v⟩:=hn;rw[ah] at Z ⊢;rw[af] at v ⊢;have E:=E0 hq h.ok.q;obtain⟨x,hx⟩:=ez ((QB s.q).1);obtain⟨G,Y⟩:=ez ((QB s.q).2);rw[hx,Y] at hp E;rw[hx] at Z v ⊢;rw[Y] at v ⊢;obtain⟨k,rfl⟩:∃k:Nat,x=(k:Int):=⟨x.toNat,oq⟩;have O:k<f.tasks.length:=oq;simp only[ZR] at v ⊢;have I:∀t:Nat,s.q.count (t:Int)=G.count (t:Int)+(if k=t then 1 else 0):=fun t=>by
  rw[<-hp.count_eq,List.count_cons];by_cases e:k=t
  .subst e;simp
  rw[Z2 e,Z2];intro R;have:=eq_of_beq R;omega
 have A:(k:Int)∉l:=fun hm=>by
  have:=h.nd k O;rw[I k,Z3 rfl] at this;have:=List.count_pos_iff.2 hm;omega
 have F:∀t:Nat,((t:Int)∈s.q↔(t:Int)∈G\/t=k):=fun t=>by
  rw[<-hp.mem_iff,ZS];constructor
  .rintro (g|g)
   .exact .inr oq
   exact .inl g
  rintro (g|g)
  .exact .inr g
  exact .inl oq
 have U:=Zc4 h.ok k;have ae:∀t:Nat,t<f.tasks.length->(((s.rd.getD k []).count (t:Int):Nat):Int)<=s.many.getD t 0:=fun t ht=>by
  rw[h.rd k t O ht,h.many t ht,countP_split _ l (k:Int) A];omega
 obtain⟨r1,r2,r3⟩:=jN (T:=f.tasks.length) (s.rd.getD k []) ⟨G,s.many,s.rd⟩ ⟨E.2,h.ok.many,h.ok.rd,h.ok.rds⟩ U ae;have J:∀t:Nat,t<f.tasks.length->((s.rd.getD k []).foldl YJ ⟨G,s.many,s.rd⟩).many.getD t 0=(((Xn f t).countP (fun y=>decide (y∉l++[(k:Int)])):Nat):Int):=fun t ht=>by
  rw[r2 t ht,h.rd k t O ht];show s.many.getD t 0-_=_;rw[h.many t ht,countP_split _ l (k:Int) A];omega
 have hz:∀t:Nat,t<f.tasks.length->(((Xn f t).countP (fun y=>decide (y∉l++[(k:Int)]))=0)↔∀y∈Xn f t,y∈l++[(k:Int)]):=fun t ht=>by
  rw[List.countP_eq_zero];simp only[Yl,Decidable.not_not]
 have D:∀t:Nat,t<f.tasks.length->(((Xn f t).countP (fun y=>decide (y∉l))=0)↔∀y∈Xn f t,y∈l):=fun t ht=>by
  rw[List.countP_eq_zero];simp only[Yl,Decidable.not_not]
 refine⟨v,fun x t hx ht=>by rw[r1];exact h.rd x t hx ht,J,fun t ht=>?_,fun t ht=>?_,?_,?_⟩
 .have ag:=countP_split (Xn f t) l (k:Int) A;have H:=r3 t ht;have L:=h.rd k t O ht;have C:=h.many t ht;have m:=h.inn t ht;rw[F t] at m;rw[<-hz t ht];constructor
  .rintro (g|g)
   .have g:=List.count_pos_iff.2 g;rw[H] at g;by_cases j:0<(s.rd.getD k []).count (t:Int)/\s.many.getD t 0=(((s.rd.getD k []).count (t:Int):Nat):Int)
    .have:=j.2;rw[L,C] at this;omega
    rw[show(⟨G,s.many,s.rd⟩:WS).many=s.many from rfl,Z2 j] at g;have:=(D t ht).2 (m.1 (.inl (.inl (List.count_pos_iff.1 (by simpa using g)))));omega
   rw[List.mem_append,List.mem_singleton] at g;have:=(D t ht).2 (m.1 (by
    rcases g with g|g
    .exact .inr g
    exact .inl (.inr oq)))
   omega
  intro h0;by_cases ab:(Xn f t).countP (fun y=>decide (y∉l))=0
  .rcases m.2 ((D t ht).1 ab) with (g|g)|g
   .refine .inl (List.count_pos_iff.1 ?_);rw[H];have:=List.count_pos_iff.2 g;show 0<G.count (t:Int)+_;omega
   .exact .inr (by rw[g];simp)
   exact .inr (by simp[g])
  refine .inl (List.count_pos_iff.1 ?_);rw[H,Z3]
  .omega
  show _/\s.many.getD t 0=_;rw[C,L];omega
 .rw[r3 t ht,List.count_append];have g:=h.nd t ht;rw[I t] at g;have L:=h.rd k t O ht;have C:=h.many t ht;have ag:=countP_split (Xn f t) l (k:Int) A;show G.count (t:Int)+_+_<=1;have M:List.count (t:Int) [(k:Int)]=if k=t then 1 else 0:=by
   rw[List.count_singleton];by_cases e:k=t
   .subst e;simp
   rw[Z2 e,Z2];intro R;have:=eq_of_beq R;omega
  rw[M];by_cases j:0<(s.rd.getD k []).count (t:Int)/\(⟨G,s.many,s.rd⟩:WS).many.getD t 0=(((s.rd.getD k []).count (t:Int):Nat):Int)
  .rw[Z3 j];have R:s.many.getD t 0=(((s.rd.getD k []).count (t:Int):Nat):Int):=j.2;have ai:=j.1;have X:¬∀y∈Xn f t,y∈l:=fun hc=>by
    have:=(D t ht).2 hc;rw[C] at R;omega
   have m:=h.inn t ht;have h3:¬(t:Int)∈s.q:=fun hm=>X (m.1 (.inl hm))
   have h4:¬(t:Int)∈l:=fun hm=>X (m.1 (.inr hm))
   have h5:=List.count_eq_zero.2 h3;have h6:=List.count_eq_zero.2 h4;rw[I t] at h5;omega
  rw[Z2 j];omega
 .intro y hy;rcases List.mem_append.1 hy with hy|hy
  .exact h.rng y hy
  rw[List.mem_singleton.1 hy];omega
 intro i y hi z aa;by_cases ac:i<l.length
 .rw[List.getElem?_append_left ac] at hi;rw[List.take_append_of_le_length oq];exact h.top i y hi z aa
 have V:=(ZB.1 hi).1;rw[Zy,List.length_singleton] at V;obtain rfl:i=l.length:=oq;rw[List.getElem?_append_right (Zc _),Nat.sub_self] at hi;injection hi with hi
 subst hi;rw[List.take_left];exact(h.inn k O).1 (.inl ((F k).2 (.inr rfl))) z aa
theorem K6{T:Nat}{t:Nat}(ht:t<T):∀(H:List Int)(r:List (List Int)),r.length=T->(∀x∈H,0<=x/\x<(T:Int))->(H.foldl (addR t) r).length=T/\∀x u:Nat,x<T->((H.foldl (addR t) r).getD x []).count (u:Int)=(r.getD x []).count (u:Int)+(if u=t then H.count (x:Int) else 0)
 | [],r,hr,_=>⟨hr,fun x u _=>by simp⟩
 | a::H,r,hr,hH=>by
  have ha:=hH a (by simp);obtain⟨k,rfl⟩:∃k:Nat,a=(k:Int):=⟨a.toNat,oq⟩;have hl:(addR t r (k:Int)).length=T:=by unfold addR;rw[List.length_set];exact hr
  obtain⟨q,v⟩:=K6 ht H (addR t r (k:Int)) hl (fun x hx=>hH x (by simp[hx]));refine⟨q,fun x u hx=>?_⟩;show((H.foldl (addR t) (addR t r (k:Int))).getD x []).count (u:Int)=_;rw[v x u hx];have e:(addR t r (k:Int)).getD x []=if k=x then r.getD k []++[(t:Int)] else r.getD x []:=by
   unfold addR;simp only[ZR];exact Ey _ _ _ _ _ oq
  rw[e,List.count_cons];by_cases f:k=x
  .subst f;rw[Z3 rfl,List.count_append,List.count_singleton];by_cases m:u=t
   .subst m;simp;omega
   rw[Z2 m,Z2 m,Z2];intro g;have:=eq_of_beq g;omega
  rw[Z2 f];have j:¬((k:Int) == (x:Int))=true:=fun g=>by have:=eq_of_beq g;omega
  rw[Z2 j,Nat.add_zero]
theorem qT(f:FD):∀n,n<=f.tasks.length ->
  (∀x t:Nat,x<f.tasks.length->t<f.tasks.length->((Xv f n).rd.getD x []).count (t:Int)=if t<n then (Xn f t).count (x:Int) else 0) /\
  (∀t:Nat,t<f.tasks.length->(Xv f n).many.getD t 0=if t<n then ((Xn f t).length:Int) else 0) /\
  (∀t:Nat,t<f.tasks.length->(Xv f n).q.count (t:Int)=if t<n/\Xn f t=[] then 1 else 0)
 | 0,_=>by
  refine⟨fun x t hx _=>?_,fun t ht=>?_,fun t _=>by simp[Xv]⟩
  .have:((Xv f 0).rd.getD x [])=[]:=by simp[Xv,Zf,List.getElem?_replicate,hx]
   rw[this];simp
  simp[Xv,Zf,List.getElem?_replicate,ht]
 | n+1,h=>by
  obtain⟨G,H,D⟩:=qT f n oq;have A:n<f.tasks.length:=oq;have v:=GK f n oq;have hd:f.tasks[n]?=some f.tasks[n]:=Ze A;have z:=zV hd;rw[Jl,Ju hd];obtain⟨I,E⟩:=K6 A (Y6 f f.tasks[n]) (Xv f n).rd v.rd (fun x hx=>qz x hx);refine⟨fun x t hx ht=>?_,fun t ht=>?_,fun t ht=>?_⟩
  .show(((Y6 f f.tasks[n]).foldl (addR n) (Xv f n).rd).getD x []).count (t:Int)=_;rw[E x t hx,G x t hx ht];by_cases e:t=n
   .subst e;rw[Z2 oq,Z3 rfl,Z3 oq,z];omega
   rw[Z2 e];by_cases g:t<n
   .rw[Z3 g,Z3 oq];rfl
   rw[Z2 g,Z2 oq]
  .show((Xv f n).many.set n ((Y6 f f.tasks[n]).length:Int)).getD t 0=_;rw[Ey _ _ _ _ _ (by rw[v.many];exact A)];by_cases e:n=t
   .subst e;rw[Z3 rfl,Z3 oq,z]
   rw[Z2 e,H t ht];by_cases g:t<n
   .rw[Z3 g,Z3 oq]
   rw[Z2 g,Z2 oq]
  show(if Y6 f f.tasks[n]=[] then Jd (Xv f n).q (n:Int) else (Xv f n).q).count (t:Int)=_;by_cases e:t=n
  .subst e;have j:=D t ht;rw[Z2 oq] at j;by_cases y:Y6 f f.tasks[t]=[]
   .rw[Z3 y,(Vl _ _).count_eq,List.count_cons_self,j,Z3 ⟨oq,by rw[z];exact y⟩]
   rw[Z2 y,j,Z2 (fun m=>y (by rw[<-z];exact m.2))]
  have C:¬((n:Int) == (t:Int))=true:=fun h4=>by have:=eq_of_beq h4;omega
  have F:(if Y6 f f.tasks[n]=[] then Jd (Xv f n).q (n:Int) else (Xv f n).q).count (t:Int)=(Xv f n).q.count (t:Int):=by
   split
   .rw[(Vl _ _).count_eq,List.count_cons,Z2 C,Nat.add_zero]
   rfl
  rw[F,D t ht];by_cases m:t<n/\Xn f t=[]
  .rw[Z3 m,Z3 ⟨oq,m.2⟩]
  rw[Z2 m,Z2 (fun h5=>m ⟨oq,h5.2⟩)]
theorem Zeu(f:FD):EO f=Xv f f.tasks.length:=rfl
theorem ZcO(f:FD):eN f (EO f) []:=by
 obtain⟨z,A,m⟩:=qT f _ (Zc _);rw[Zeu];have j:=GK f f.tasks.length (Zc _);refine⟨j,fun x t hx ht=>by rw[z x t hx ht,Z3 ht],fun t ht=>?_,fun t ht=>?_,fun t ht=>?_,(fun x hx=>by cases hx),(fun i x hi=>by simp at hi)⟩
 .rw[A t ht,Z3 ht];simp
 .have q:=m t ht;constructor
  .rintro (g|g)
   .have:=List.count_pos_iff.2 g;rw[q] at this;by_cases v:t<f.tasks.length/\Xn f t=[]
    .rw[v.2];intro y hy;cases hy
    rw[Z2 v] at this;omega
   cases g
  intro g;have C:Xn f t=[]:=by
   cases hh:Xn f t with
   | nil=>rfl
   | cons a _=>rw[hh] at g;exact absurd (g a (by simp)) (by simp)
  rw[Z3 ⟨ht,C⟩] at q;exact .inl (List.count_pos_iff.1 oq)
 rw[m t ht];simp only[List.count_nil,Nat.add_zero];split<;>omega
theorem ET{f:FD}:∀(n:Nat)(s:WS)(l:List Int),eN f s l->∃s',eN f s' (Xw n s l)
 | 0,s,l,h=>⟨s,h⟩
 | n+1,s,l,h=>by
  rw[Xw];split
  .exact⟨s,h⟩
  rename_i hq
  exact ET n _ _ (h.next hq)
structure Y8 (f:FD) (l:List Int):Prop where
 rng:∀x∈l,0<=x/\x<(f.tasks.length:Int)
 nd:l.Nodup
 all:∀t:Nat,t<f.tasks.length->(t:Int)∈l
 top:∀(i:Nat)(x:Int),l[i]?=some x->∀y∈Xn f x.toNat,y∈l.take i
theorem qZ{f:FD}(h:ofP f=some l):Y8 f l:=by
 unfold ofP at h;split at h
 .cases h
 rename_i hlen
 cases h
 obtain⟨A,g⟩:=ET (f:=f) (muW (EO f)) (EO f) [] (ZcO f);obtain⟨l,z⟩:=ez (Xw (muW (EO f)) (EO f) []);rw[z] at g hlen ⊢;have j:l.Nodup:=by
  rw[List.nodup_iff_count];intro a;by_cases q:a∈l
  .have:=g.rng a q;obtain⟨k,rfl⟩:∃k:Nat,a=(k:Int):=⟨a.toNat,oq⟩;have:=g.nd k oq;omega
  rw[List.count_eq_zero.2 q];omega
 refine⟨g.rng,j,fun t ht=>?_,g.top⟩;apply Yi;intro m;have v:((t:Int)::l).Nodup:=List.nodup_cons.2 ⟨m,j⟩;have x:=List.Nodup.length_le_of_subset (l₂:=(List.range f.tasks.length).map (fun k:Nat=>(k:Int))) v (by
  intro y hy;rcases ZS.1 hy with rfl|hy
  .exact Yf.2 ⟨t,List.mem_range.2 ht,rfl⟩
  have:=g.rng y hy;exact Yf.2 ⟨y.toNat,List.mem_range.2 oq,oq⟩)
 rw[Zp,Zo,List.length_range] at x;omega
def mkD(D:Nat):Deferred:={ target:=.collected D,args:=#[] }
def ZfA(F:Fence)(n:Nat)(P:Program)(g:Nat)(lb:Array Value)(encs:α->Array Value)(R:World->Prop)(Ok:List α->α->World->Prop)(Kp:World->World->Prop)(S:List α->Prop)(w:World):Prop :=
 ∀(l:Nat)(J:List α->World->Prop)(W:World),Below w.1.size w W->OwnFrom W.1.size J->(∀pre W1,J pre W1->R W1) ->
  (∀pre x W1,J pre W1->Ok pre x W1->YieldAt F (n-1) P l (encs x) W1 fun e W'=>e=.returned (.bool true)/\J (pre++[x]) W'/\Kp W1 W') ->
  J [] W->CallsIn F n P g (#[.func (.yield l) #[] #[]]++lb) W fun e W'=>(∃v,e=.returned v)/\∃xs,S xs/\J xs W'
theorem xq{g:Operand}{ps:Array Tmp}{assign body:Code}{Q:Exit->Act->World->Prop}{a:Act}(aq:F.round=none)(h1:1<=n){gf:Nat}{lb:Array Value}
  (hg:a.eval g=.func (.func gf) #[] lb)(af:F.fn gf)(eg:∀args w,(callFunc gf args).run P w=.ok (.enter gf args) w){encs:α->Array Value}{R:World->Prop}{Ok:List α->α->World->Prop}{Kp:World->World->Prop}{S:List α->Prop}
  (ac:ZfA F (n-1) P gf lb encs R Ok Kp S w)(G:∀{A B C:World},Kp A B->Kp B C->Kp A C)(T:∀(W:World)(l:Nat)(o o':Obj),w.1.size<=l->W.1[l]?=some o->o.isCells=false->Kp W (W.putObj l o'))(ai:∀W W':World,Below W.1.size W W'->Kp W W')(ap:∀x,(encs x).size=ps.size)
  (I:List α->World->Prop)(M:OwnFrom w.1.size I)(ag:∀pre W,I pre W->R W)(h0:I [] w)
  (Ax:List α->α->Act->World->Prop)(ae:∀pre x q,OwnFrom w.1.size (fun(_:Unit) W=>Ax pre x q W))
  (f:∀(l:Nat)(pre:List α)(x:α)(W:World)(K:Act->World->Prop),I pre W->Ok pre x W->(∀q W',Below W.1.size W W'->I pre W'->Ax pre x q W'->K q W') ->
   assign.wpIn (F.inRound l) (n-1-1) P (Exit.then K (fun _ _ _=>False)) { tmps:=(ps.zip (encs x)).foldl (fun t (p,v)=>t.setIfInBounds p v) a.tmps,defers:=[] } W)
  (H:∀(l:Nat)(pre:List α)(x:α)(q:Act)(W:World),w.1.size<=l->(∃r,W.1[l]?=some (.loop r))->I pre W->Ax pre x q W ->
   body.wpIn (F.inRound l) (n-1-1) P (ownPostG w.1.size Kp I (fun _ _ _=>False) (pre++[x]) W) q W)
  (J:∀(D:Nat)(xs:List α)(W:World),w.1.size<=D->S xs->I xs W->W.1[D]?=some (.deferred (some []))->Q .normal { a with defers:=mkD D::a.defers } W) :
  (Code.rangeFunc g ps assign body).wpIn F n P Q a w:=by
 refine wpIn_rangeFunc (fun fn hfn=>?_);rw[aq];let R:LoopState->Option Code->Loop:=fun st pe=>{ state:=st,pending:=pe,fn,tmps:=a.tmps,params:=ps,assign,body,defers:=w.1.size }
 let W1:World:=(w.alloc (.deferred (some []))).alloc (.loop (R .ready none));have au:W1.1.size=w.1.size+2:=by simp[W1]
 have hb1:Below w.1.size w W1:=((Zg _ w).alloc (Zc _) _).alloc (by simp) _;have hL:W1.1[w.1.size+1]?=some (.loop (R .ready none)):=by
  have:=World.alloc_heap_new (w.alloc (.deferred (some []))) (.loop (R .ready none))
  rwa [Zv] at this
 have hD:W1.1[w.1.size]?=some (.deferred (some [])):=(Za _ _ _ (by simp)).trans (World.alloc_heap_new w _);refine⟨w.1.size+1,[mkD w.1.size],W1,{ target:=.fn (.func gf) lb,args:=#[.func (.yield (w.1.size+1)) #[] #[]] },W1,gf,#[.func (.yield (w.1.size+1)) #[] #[]]++lb,W1,run_enterLoop_outer _ _ _ _ _,?_,?_,?_,fun _=>h1,?_⟩
 .simp only[resolve,hg];simp[go_sem]
 .intro f' V;simp[Target.leads] at V;subst V;exact af
 .simp[invoke,go_sem,eg]
 have E:∀{A B:World}{row:Option Nat}{k:Nat}{o:Obj},A.grownBy B row->(∀r,row=some r->W1.1.size<=r/\∃o:Obj,A.1[r]?=some o/\o.isCells=false)->k<W1.1.size->A.1[k]?=some o->B.1[k]?=some o:=by
  intro A B row k o j z X ho;refine(j.block k (Zq.1 ho).1 (fun e=>?_)).trans ho;have:=(z k e.symm).1;omega
 have ab:∀{A:World}{row:Option Nat},(∀r,row=some r->W1.1.size<=r/\∃o:Obj,A.1[r]?=some o/\o.isCells=false)->(∀r,row=some r->w.1.size<=r/\∃o:Obj,A.1[r]?=some o/\o.isCells=false) :=
  fun z r e=>⟨by have:=(z r e).1;omega,(z r e).2⟩
 refine(ac (w.1.size+1) (fun pre W=>(I pre W/\W.1[w.1.size+1]?=some (.loop (R .ready none)))/\W.1[w.1.size]?=some (.deferred (some []))) W1 hb1
  (fun s A B row hs j z=>⟨⟨M s A B row hs.1.1 j (ab z),E j z oq hs.1.2⟩,E j z oq hs.2⟩)
  (fun pre W1 h=>ag pre W1 h.1.1) ?_ ⟨⟨M.alloc _ (M.alloc _ h0),hL⟩,hD⟩).mono ?_
 .rintro pre x W ⟨⟨hi,L⟩,X⟩ ao;refine⟨fn,_,assign,body,run_yield (P:=P) (args:=encs x) L (ap x),roundIn_of_wpIn hfn (f _ pre x W _ hi ao (fun q Wa hba hia hax=>?_))⟩;have m:=(hba.block _ (Zq.1 L).1).trans L;have al:=(hba.block _ (Zq.1 X).1).trans X;have an:w.1.size+1<Wa.1.size:=(Zq.1 m).1;have ar:w.1.size+1<W.1.size:=(Zq.1 L).1;refine⟨_,run_beginRound m rfl,?_⟩;have aa:(Wa.putObj (w.1.size+1) (.loop { R .ready none with state:=.busy })).1[w.1.size+1]?=some (.loop { R .ready none with state:=.busy }):=World.putObj_heap_same an;have am:(Wa.putObj (w.1.size+1) (.loop { R .ready none with state:=.busy })).1[w.1.size]?=some (.deferred (some [])):=(World.putObj_heap_other oq).trans al;have ah:Kp W Wa:=ai _ _ hba;have U:Kp W (Wa.putObj (w.1.size+1) (.loop { R .ready none with state:=.busy })):=G ah (T _ _ _ _ oq m rfl);refine wpIn_mono (H _ pre x q _ oq ⟨_,aa⟩ (M.putObj _ hia oq m rfl) ((ae pre x q).putObj (s:=()) _ hax oq m rfl)) ?_;rintro e a3 W3 O
  cases e with
  | normal =>
   obtain⟨Y,Z,ak⟩:=O;have y:=Y.same _ _ oq aa rfl;have aj:=Y.same _ _ (Zc _) am rfl;exact⟨_,_,run_endRound (P:=P) none y,rfl,⟨⟨M.putObj _ ak oq y rfl,World.putObj_heap_same (Zq.1 y).1⟩,(World.putObj_heap_other oq).trans aj⟩,G (G U Z) (T _ _ _ _ oq y rfl)⟩
  | ret=>exact O.2.elim
  | exit id=>exact O.2.elim
  | goto t=>exact O.2.elim
  | panic ch=>exact O.elim
  | outgrown=>exact O.elim
 rintro e W2 ⟨⟨v,rfl⟩,xs,hS,⟨hi,L⟩,X⟩;exact⟨none,_,run_endLoop (P:=P) L (by simp[R]),J _ xs _ (Zc _) hS (M.putObj _ hi oq L rfl) ((World.putObj_heap_other oq).trans X)⟩
def slt(t:Array Value)(k:Nat):Value:=t.getD k undef
theorem J1{t:Array Value}{l:List Value}(h:t.size=n)(f:l=(List.range n).map (slt t):=by rfl):t=l.toArray:=by
 subst f;apply Array.ext';rw[List.toList_toArray];refine List.ext_getElem (by simp[h]) (fun i hi1 hi2=>?_);rw[List.getElem_map,List.getElem_range];unfold slt;have hi:i<t.size:=by simpa using hi1
 simp[Array.getD,hi]
theorem ZbA{t:Array Value}(h:t.size=26):t=#[slt t 0,slt t 1,slt t 2,slt t 3,slt t 4,slt t 5,slt t 6,slt t 7,slt t 8,slt t 9,slt t 10,slt t 11,slt t 12,slt t 13,slt t 14,slt t 15,slt t 16,slt t 17,slt t 18,slt t 19,slt t 20,slt t 21,slt t 22,slt t 23,slt t 24,slt t 25]:=J1 h
theorem ZbB{t:Array Value}(h:t.size=44):t=#[slt t 0,slt t 1,slt t 2,slt t 3,slt t 4,slt t 5,slt t 6,slt t 7,slt t 8,slt t 9,slt t 10,slt t 11,slt t 12,slt t 13,slt t 14,slt t 15,slt t 16,slt t 17,slt t 18,slt t 19,slt t 20,slt t 21,slt t 22,slt t 23,slt t 24,slt t 25,slt t 26,slt t 27,slt t 28,slt t 29,slt t 30,slt t 31,slt t 32,slt t 33,slt t 34,slt t 35,slt t 36,slt t 37,slt t 38,slt t 39,slt t 40,slt t 41,slt t 42,slt t 43]:=J1 h
theorem yC{t:Array Value}(h:t.size=93):t=#[slt t 0,slt t 1,slt t 2,slt t 3,slt t 4,slt t 5,slt t 6,slt t 7,slt t 8,slt t 9,slt t 10,slt t 11,slt t 12,slt t 13,slt t 14,slt t 15,slt t 16,slt t 17,slt t 18,slt t 19,slt t 20,slt t 21,slt t 22,slt t 23,slt t 24,slt t 25,slt t 26,slt t 27,slt t 28,slt t 29,slt t 30,slt t 31,slt t 32,slt t 33,slt t 34,slt t 35,slt t 36,slt t 37,slt t 38,slt t 39,slt t 40,slt t 41,slt t 42,slt t 43,slt t 44,slt t 45,slt t 46,slt t 47,slt t 48,slt t 49,slt t 50,slt t 51,slt t 52,slt t 53,slt t 54,slt t 55,slt t 56,slt t 57,slt t 58,slt t 59,slt t 60,slt t 61,slt t 62,slt t 63,slt t 64,slt t 65,slt t 66,slt t 67,slt t 68,slt t 69,slt t 70,slt t 71,slt t 72,slt t 73,slt t 74,slt t 75,slt t 76,slt t 77,slt t 78,slt t 79,slt t 80,slt t 81,slt t 82,slt t 83,slt t 84,slt t 85,slt t 86,slt t 87,slt t 88,slt t 89,slt t 90,slt t 91,slt t 92]:=J1 h
structure Mk (lo hi:Nat) (ds:List Deferred) (W:World):Prop where
 is:∃l:List Nat,ds=l.map mkD/\l.Nodup/\∀D∈l,(lo<=D/\D<hi)/\W.1[D]?=some (.deferred (some []))
theorem Mk.nil(lo hi:Nat)(W:World):Mk lo hi [] W:=⟨[],rfl,List.nodup_nil,fun D h=>by cases h⟩
theorem Mk.keep{g:List Deferred}(h:Mk lo hi g W)(q:∀(k:Nat)(o:Obj),lo<=k->k<hi->W.1[k]?=some o->o.isCells=false->W'.1[k]?=some o):Mk lo hi g W':=by
 obtain⟨l,j,m,f⟩:=h.is;exact⟨l,j,m,fun D hD=>⟨(f D hD).1,q D _ (f D hD).1.1 (f D hD).1.2 (f D hD).2 rfl⟩⟩
theorem Mk.below(h:Mk lo hi ds W)(hb:Below W.1.size W W'):Mk lo hi ds W':=h.keep (fun k o _ _ hk _=>(hb.block k (Zb hk)).trans hk)
theorem Mk.from(h:Mk lo hi ds W)(hb:KeepsFrom lo W W'):Mk lo hi ds W':=h.keep (fun k o hlo _ hk hc=>hb.same k o hlo hk hc)
theorem Mk.own(hB:hi<=B):OwnFrom B (fun(_:β) W=>Mk lo hi ds W):=fun s A C row hs hg hrw =>
 hs.keep (fun k o _ hk ho hc=>(hg.block k (Zb ho) (fun e=>by have:=(hrw k e.symm).1;omega)).trans ho)
theorem Mk.cons{lo hi:Nat}{j:List Deferred}{W:World}(h:Mk lo hi j W){D:Nat}(g:lo<=D)(x:hi<=D)(m:W.1[D]?=some (.deferred (some []))):Mk lo W.1.size (mkD D::j) W:=by
 obtain⟨l,q,v,f⟩:=h.is;refine⟨D::l,by rw[q];rfl,List.nodup_cons.2 ⟨fun hm=>by have:=(f D hm).1.2;omega,v⟩,fun E hE=>?_⟩;rcases ZS.1 hE with rfl|hE
 .exact⟨⟨g,Zb m⟩,m⟩
 exact⟨⟨(f E hE).1.1,Zb (f E hE).2⟩,(f E hE).2⟩
structure MkW (lo:Nat) (W W':World):Prop where
 os:W'.os=W.os
 tape:W'.tape=W.tape
 output:W'.output=W.output
 size:W'.1.size=W.1.size
 low:∀k,k<lo->W'.1[k]?=W.1[k]?
 cells:∀(k:Nat)(o:Obj),W.1[k]?=some o->o.isCells=true->W'.1[k]?=some o
theorem MkW.refl(lo:Nat)(W:World):MkW lo W W:=⟨rfl,rfl,rfl,rfl,fun _ _=>rfl,fun _ _ h _=>h⟩
theorem MkW.below(h:MkW lo W W'):Below lo W W':=⟨h.os,h.tape,h.output,Nat.le_of_eq h.size.symm,fun k hk=>h.low k hk⟩
theorem U1{F:Fence}{n:Nat}{P:Program}{fn:Func}{tmps:Array Value}{R:Ending->World->Prop}{lo:Nat}:∀(l:List Nat)(W0 W:World),MkW lo W0 W->l.Nodup->(∀D∈l,lo<=D/\W.1[D]?=some (.deferred (some []))) ->
  (∀W',MkW lo W0 W'->∃v,(results fn tmps).run P W'=.ok v W'/\R (.returned v) W')->LeavesInM F n P fn tmps R (l.map mkD) .returning W
 | [],W0,W,hw,_,_,h=>h W hw
 | D::l,W0,W,hw,hn,hD,h=>by
  have h1:=hD D (by simp);have hlt:=Zb h1.2;refine⟨by simp,.inl ⟨D,_,rfl,run_takeDeferred h1.2,?_⟩⟩;refine U1 l W0 _ ⟨hw.os,hw.tape,hw.output,by simpa using hw.size,fun k hk=>(World.putObj_heap_other oq).trans (hw.low k hk),fun k o ho hc=>?_⟩ (List.nodup_cons.1 hn).2 (fun E hE=>⟨(hD E (by simp[hE])).1,(World.putObj_heap_other (fun e=>?_)).trans (hD E (by simp[hE])).2⟩) h
  .have h2:=hw.cells k o ho hc;refine(World.putObj_heap_other (fun e=>?_)).trans h2;subst e;rw[h1.2] at h2;injection h2 with h2
   subst h2
   cases hc
  subst e;exact(List.nodup_cons.1 hn).1 hE
theorem Mk.leaves{g:Func}{tmps:Array Value}{R:Ending->World->Prop}{f:List Deferred}(h:Mk lo hi f W)
  (q:∀W',MkW lo W W'->∃v,(results g tmps).run P W'=.ok v W'/\R (.returned v) W'):LeavesInM F n P g tmps R f .returning W:=by
 obtain⟨l,rfl,m,j⟩:=h.is;exact U1 l W W (MkW.refl _ _) m (fun D hD=>⟨(j D hD).1.1,(j D hD).2⟩) q
def Vh(per ph u:Int):Nat:=if u<=ph then 0 else ((u-1-ph)/per).toNat+1
theorem QU{f ph u:Int}(q:1<=f)(n:Nat):n<Vh f ph u↔ph+(n:Int)*f<u:=by
 unfold Vh;have j:0<=(n:Int)*f:=Int.mul_nonneg oq oq;split
 .constructor
  .intro h;omega
  intro h;omega
 have m:=Int.ediv_nonneg (show 0<=u-1-ph by omega) (show 0<=f by omega);have g:=Int.le_ediv_iff_mul_le (a:=(n:Int)) (b:=u-1-ph) (show 0<f by omega);constructor
 .intro h;have:=g.1 oq;omega
 intro h;have:=g.2 oq;omega
def tkO(f:FD)(t:Nat):TD:=f.tasks.getD t ⟨0,1,0,[]⟩
theorem JP{f:FD}(h:t<f.tasks.length):f.tasks[t]=tkO f t:=by unfold tkO;rw[Zf,Ze h];rfl
def Q9(f:FD)(b:Nat × Nat):Int:=(tkO f b.1).ph+(b.2:Int)*(tkO f b.1).per
def QC(f:FD)(u:Int)(t:Nat):Nat:=Vh (tkO f t).per (tkO f t).ph u
def Xu(t n:Nat):List (Nat × Nat):=(List.range n).map (fun k=>(t,k))
def J0(f:FD)(order:List Int)(u:Int):List (Nat × Nat):=order.flatMap (fun t=>Xu t.toNat (QC f u t.toNat))
def RJ(f:FD)(order:List Int)(a b:Nat × Nat):Prop:=Q9 f a<Q9 f b\/(Q9 f a=Q9 f b/\order.idxOf (a.1:Int)<order.idxOf (b.1:Int))
theorem RJ.trans{f:FD}{a b c:Nat × Nat}(h:RJ f order a b)(k:RJ f order b c):RJ f order a c:=by
 unfold RJ at *;omega
theorem RJ.asymm{f:FD}{a b:Nat × Nat}(h:RJ f order a b)(k:RJ f order b a):False:=by
 unfold RJ at *;omega
structure X1 (f:FD) (order:List Int) (u:Int) (B:List (Nat × Nat)):Prop where
 perm:(J0 f order u).Perm B
 srt:B.Pairwise (RJ f order)
theorem ZcF{f:FD}(h:Y8 f order):(t,n)∈J0 f order u↔t<f.tasks.length/\n<QC f u t:=by
 unfold J0 Xu;simp only[List.mem_flatMap,Yf,List.mem_range,Z5];constructor
 .rintro⟨x,q,k,m,g,j⟩;have:=h.rng x q;subst g;subst j;exact⟨oq,m⟩
 rintro⟨g,j⟩;exact⟨(t:Int),h.all t g,n,j,rfl,rfl⟩
theorem X1.mem{f:FD}{B:List (Nat × Nat)}(h:X1 f order u B)(g:Y8 f order):(t,n)∈B↔t<f.tasks.length/\n<QC f u t:=by
 rw[<-h.perm.mem_iff];exact ZcF g
theorem qq(t s:Nat)(n:Nat):(Xu s n).filter (fun b=>decide (b.1=t))=if s=t then Xu s n else []:=by
 unfold Xu;split
 .rename_i h
  rw[List.filter_eq_self];intro b hb;obtain⟨k,_,rfl⟩:=Yf.1 hb;exact Z1 h
 rename_i h
 rw[List.filter_eq_nil_iff];intro b hb;obtain⟨k,_,rfl⟩:=Yf.1 hb;simpa using h
theorem Gi(f:FD)(u:Int)(t:Nat):∀(order:List Int),(∀x∈order,0<=x)->order.Nodup->(order.flatMap (fun s=>Xu s.toNat (QC f u s.toNat))).filter (fun b=>decide (b.1=t))=if (t:Int)∈order then Xu t (QC f u t) else []
 | [],_,_=>rfl
 | a::l,h0,hn=>by
  have h1:=h0 a (by simp);obtain⟨k,rfl⟩:∃k:Nat,a=(k:Int):=⟨a.toNat,oq⟩;rw[List.flatMap_cons,List.filter_append,qq,Gi f u t l (fun x hx=>h0 x (by simp[hx])) (List.nodup_cons.1 hn).2];have h2:=(List.nodup_cons.1 hn).1;simp only[ZR];by_cases e:k=t
  .subst e;rw[Z3 rfl,Z2 h2,Z3 (by simp),List.append_nil]
  rw[Z2 e,ZN];have:((t:Int)∈((k:Int)::l))↔(t:Int)∈l:=by
   rw[ZS];constructor
   .rintro (h|h)
    .omega
    exact h
   exact .inr
  simp only[this]
theorem X1.task{f:FD}{B:List (Nat × Nat)}(h:X1 f order u B)(q:Y8 f order)(ht:t<f.tasks.length)(G:1<=(tkO f t).per):B.filter (fun b=>decide (b.1=t))=Xu t (QC f u t):=by
 have v:=h.perm.filter (fun b=>decide (b.1=t));rw[show J0 f order u=order.flatMap (fun s=>Xu s.toNat (QC f u s.toNat)) from rfl,Gi f u t order (fun x hx=>(q.rng x hx).1) q.nd,Z3 (q.all t ht)] at v;have D:(B.filter (fun b=>decide (b.1=t))).Pairwise (fun a b=>a.2<b.2):=by
  have y:=h.srt.filter (fun b=>decide (b.1=t));rw[List.pairwise_iff_getElem] at y ⊢;intro i j hi z m;have g:=y i j hi z m;have A:=Yk (List.mem_filter.1 (Zi hi)).2;have C:=Yk (List.mem_filter.1 (Zi z)).2;unfold RJ Q9 at g;rw[A,C] at g;rcases g with g|g
  .apply Yi;intro F;have:=Int.mul_le_mul_of_nonneg_right (show(((B.filter (fun b=>decide (b.1=t)))[j].2:Nat):Int)<=(((B.filter (fun b=>decide (b.1=t)))[i].2:Nat):Int) by omega) (show 0<=(tkO f t).per by omega);omega
  omega
 have E:(Xu t (QC f u t)).Pairwise (fun a b=>a.2<b.2):=by
  unfold Xu;rw[List.pairwise_map];exact List.pairwise_lt_range
 exact(List.Perm.eq_of_pairwise (le:=fun a b=>a.2<b.2) (fun a b _ _ h6 h7=>oq) E D v).symm
def plP(B:List (Nat × Nat))(i t:Nat):List Int:=((List.range i).filter (fun k=>decide ((B.getD k (0,0)).1=t))).map (fun k:Nat=>(k:Int))
theorem Zc0(B:List (Nat × Nat))(i t:Nat):plP B (i+1) t=plP B i t++(if (B.getD i (0,0)).1=t then [(i:Int)] else []):=by
 unfold plP;rw[Yj,List.filter_append,ZV];congr 1;by_cases h:(B.getD i (0,0)).1=t
 .rw[Z3 h,List.filter_cons_of_pos (by exact Z1 h)];rfl
 rw[Z2 h,List.filter_cons_of_neg (by simpa using h)];rfl
theorem uJ(l:List α)(z:α):(List.range l.length).map (fun k=>l.getD k z)=l:=by
 apply List.ext_getElem
 .simp
 intro i g f;simp[Zf,f]
theorem X1.place{f:FD}{B:List (Nat × Nat)}(h:X1 f order u B)(D:Y8 f order)(ht:t<f.tasks.length)(E:1<=(tkO f t).per) :
  (plP B B.length t).length=QC f u t/\∀n,n<QC f u t->∃p:Nat,(plP B B.length t)[n]?=some (p:Int)/\B[p]?=some (t,n):=by
 have z:=h.task D ht E;obtain⟨Q,g⟩:=ez ((List.range B.length).filter (fun k=>decide ((B.getD k (0,0)).1=t)));have m:Q.map (fun k=>B.getD k (0,0))=Xu t (QC f u t):=by
  rw[<-z,<-g]
  conv=>rhs;rw[<-uJ B (0,0)]
  rw[List.filter_map];simp;rfl
 have C:Q.length=QC f u t:=by
  have:=Z4 List.length m;simpa [Xu] using this
 unfold plP;rw[g];refine⟨by rw[Zo];exact C,fun n hn=>?_⟩;have j:n<Q.length:=oq;refine⟨Q[n],by rw[List.getElem?_map,Ze j];rfl,?_⟩;have q:(Q.map (fun k=>B.getD k (0,0)))[n]?=some (t,n):=by
  rw[m];unfold Xu;rw[List.getElem?_map,List.getElem?_range hn];rfl
 rw[List.getElem?_map,Ze j] at q;have v:B.getD Q[n] (0,0)=(t,n):=by simpa using q
 have y:Q[n]<B.length:=by
  have A:∀x∈Q,x<B.length:=fun x hx=>by
   rw[<-g] at hx;exact List.mem_range.1 (List.mem_filter.1 hx).1
  exact A _ (Zi j)
 rw[Zf,Ze y] at v;rw[Ze y];exact Z4 some v
theorem X1.lt{f:FD}{B:List (Nat × Nat)}(h:X1 f order u B){p i:Nat}{a b:Nat × Nat}(q:B[p]?=some a)(hi:B[i]?=some b)(m:RJ f order a b):p<i:=by
 obtain⟨j,rfl⟩:=ZB.1 q;obtain⟨g,rfl⟩:=ZB.1 hi;apply Yi;intro v;by_cases e:p=i
 .subst e;exact m.asymm m
 exact m.asymm (List.pairwise_iff_getElem.1 h.srt i p g j oq)
theorem qj(h:x∈l):x∈Lib.compact l:=by
 unfold Lib.compact Lib.compactUpTo;obtain⟨j,f,rfl⟩:=Yn h;have key:∀j (f:j<l.length),∃k,k<l.length/\Lib.keeps l.toArray k=true/\l.toArray[k]! = l[j]:=by
  intro j
  induction j with
  | zero=>intro f;exact⟨0,f,by simp[Lib.keeps],by simp[f]⟩
  | succ j ih =>
   intro f;by_cases y:l[j+1]=l[j]
   .obtain⟨k,g,m,q⟩:=ih oq;exact⟨k,g,m,by rw[q,y]⟩
   refine⟨j+1,f,?_,by simp[f]⟩;have v:j<l.length:=oq;simp[Lib.keeps,f,v,y]
 obtain⟨k,g,m,q⟩:=key j f;exact Yf.2 ⟨k,List.mem_filter.2 ⟨List.mem_range.2 g,m⟩,q⟩
open Go.RowKit Go.Shelf
attribute [local go_sem] ZU
def KD(b1 b2:Nat)(W W':World):Prop:=∀b,(b=b1\/b=b2)->∀o:Obj,W.1[b]?=some o->o.isCells=true->W'.1[b]?=some o
theorem KD.refl(b1 b2:Nat)(W:World):KD b1 b2 W W:=fun _ _ _ h _=>h
theorem KD.trans{A B C:World}(h:KD b1 b2 A B)(k:KD b1 b2 B C):KD b1 b2 A C:=fun b hb o ho hc=>k b hb o (h b hb o ho hc) hc
theorem KD.of_below(h:Below W.1.size W W'):KD b1 b2 W W':=fun b _ o ho _=>(h.block b (Zb ho)).trans ho
theorem KD.putObj(W:World)(l:Nat)(o o':Obj)(h:W.1[l]?=some o)(hc:o.isCells=false):KD b1 b2 W (W.putObj l o'):=fun b _ x hx hxc =>
 (World.putObj_heap_other (fun e=>by subst e;rw[h] at hx;injection hx with hx;subst hx;rw[hc] at hxc;cases hxc)).trans hx
theorem KD.of_but(h:But S W W')(h1:¬S b1)(h2:¬S b2):KD b1 b2 W W':=fun b hb o ho _=>(h.block b (Zb ho) (by rcases hb with rfl|rfl<;>assumption)).trans ho
def K5(W:World)(b:Nat)(per ph:Int):Prop:=W.1[b]?=some (.cells #[.int .i64 per,.int .i64 ph] 50 (0,0))
theorem X6{J:β->World->Prop}(h:OwnFrom B J){s:β}(hs:J s W)(hb:Below W.1.size W W'):J s W' :=
 h s W W' none hs ⟨hb.os,hb.tape,hb.output,hb.size,fun k hk _=>hb.block k hk⟩ (fun r e=>by cases e)
theorem gA{f ph u:Int}(q:1<=f)(g:0<=ph):((Vh f ph u:Nat):Int)<=max u 0:=by
 unfold Vh;split
 .omega
 rename_i h
 have j:=Int.ediv_le_self f (show 0<=u-1-ph by omega);have m:=Int.ediv_nonneg (show 0<=u-1-ph by omega) (show 0<=f by omega);omega
theorem Zad(g ph u:Int)(M:1<=g/\g<=2000/\0<=ph/\ph<=2000)(hu:u<=20000)(C z n l:Nat)(J:List Nat->World->Prop)(W:World)(hJ:OwnFrom W.1.size J)
  (Y:∀m pre (x:Nat) W1,J pre W1->(x=pre.length/\x<Vh g ph u)->YieldAt Fence.wide m prog l #[.int .i64 (x:Int),.int .i64 (ph+(x:Int)*g)] W1 fun e W'=>e=.returned (.bool true)/\J (pre++[x]) W'/\KD C z W1 W')
  (hb1:K5 W C g ph)(hb2:Boxed W z 2 (.int .i64 u))(h0:J [] W) :
  CallsIn Fence.wide n prog 174 #[.func (.yield l) #[] #[],.pointer (some ⟨C,0,none⟩),.pointer (some ⟨z,0,none⟩)] W fun e W'=>(∃v,e=.returned v)/\∃xs,xs=List.range (Vh g ph u)/\J xs W':=by
 obtain⟨cnt,j⟩:=ez (Vh g ph u);have L:∀k:Nat,k<cnt↔ph+(k:Int)*g<u:=fun k=>by rw[<-j];exact QU M.1 k
 have ab:(cnt:Int)<=20000:=by have:=gA (u:=u) M.1 M.2.2.1;rw[j] at this;omega
 have E:=hid L;rw[j] at Y ⊢;have HY:=hid Y;have HD:=hid (fun(W:World) (k:Nat) (hk:(k:Int)<=20000)=>clock.ZbP g ph (k:Int) W M oq oq);have HB1:=hid hb1;have HB2:=hid hb2;have T:=hid h0;have HJ:=hid hJ;clear Y hb1 hb2 h0 hJ M j L;refine callsIn_of_wp func174 rfl trivial ?_ rfl;simp only[ntmps174,ZJ,Zp,Zx,Nat.reduceAdd,Nat.reduceSub,ZG,ZF,ZM,ZK,ZN,ZD];gi_wp2;gi_loopw [4] (fun v wr=>Hid (∃k:Nat,v=.int .i64 (k:Int)/\k<=cnt/\J (List.range k) wr/\KD C z W wr)) (fun i _=>cnt-(intOf i).toNat)
 case atStart=>exact⟨0,rfl,Zk _,T.o,KD.refl _ _ _⟩
 obtain⟨k,rfl,hk,hj,y⟩:=hrel.o;clear hrel;have q1:wr.1[C]?=_:=y C (.inl rfl) _ HB1.o rfl;have q2:wr.1[z]?=_:=y z (.inr rfl) _ HB2.o rfl;obtain⟨⟨x0,x1⟩,xf⟩:=YI q1;have R:=hid q2;have X:=hid y;have D:=hid hj;have O:=hid (fun W=>HD.o W k oq);clear q1 q2 y hj;by_cases H:k<cnt
 .have hd:=(E.o k).1 H;obtain⟨d,q⟩:=ez (ph+(k:Int)*g);have F:=hid (fun(W1:World) (hb:Below wr.1.size wr W1)=>HY.o (n-1) (List.range k) k W1 (X6 HJ.o D.o hb) ⟨by simp,H⟩);rw[q] at F O hd;have A:¬u<=d:=oq;have Z:decide (u<=d)=false:=Z0 A;clear q;gi_wp2_with (refine⟨trivial,(fun h=>by cases h),?_⟩;gi_at_call 33;refine(Zu.2 (O.o _)).mono ?_;rintro e w2 ⟨rfl,hb2⟩;obtain⟨fn,aa,assign,body,hy,hR⟩:=F.o _ hb2;have HR:=hid hR;have HB2:=hid hb2;have z2:w2.cell? ⟨z,0,none⟩=some (.int .i64 u):=Boxed.cell (t:=2) ((hb2.block _ (Zb R.o)).trans R.o);clear hR hb2);refine⟨(fun h=>by cases h),HR.o.mono ?_⟩;rintro e W1 ⟨rfl,G,I⟩;have U:=hid G;have V:=hid ((X.o.trans (KD.of_below HB2.o)).trans I);clear G I;gi_wp2;go_roundw
  case rel=>exact⟨k+1,by go_num,H,by rw[Yj];exact U.o,V.o⟩
  simp[intOf];omega
 obtain rfl:k=cnt:=oq;have hd:¬(ph+(k:Int)*g<u):=fun h=>H ((E.o k).2 h)
 obtain⟨d,q⟩:=ez (ph+(k:Int)*g);rw[q] at O hd;have A:u<=d:=oq;have Z:decide (u<=d)=true:=Z1 A;clear q hd H;gi_wp2_with (refine⟨trivial,(fun h=>by cases h),?_⟩;gi_at_call 33;refine(Zu.2 (O.o _)).mono ?_;rintro e w2 ⟨rfl,hb2⟩;have HB2:=hid hb2;have z2:w2.cell? ⟨z,0,none⟩=some (.int .i64 u):=Boxed.cell (t:=2) ((hb2.block _ (Zb R.o)).trans R.o);clear hb2);refine⟨(fun f h=>by cases h),?_⟩;gi_wp2;refine Zl (results_none rfl _ _ _) rfl ?_;exact⟨⟨_,rfl⟩,_,rfl,X6 HJ.o D.o HB2.o⟩
theorem Kr(per ph u:Int)(hr:1<=per/\per<=2000/\0<=ph/\ph<=2000)(hu:u<=20000)(b1 b2 n:Nat)(w:World)(hb1:K5 w b1 per ph)(hb2:Boxed w b2 2 (.int .i64 u)) :
  ZfA Fence.wide n prog 174 #[.pointer (some ⟨b1,0,none⟩),.pointer (some ⟨b2,0,none⟩)] (fun x:Nat=>#[.int .i64 (x:Int),.int .i64 (ph+(x:Int)*per)]) (fun _=>True) (fun pre x _=>x=pre.length/\x<Vh per ph u) (KD b1 b2) (fun xs=>xs=List.range (Vh per ph u)) w:=fun l J W hW hJ _ hY h0 =>
 Zad per ph u hr hu b1 b2 n l J W hJ (fun m pre x W1 hj ho=>YieldAt.deep rfl m (hY pre x W1 hj ho)) ((hW.block _ (Zb hb1)).trans hb1) ((hW.block _ hb2.lt).trans hb2) h0
theorem Kq(f ph u:Int):Calls prog 107 #[.agg #[.int .i64 f,.int .i64 ph],.int .i64 u] w fun e w'=>e=.returned (.func (.func 174) #[] #[.pointer (some ⟨w.1.size,0,none⟩),.pointer (some ⟨w.1.size+1,0,none⟩)])/\Below w.1.size w w'/\w'.1.size=w.1.size+2/\K5 w' w.1.size f ph/\Boxed w' (w.1.size+1) 2 (.int .i64 u):=by
 go_enter func107,ntmps107;go_wp2;go_ret;refine⟨by simp,bq,by simp,(Za _ _ _ (by simp)).trans (Yx w _),?_⟩;have:=Boxed.new (w.alloc (.cells #[.int .i64 f,.int .i64 ph] 50)) 2 (.int .i64 u);simpa using this
attribute [local go_sem] ZU
def Q2(f:FD)(u:Int)(i:Nat):Nat:=((List.range i).map (QC f u)).sum
theorem EJ(f:FD)(u:Int)(i:Nat):Q2 f u (i+1)=Q2 f u i+QC f u i:=by unfold Q2;rw[Yj,ZV,List.sum_append];simp
def zp(f:FD):Prop:=∀t,t<f.tasks.length->1<=(tkO f t).per/\(tkO f t).per<=2000/\0<=(tkO f t).ph/\(tkO f t).ph<=2000
theorem GG{f:FD}(g:zp f)(j:u<=20000)(ht:t<f.tasks.length):QC f u t<=20000:=by
 have h:=g t ht;have:=gA (u:=u) h.1 h.2.2.1;unfold QC;omega
theorem qP{f:FD}{u:Int}(hc:zp f)(hu:u<=20000):∀i,i<=f.tasks.length->Q2 f u i<=i*20000
 | 0,_=>by simp[Q2]
 | i+1,h=>by
  rw[EJ];have h1:=qP hc hu i oq;have h2:=GG hc hu (t:=i) oq;omega
theorem xJ{f:FD}{g:OA}(h:Row vw 4 w f.tasks g)(hi:i<f.tasks.length):∃b o ad cap,g=some ⟨b,o,none⟩/\b<w.1.size/\w.cell? ⟨b,o+i*4,none⟩=some (.int .i64 (tkO f i).node)/\w.cell? ⟨b,o+i*4+1,none⟩=some (.int .i64 (tkO f i).per)/\w.cell? ⟨b,o+i*4+2,none⟩=some (.int .i64 (tkO f i).ph)/\w.cell? ⟨b,o+i*4+3,none⟩=some (.slice ad (tkO f i).args.length cap)/\Row xP 2 w (tkO f i).args ad:=by
 obtain⟨b,o,rfl,hb,j,m,q,ad,cap,v,x⟩:=h.at hi;rw[JP hi] at j m q v x;exact⟨b,o,ad,cap,rfl,hb,j,m,q,v,x⟩
theorem vd(f:FD)(ai an aT al:OA)(ci cn ct cl:Nat)(hf:FAP w f ai an aT al)(hc:zp f)(hT:f.tasks.length<=30)(u:Int)(hu:u<=20000) :
  Calls prog 46 #[fv f ai an aT al ci cn ct cl,.int .i64 u] w fun x w'=>x=.returned (.bool (decide (4000<Q2 f u f.tasks.length)))/\Below w.1.size w w':=by
 have ba:=hid hf.tasks;have aw:=hid hc;have ag:=hid (qP hc hu);have ae:=hid (fun t ht=>GG (t:=t) hc hu ht);clear hf hc;unfold fv;obtain⟨T,V⟩:=ez f.tasks.length;rw[V] at hT ag ae ⊢;have ah:=hid V;clear V;refine(Zu (n:=6)).1 ?_;refine callsIn_of_wp_marks func46 rfl trivial ?_ rfl;simp only[ntmps46,ZJ,Zp,Zx,Nat.reduceAdd,Nat.reduceSub,ZG,ZF,ZM,ZK,ZN,ZD];gi_wp2;obtain⟨W0,C⟩:=ez ((w.alloc (.cells #[.slice ai f.ins.length ci,.slice an f.nods.length cn,.slice aT T ct,.slice al f.tells.length cl] 35)).alloc (.cells #[.int .i64 0] 3));have aj:Below w.1.size w W0:=by rw[<-C];exact bq
 have ak:Boxed W0 (w.1.size+1) 3 (.int .i64 0):=by
  rw[<-C];have:=Boxed.new (w.alloc (.cells #[.slice ai f.ins.length ci,.slice an f.nods.length cn,.slice aT T ct,.slice al f.tells.length cl] 35)) 3 (.int .i64 0);simpa using this
 try simp only[Zv]
 rw[C];have aa:=hid aj;have ab:=hid ak;clear C aj ak;refine wpIn_loop (fun a' wr=>Hid (∃(i:Nat)(ds:List Deferred),a'.defers=ds/\a'.tmps.size=26/\slt a'.tmps 1=.int .i64 u/\slt a'.tmps 2=.pointer (some ⟨w.1.size,0,none⟩)/\slt a'.tmps 4=.bool false/\slt a'.tmps 5=.pointer (some ⟨w.1.size+1,0,none⟩)/\slt a'.tmps 9=.slice aT T ct/\slt a'.tmps 10=.int .i64 (T:Int)/\slt a'.tmps 11=.int .i64 (i:Int) /\
  i<=T/\Boxed wr (w.1.size+1) 3 (.int .i64 (Q2 f u i:Int))/\Below w.1.size w wr/\Mk w.1.size wr.1.size ds wr)) (fun a' _=>T-(intOf (slt a'.tmps 11)).toNat) ?start ?round
 case start=>exact hid ⟨0,_,rfl,rfl,rfl,rfl,rfl,rfl,rfl,rfl,rfl,Zk _,ab.o,aa.o,Mk.nil _ _ _⟩
 clear aa ab;rintro⟨t,O⟩ wr hI;obtain⟨i,ds,h0,g,h1,h2,h4,U,h9,R,z,hi,am,v,ap⟩:=hI.o;clear hI;simp only at h0 g h1 h2 h4 U h9 R z;subst h0;have aq:(T-(intOf (slt (⟨t,O⟩:Act).tmps 11)).toNat)=T-i:=by show T-(intOf (slt t 11)).toNat=_;rw[z];simp[intOf]
 rw[aq];clear aq;rw[ZbA g,h1,h2,h4,U,h9,R,z];generalize slt t 0=u0,slt t 3=u3,slt t 6=u6,slt t 7=u7,slt t 8=u8,slt t 12=u12,slt t 13=u13,slt t 14=u14,slt t 15=u15,slt t 16=u16,slt t 17=u17,slt t 18=u18,slt t 19=u19,slt t 20=u20,slt t 21=u21,slt t 22=u22,slt t 23=u23,slt t 24=u24,slt t 25=u25;clear g h1 h2 h4 U h9 R z t;have HBW:=hid v;have af:=hid ap;have au:=v.size;have j:=hid am;have bk:=ag.o i hi;clear ap am;by_cases G:i<T
 .obtain⟨b,o,ad,cap,rfl,hb,y0,y1,y2,y3,_⟩:=xJ (ba.o.below zm v) (i:=i) (by rw[ah.o];exact G);have E:=aw.o i (by rw[ah.o];exact G);have bc:=ae.o i G;have be:=hid (EJ f u i);obtain⟨Z,X⟩:=ez (tkO f i);have L:=hid (show QC f u i=Vh Z.per Z.ph u by unfold QC;rw[X]);rw[X] at y0 y1 y2 y3 E;obtain⟨node,Y,ph,args⟩:=Z;simp only at y0 y1 y2 y3 E L;have ac:=hid E;have i1:(i:Int)<(T:Int):=oq;have ax:=hid (fun W=>Kq (w:=W) Y ph u);clear X v E;gi_wp2_with (refine⟨trivial,?_⟩;gi_at_call 107;refine(Zu.2 (ax.o _)).mono ?_;rintro e w2 ⟨rfl,hb2,H,ao,av⟩;have HB2:=hid hb2;have az:=hid H;have ay:=hid (Zh ao av);clear hb2 H ao av);clear y0 y1 y2 y3;have hb2:=HB2.o;have ar:=hb2.size;have H:=az.o;simp only[Zv] at ar H ⊢;have I:Below w.1.size w w2:=HBW.o.trans ((Zg _ wr).alloc au _ |>.trans (hb2.mono (by simp;omega)));have y:Boxed w2 (w.1.size+1) 3 (.int .i64 (Q2 f u i:Int)):=(hb2.block _ (by simp;have:=j.o.lt;omega)).trans (j.o.alloc _);have J:Mk w.1.size wr.1.size O w2:=af.o.keep (fun k o _ _ hk _=>(hb2.block k (by simp;have:=Zb hk;omega)).trans ((Za _ _ _ (Zb hk)).trans hk));have bg:=y.lt;have bh:=j.o.lt;have q:=ay.o;simp only[Zv] at q;have M:=hid (Zh I (Zh y J));clear hb2 I y J;refine xq (F:=Fence.wide) (gf:=174) (lb:=#[.pointer (some ⟨wr.1.size+1,0,none⟩),.pointer (some ⟨wr.1.size+1+1,0,none⟩)]) rfl oq rfl trivial (enters_of func174 kq rfl)
   (Kr Y ph u ac.o hu (wr.1.size+1) (wr.1.size+1+1) _ w2 q.1 q.2) (fun h k=>h.trans k) (fun W l o o' _ h hc=>KD.putObj W l o o' h hc) (fun W W' h=>KD.of_below h) (fun _=>rfl)
   (fun pre W=>Boxed W (w.1.size+1) 3 (.int .i64 ((Q2 f u i+pre.length:Nat):Int))/\Below w.1.size w W/\Mk w.1.size wr.1.size O W)
   (fun s A B row hs hg hrw=>⟨boxed_own _ _ (fun(_:Unit)=>Value.int .i64 ((Q2 f u i+s.length:Nat):Int)) () A B row hs.1 hg (fun r e=>(hrw r e).2),ownFrom_below (β:=Unit) (Zc _) (show w.1.size<=w2.1.size by omega) () A B row hs.2.1 hg hrw,Mk.own (β:=Unit) (show wr.1.size<=w2.1.size by omega) () A B row hs.2.2 hg hrw⟩)
   (fun _ _ _=>trivial) ⟨M.o.2.1,M.o.1,M.o.2.2⟩
   (fun pre x a' _=>pre.length<Vh Y ph u/\a'.tmps.size=26/\slt a'.tmps 5=.pointer (some ⟨w.1.size+1,0,none⟩)/\a'.defers=[])
   (fun pre x a' s A B row hs _ _=>hs) ?assign ?body ?done
  case assign =>
   rintro l pre x W K hi ⟨rfl,hx⟩ hK;gi_wp2;exact hK _ _ (Zg _ _) hi ⟨hx,by simp,by simp[slt],rfl⟩
  case body =>
   rintro l pre x ⟨t,d⟩ W hl hr ⟨hb1,hb2,hb3⟩ ⟨hx,g,U,hd⟩;simp only at g U hd;subst hd;rw[ZbA g,U];generalize slt t 0=u0,slt t 1=u1,slt t 2=u2,slt t 3=u3,slt t 4=u4,slt t 6=u6,slt t 7=u7,slt t 8=u8,slt t 9=u9,slt t 10=u10,slt t 11=u11,slt t 12=u12,slt t 13=u13,slt t 14=u14,slt t 15=u15,slt t 16=u16,slt t 17=u17,slt t 18=u18,slt t 19=u19,slt t 20=u20,slt t 21=u21,slt t 22=u22,slt t 23=u23,slt t 24=u24,slt t 25=u25;clear g U;rw[L.o] at bc;have c1:=hb1.cell;have bb:=hb1.frozen;have bf:=hb1.lt;have HB1:=hid hb1;obtain⟨m,hm⟩:=ez (((Q2 f u i+pre.length:Nat):Int));have bi:0<=m:=oq;have bj:m<=1000000:=oq;rw[hm] at c1 HB1;have HM:=hid hm;clear hm hb1;gi_wp2;refine⟨(KeepsOthers.setCell _ _ _).from _,KD.of_but (show But (fun k=>k=w.1.size+1) W _ from But.set (S:=fun k=>k=w.1.size+1) rfl _) oq oq,?_,hb2.setCell (p:=⟨w.1.size+1,0,none⟩) (by simp) _,hb3.from ((KeepsOthers.setCell _ _ _).from _)⟩;have bd:((Q2 f u i+(pre++[x]).length:Nat):Int)=m+1:=by rw[<-HM.o];simp;omega
   rw[bd];exact HB1.o.set _
  rintro D xs W hD rfl ⟨hb1,hb2,hb3⟩ hk;rw[List.length_range,<-L.o,<-be.o] at hb1;gi_wp2;refine⟨hid ⟨i+1,_,rfl,rfl,rfl,rfl,rfl,rfl,rfl,rfl,by first|(simp[slt];done)|(simp[slt];go_num),G,hb1,hb2,hb3.cons oq oq hk⟩,?_⟩;simp[slt,intOf];omega
 obtain rfl:i=T:=oq;have c1:=j.o.cell;have bb:=j.o.frozen;have i1:¬(i:Int)<(i:Int):=oq;clear v;gi_wp2;refine af.o.leaves (fun W' hW'=>⟨.bool (decide (4000<(Q2 f u i:Int))),?_,?_⟩)
 .simp only[results,results46];go_simp
 exact⟨by rw[show decide (4000<(Q2 f u i:Int))=decide (4000<Q2 f u i) from decide_eq_decide.2 oq],HBW.o.trans (hW'.below)⟩
