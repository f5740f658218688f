/- Parts of the proof. -/
import Derived.Deep.CutBlock
import Derived.Deep.DeepCutAuto
import Derived.Deep.RegionLaw
import Derived.Deep.Upon
import Derived.Lib.AppendZeros
import Derived.Lib.SlicesCompact
import Derived.StillTailTactics
import Derived.Test.YtdgifkjaflfdeaaGreatDoorV02
import Derived.Test.YtdgifkjaflfdeaaGreatDoorV04
set_option linter.all false
set_option maxRecDepth 100000
set_option maxHeartbeats 16000000
namespace Go.Proofs.YtdgifkjaflfdeaaGreatDoor.lite
open Tryz
open Go.RowKit
theorem ES{P:Program}(w:World)(base:Nat)(t F e:TypeId)(i:TypeInfo)(z:Value)(size bytes:Nat)(ht:P.underlying t=some (.slice e))(hi:P.info? e=some i)(hz:i.zero=some z)
  (D:i.size=size)(I:i.bytes=bytes)(R:z.cells.size=size)(M:0<size)
  (v:Value)(n:Nat)(xs:List Value)(q:w.ownsRow base e size v n xs)
  (G:Option Addr)(m c:Nat)(news:List Value)(J:news.length=m*size)(f:∀j u,news[j]?=some u→∃x:Addr,G=some x∧w.cell? (x.add j)=some u)(T:∀u∈news,u.oneCell'=true)
  (H:n+m≤maxLen)(A:(n+m)*bytes≤140737488355328)(C:base≤w.heap.size) :
  ∃v' w',(Builtin.append_ #[t,t] F #[v,.slice G m c]).run P w=.ok v' w'∧w'.ownsRow base e size v' (n+m) (xs++news)∧w.grownBy w' v.ownBlock∧(v'.ownBlock=v.ownBlock∨v'.ownBlock=some w.heap.size):=by
 cases G with
 | some a =>
  obtain⟨v',w',hr,U,V,_,X⟩:=run_append_own_at (P:=P) w base t F e i z size bytes ht hi hz D I R M v n xs q a m c news J (fun j u h=>by obtain⟨x,O,Y⟩:=f j u h;cases O;exact Y) T H A C;exact⟨v',w',hr,U,V,X⟩
 | none =>
  have Z:m=0:=by
   cases news with
   | nil =>
    have h:m*size=0:=J.symm;rcases Nat.mul_eq_zero.1 h with h|h
    ·exact h
    omega
   | cons u us=>obtain⟨x,O,_⟩:=f 0 u rfl;cases O
  subst Z;obtain rfl:news=[]:=by simpa using J
  have key:∀(b:Option Addr)(k E:Nat),k≤E→(Builtin.append_ #[t,t] F #[.slice b k E,.slice none 0 c]).run P w=.ok (.slice b k E) w:=by
   intro b k E L;refine run_append_nothing w t t F e i ht hi b k E L _ ⟨.inl ⟨_,ht⟩,?_,?_,?_,by simp,by simp⟩
   ·intro w';simp[Builtin.lenOf]
   ·simp[Builtin.firstCells]
   simp[Builtin.firstCells]
  have y:=q;rcases q.2 with ⟨rfl,rfl⟩|⟨g,cap,cur,rfl,hb,hg,hnc,hcm,hcs,htk⟩
  ·refine⟨_,w,key _ _ _ (Yo _),by simpa using y,World.grownBy.refl _ _,.inl rfl⟩
  refine⟨_,w,key _ _ _ hnc,by simpa using y,World.grownBy.refl _ _,.inl rfl⟩
theorem Xz{P:Program}(w:World){C:Array Oper}{rest:List Oper}{o:Oper}{a:Act}{Q:Exit→Act→World→Prop}(hgd:o.guard=none)(s x:Operand)(t:TypeId)
  (R:o.op=.call { callee:=.builtin .append,args:=#[s,x],argTypes:=#[t,t] })
  (base:Nat)(e:TypeId)(i:TypeInfo)(z:Value)(size bytes:Nat)(ht:P.underlying t=some (.slice e))(hi:P.info? e=some i)(X:i.zero=some z)
  (y:i.size=size)(F:i.bytes=bytes)(H:z.cells.size=size)(G:0<size)
  (v:Value)(n:Nat)(xs:List Value)(U:a.eval s=v)(A:w.ownsRow base e size v n xs)
  (D:Option Addr)(m c:Nat)(news:List Value)(V:a.eval x=.slice D m c)(O:news.length=m*size)(q:∀j u,news[j]?=some u→∃x:Addr,D=some x∧w.cell? (x.add j)=some u)(I:∀u∈news,u.oneCell'=true)
  (E:n+m≤maxLen)(f:(n+m)*bytes≤140737488355328)(g:base≤w.heap.size)
  (h:∀v' w',w'.ownsRow base e size v' (n+m) (xs++news)→w.grownBy w' v.ownBlock→(v'.ownBlock=v.ownBlock∨v'.ownBlock=some w.heap.size)→wpList P C Q rest (a.put o.dst v') w'):wpList P C Q (o::rest) a w:=by
 obtain⟨v',w',T,J,L,M⟩:=ES (P:=P) w base t o.type e i z size bytes ht hi X y F H G v n xs A D m c news O q I E f g;exact Lib.wpList_append_run w hgd s x t t R v _ U V v' w' T (h v' w' J L M)
theorem info_parts{P:Program}{e:TypeId}{z:Value}{n b:Nat}(h:(P.info? e).map (fun i=>(i.zero,i.size,i.bytes))=some (some z,n,b)):∃i,P.info? e=some i∧i.zero=some z∧i.size=n∧i.bytes=b:=by
 cases hi:P.info? e with
 | none=>rw[hi] at h;cases h
 | some i=>rw[hi] at h;simp at h;exact⟨i,rfl,h.1,h.2.1,h.2.2⟩
end Go.Proofs.YtdgifkjaflfdeaaGreatDoor.lite
namespace Go.Proofs.YtdgifkjaflfdeaaGreatDoor.syn
open Tryz
open Go.RowKit
theorem YG{w:World}{base n:Nat}{e:TypeId}{size:Nat}{v:Value}{xs:List Value}(h:w.ownsRow base e size v n xs):∃ad cap,v=.slice ad n cap:=by
 rcases h.2 with ⟨rfl,rfl⟩|⟨g,cap,cur,rfl,_⟩
 ·exact⟨none,0,rfl⟩
 exact⟨_,cap,rfl⟩
theorem own_below{w w':World}{base n:Nat}{e:TypeId}{size:Nat}{v:Value}{xs:List Value}(h:w.ownsRow base e size v n xs)(hb:Below w.heap.size w w'):w'.ownsRow base e size v n xs :=
 h.kept (row:=none) ⟨hb.os,hb.tape,hb.output,hb.size,fun k hk _=>hb.block k hk⟩ (by cases hv:v.ownBlock<;>simp)
theorem info_parts{P:Program}{e:TypeId}{z:Value}{n b:Nat}(h:(P.info? e).map (fun i=>(i.zero,i.size,i.bytes))=some (some z,n,b)):∃i,P.info? e=some i∧i.zero=some z∧i.size=n∧i.bytes=b:=by
 cases hi:P.info? e with
 | none=>rw[hi] at h;cases h
 | some i=>rw[hi] at h;simp at h;exact⟨i,rfl,h.1,h.2.1,h.2.2⟩
theorem YJ{w:World}{b:Nat}{f g:Value}{t:TypeId}(h:w.heap[b]?=some (.cells #[f,g] t (0,0))):(w.cell? ⟨b,0,none⟩=some f∧w.cell? ⟨b,1,none⟩=some g)∧∀o,w.frozen? ⟨b,o,none⟩=false:=by
 refine⟨⟨?_,?_⟩,?_⟩
 all_goals first|(intro o;simp[World.frozen?,h])|simp[World.cell?,h]
theorem YW{w:World}{base:Nat}{e:TypeId}{size n:Nat}{v:Value}{xs:List Value}(h:w.ownsRow base e size v n xs):∀k,v.ownBlock=some k→base≤k:=by
 intro k f;rcases h.2 with ⟨rfl,_⟩|⟨g,cap,cur,rfl,hb,_⟩
 ·cases f
 simp[Value.ownBlock] at f;omega
theorem XU{w:World}{base:Nat}{e:TypeId}{size n:Nat}{v:Value}{xs:List Value}(h:w.ownsRow base e size v n xs){B o:Nat}(hB:B<base)(u:Value):(w.setCell ⟨B,o,none⟩ u).ownsRow base e size v n xs :=
 h.kept (row:=some B) ⟨rfl,rfl,rfl,((Zg 0 w).setCell (p:=⟨B,o,none⟩) (Zk _) u).size,fun k _ hk=>Zr _ _ _ _ (fun e=>hk (by rw[e]))⟩ (Or.inr (fun e=>by have:=YW h _ e;omega))
theorem Xo{w:World}{base base':Nat}{e:TypeId}{size n:Nat}{v:Value}{xs:List Value}(h:w.ownsRow base e size v n xs)(hb:base'≤base):w.ownsRow base' e size v n xs:=by
 refine⟨h.1,?_⟩;rcases h.2 with h0|⟨g,cap,cur,hv,hg,rest⟩
 ·exact .inl h0
 exact .inr ⟨g,cap,cur,hv,Zm hb hg,rest⟩
theorem EF{w w':World}{base:Nat}{e:TypeId}{size n:Nat}{v:Value}{xs:List Value}(h:w.ownsRow base e size v n xs){B:Nat}(hB:B<base)(hu:Upon B w w'):w'.ownsRow base e size v n xs :=
 h.kept (row:=some B) ⟨hu.os,hu.tape,hu.output,hu.size,fun k hk hne=>hu.block k hk (fun e=>hne (by rw[e]))⟩ (Or.inr (fun e=>by have:=YW h _ e;omega))
theorem Yx{w:World}{b:Nat}{f g j m:Value}{t:TypeId}(h:w.heap[b]?=some (.cells #[f,g,j,m] t (0,0))) :
  (w.cell? ⟨b,0,none⟩=some f∧w.cell? ⟨b,1,none⟩=some g∧w.cell? ⟨b,2,none⟩=some j∧w.cell? ⟨b,3,none⟩=some m)∧∀o,w.frozen? ⟨b,o,none⟩=false:=by
 refine⟨⟨?_,?_,?_,?_⟩,?_⟩
 all_goals first|(intro o;simp[World.frozen?,h])|simp[World.cell?,h]
structure But (S:Nat→Prop) (w w':World):Prop where
 os:w'.os=w.os
 tape:w'.tape=w.tape
 output:w'.output=w.output
 size:w.heap.size≤w'.heap.size
 block:∀k,k<w.heap.size→¬S k→w'.heap[k]?=w.heap[k]?
theorem But.refl(S:Nat→Prop)(w:World):But S w w:=⟨rfl,rfl,rfl,Zc _,fun _ _ _=>rfl⟩
theorem But.trans{S:Nat→Prop}{a b c:World}(h:But S a b)(k:But S b c):But S a c :=
 ⟨k.os.trans h.os,k.tape.trans h.tape,k.output.trans h.output,Zm h.size k.size,fun i hi hr=>(k.block i (Zd hi h.size) hr).trans (h.block i hi hr)⟩
theorem But.then{S T:Nat→Prop}{a b c:World}(h:But S a b)(k:But T b c)(hT:∀i,i<a.heap.size→T i→S i):But S a c :=
 ⟨k.os.trans h.os,k.tape.trans h.tape,k.output.trans h.output,Zm h.size k.size,fun i hi hr=>(k.block i (Zd hi h.size) (fun t=>hr (hT i hi t))).trans (h.block i hi hr)⟩
theorem But.imp{S T:Nat→Prop}{a b:World}(h:But S a b)(hT:∀i,i<a.heap.size→S i→T i):But T a b:=⟨h.os,h.tape,h.output,h.size,fun k hk hr=>h.block k hk (fun s=>hr (hT k hk s))⟩
theorem But.of_below{S:Nat→Prop}{a b:World}(h:Below a.heap.size a b):But S a b:=⟨h.os,h.tape,h.output,h.size,fun k hk _=>h.block k hk⟩
theorem But.of_upon{r:Nat}{a b:World}(h:Upon r a b):But (fun k=>k=r) a b:=⟨h.os,h.tape,h.output,h.size,fun k hk hr=>h.block k hk hr⟩
theorem But.of_grown{row:Option Nat}{a b:World}(h:a.grownBy b row):But (fun k=>row=some k) a b:=⟨h.os,h.tape,h.output,h.size,fun k hk hr=>h.block k hk (fun e=>hr e.symm)⟩
theorem But.below{S:Nat→Prop}{B:Nat}{a b:World}(h:But S a b)(h1:B≤a.heap.size)(h2:∀k,S k→B≤k):Below B a b :=
 ⟨h.os,h.tape,h.output,h.size,fun k hk=>h.block k oq (fun s=>by have:=h2 k s;omega)⟩
theorem But.drewN{S:Nat→Prop}{a w:World}(h:But S a w)(n:Nat):But S a (w.drewN n):=⟨h.os,h.tape,h.output,h.size,h.block⟩
theorem But.drew{S:Nat→Prop}{a w:World}(h:But S a w):But S a w.drew:=⟨h.os,h.tape,h.output,h.size,h.block⟩
theorem But.set{S:Nat→Prop}{w:World}{b o:Nat}(hb:S b)(u:Value):But S w (w.setCell ⟨b,o,none⟩ u) :=
 (But.of_upon ((Upon.refl b w).setAt (.inl rfl) u)).imp (fun i _ e=>e▸hb)
theorem But.alloc{S:Nat→Prop}{a w:World}(h:But S a w)(o:Obj):But S a (w.alloc o):=h.then (But.of_below ((Zg _ _).alloc (Zc _) o)) (fun _ _ t=>t)
theorem But.own{S:Nat→Prop}{w w':World}{base:Nat}{e:TypeId}{size n:Nat}{v:Value}{xs:List Value}(h:But S w w')(f:w.ownsRow base e size v n xs)(j:∀k,v.ownBlock=some k→¬S k):w'.ownsRow base e size v n xs:=by
 refine⟨f.1,?_⟩;rcases f.2 with hn|⟨g,cap,cur,rfl,hb,hgg,rest⟩
 ·exact .inl hn
 exact .inr ⟨g,cap,cur,rfl,hb,(h.block g (Zq.1 hgg).1 (j g rfl)).trans hgg,rest⟩
structure Fam (w:World) (base:Nat) (e:TypeId) (vs:List Value) (xss:List (List Value)):Prop where
 len:vs.length=xss.length
 own:∀(i:Nat)(v:Value)(xs:List Value),vs[i]?=some v→xss[i]?=some xs→w.ownsRow base e 1 v xs.length xs
 dis:∀(i j:Nat)(v u:Value)(k:Nat),vs[i]?=some v→vs[j]?=some u→v.ownBlock=some k→u.ownBlock=some k→i=j
theorem Fam.block{w:World}{base:Nat}{e:TypeId}{vs:List Value}{f:List (List Value)}(h:Fam w base e vs f){i:Nat}{v:Value}(g:vs[i]?=some v):∀k,v.ownBlock=some k→base≤k∧k<w.heap.size:=by
 have hi:i<f.length:=by rw[←h.len];exact(Zz.1 g).1
 exact(h.own i v _ g (Ze hi)).lt
theorem Fam.but{w w':World}{base:Nat}{e:TypeId}{vs:List Value}{xss:List (List Value)}(h:Fam w base e vs xss){S:Nat→Prop}(hb:But S w w')(hS:∀(i:Nat)(v:Value)(k:Nat),vs[i]?=some v→v.ownBlock=some k→¬S k):Fam w' base e vs xss :=
 ⟨h.len,fun i v xs h1 h2=>hb.own (h.own i v xs h1 h2) (fun k hk=>hS i v k h1 hk),h.dis⟩
theorem Fam.below{w w':World}{base:Nat}{e:TypeId}{vs:List Value}{xss:List (List Value)}(h:Fam w base e vs xss)(hb:Below w.heap.size w w'):Fam w' base e vs xss :=
 h.but (But.of_below (S:=fun _=>False) hb) (fun _ _ _ _ _ hf=>hf)
theorem Fam.butB{w w':World}{base:Nat}{e:TypeId}{vs:List Value}{xss:List (List Value)}(h:Fam w base e vs xss){S:Nat→Prop}(hb:But S w w')(hS:∀k,S k→k<base):Fam w' base e vs xss :=
 h.but hb (fun i v k hv hk hs=>by have h1:=(h.block hv k hk).1;have h2:=hS k hs;omega)
theorem Fam.set{w:World}{base:Nat}{e:TypeId}{vs:List Value}{xss:List (List Value)}(h:Fam w base e vs xss){b o:Nat}(hb:b<base)(u:Value):Fam (w.setCell ⟨b,o,none⟩ u) base e vs xss :=
 h.butB (But.set (S:=fun k=>k=b) rfl u) (fun k hk=>oq)
theorem Fam.put{w w':World}{base:Nat}{e:TypeId}{vs:List Value}{y:List (List Value)}(h:Fam w base e vs y){i:Nat}{v v':Value}{xs':List Value}(hi:vs[i]?=some v)(E:But (fun k=>v.ownBlock=some k∨k<base) w w')
  (F:w'.ownsRow base e 1 v' xs'.length xs')(D:∀k,v'.ownBlock=some k→v.ownBlock=some k∨w.heap.size≤k):Fam w' base e (vs.set i v') (y.set i xs'):=by
 have z:=(Zz.1 hi).1;refine⟨by simp[h.len],?_,?_⟩
 ·intro j u G f g;by_cases q:j=i
  ·subst q;rw[List.getElem?_set_self z] at f;rw[List.getElem?_set_self (by rw[←h.len];exact z)] at g
   cases f
   cases g
   exact F
  rw[List.getElem?_set_ne (fun e=>q e.symm)] at f g;refine E.own (h.own j u G f g) (fun k hk hs=>?_);rcases hs with hs|hs
  ·exact q (h.dis j i u v k f hi hk hs)
  have:=(h.block f k hk).1;omega
 intro j l u x k f g A C;by_cases q:j=i
 ·subst q;rw[List.getElem?_set_self z] at f
  cases f
  by_cases m:l=j
  ·exact m.symm
  rw[List.getElem?_set_ne (fun e=>m e.symm)] at g;rcases D k A with h3|h3
  ·exact h.dis j l v x k hi g h3 C
  have:=(h.block g k C).2;omega
 rw[List.getElem?_set_ne (fun e=>q e.symm)] at f;by_cases m:l=i
 ·subst m;rw[List.getElem?_set_self z] at g
  cases g
  rcases D k C with h3|h3
  ·exact h.dis j l u v k f hi A h3
  have:=(h.block f k A).2;omega
 rw[List.getElem?_set_ne (fun e=>m e.symm)] at g;exact h.dis j l u x k f g A C
theorem Fam.nils(w:World)(base:Nat)(e:TypeId)(n:Nat):Fam w base e (List.replicate n (.slice none 0 0)) (List.replicate n []):=by
 refine⟨by simp,?_,?_⟩
 ·intro i v x f g;rw[List.getElem?_replicate] at f g;split at f
  ·rename_i hlt
   rw[Z0 hlt] at g
   cases f
   cases g
   exact Yd w base e 1
  cases f
 intro i j v u k f g m q;rw[List.getElem?_replicate] at f;split at f
 ·cases f
  cases m
 cases f
def ints(l:List Int):List Value:=l.map (fun x=>.int .i64 x)
theorem X1(l:List Int):(ints l).length=l.length:=by simp[ints]
theorem ints_at{l:List Int}{i:Nat}(h:i<l.length):(ints l)[i]?=some (.int .i64 (l.getD i 0)):=by
 unfold ints;rw[List.getElem?_map,Ze h,Zf,Ze h];rfl
theorem ints_set(l:List Int)(i:Nat)(x:Int):(ints l).set i (.int .i64 x)=ints (l.set i x):=by unfold ints;rw[List.map_set]
theorem Jk(l:List Int)(x:Int):ints l++[.int .i64 x]=ints (l++[x]):=by simp[ints]
theorem V3{w:World}{base g n cap:Nat}{e:TypeId}{xs:List Value}(h:w.ownsRow base e 1 (.slice (some ⟨g,0,none⟩) n cap) n xs)(j:Nat)(u:Value)(f:j<n):(w.setCell ⟨g,j,none⟩ u).ownsRow base e 1 (.slice (some ⟨g,0,none⟩) n cap) n (xs.set j u):=by
 rcases h.2 with ⟨h1,_⟩|⟨g',cap',cur,h1,hb,hg,hnc,hcm,hcs,htk⟩
 ·cases h1
 injection h1 with h1 _ h3
 injection h1 with h1
 injection h1 with h1
 subst h1;subst h3;refine⟨by simp[h.1],.inr ⟨g,cap,cur.setIfInBounds j u,rfl,hb,Zj w g j cur e u hg,hnc,hcm,by simp[hcs],?_⟩⟩;rw[←htk,Array.toList_setIfInBounds,Z6,List.take_set]
theorem jD{w:World}{base g n m cap:Nat}{e:TypeId}{xs:List Value}(h:w.ownsRow base e 1 (.slice (some ⟨g,0,none⟩) n cap) n xs)(f:m≤n):w.ownsRow base e 1 (.slice (some ⟨g,0,none⟩) m cap) m (xs.take m):=by
 rcases h.2 with ⟨h1,_⟩|⟨g',cap',cur,h1,hb,hg,hnc,hcm,hcs,htk⟩
 ·cases h1
 injection h1 with h1 _ h3
 injection h1 with h1
 injection h1 with h1
 subst h1;subst h3;refine⟨by rw[Z9,h.1];omega,.inr ⟨g,cap,cur,rfl,hb,hg,oq,hcm,hcs,?_⟩⟩;rw[←htk,List.take_take,show min m (n*1)=m*1 by omega]
structure AD where
 src:Int
 ops:List (Int × Int × Int)
structure TD where
 node:Int
 per:Int
 ph:Int
 args:List AD
structure LD where
 per:Int
 ph:Int
 arg:AD
 dl:Int
structure NB where
 bud:Int
 nps:Nat
structure FD where
 ins:List (Int × Int)
 nods:List NB
 tasks:List TD
 tells:List LD
def Zdl(w:World)(b o:Nat)(c:Int × Int):Prop:=w.cell? ⟨b,o,none⟩=some (.int .i64 c.1)∧w.cell? ⟨b,o+1,none⟩=some (.int .i64 c.2)
def OpR(w:World)(b o:Nat)(x:Int × Int × Int):Prop:=w.cell? ⟨b,o,none⟩=some (.int .i64 x.1)∧w.cell? ⟨b,o+1,none⟩=some (.int .i64 x.2.1)∧w.cell? ⟨b,o+2,none⟩=some (.int .i64 x.2.2)
def vd(w:World)(b o:Nat)(a:AD):Prop:=w.cell? ⟨b,o,none⟩=some (.int .i64 a.src)∧∃ad cap,w.cell? ⟨b,o+1,none⟩=some (.slice ad a.ops.length cap)∧Row OpR 3 w a.ops ad
def Zbj(w:World)(b o:Nat)(t:TD):Prop:=w.cell? ⟨b,o,none⟩=some (.int .i64 t.node)∧w.cell? ⟨b,o+1,none⟩=some (.int .i64 t.per)∧w.cell? ⟨b,o+2,none⟩=some (.int .i64 t.ph)∧∃ad cap,w.cell? ⟨b,o+3,none⟩=some (.slice ad t.args.length cap)∧Row vd 2 w t.args ad
def Zds(w:World)(b o:Nat)(t:LD):Prop:=w.cell? ⟨b,o,none⟩=some (.int .i64 t.per)∧w.cell? ⟨b,o+1,none⟩=some (.int .i64 t.ph)∧w.cell? ⟨b,o+2,none⟩=some (.int .i64 t.arg.src)∧w.cell? ⟨b,o+4,none⟩=some (.int .i64 t.dl)∧∃ad cap,w.cell? ⟨b,o+3,none⟩=some (.slice ad t.arg.ops.length cap)∧Row OpR 3 w t.arg.ops ad
def NdR(w:World)(b o:Nat)(n:NB):Prop:=∃(nm:ByteArray)(pa:Option Addr)(pc:Nat)(k:Int)(nm2:ByteArray)(n2 d2:Int)(ea:Option Addr)(el ec:Nat)(a2 a:Int),
 w.cell? ⟨b,o,none⟩=some (.string nm)∧w.cell? ⟨b,o+1,none⟩=some (.slice pa n.nps pc)∧w.cell? ⟨b,o+2,none⟩=some (.int .i64 n.bud)∧w.cell? ⟨b,o+3,none⟩=some (.int .i64 k)∧w.cell? ⟨b,o+4,none⟩=some (.string nm2)∧w.cell? ⟨b,o+5,none⟩=some (.int .i64 n2) ∧
 w.cell? ⟨b,o+6,none⟩=some (.int .i64 d2)∧w.cell? ⟨b,o+7,none⟩=some (.slice ea el ec)∧w.cell? ⟨b,o+8,none⟩=some (.int .i64 a2)∧w.cell? ⟨b,o+9,none⟩=some (.int .i64 a)
theorem Zfi:Sta Zdl:=fun w w' b o x hb hlt h=>⟨(hb.cell (p:=⟨b,_,none⟩) hlt).trans h.1,(hb.cell (p:=⟨b,_,none⟩) hlt).trans h.2⟩
theorem Gb:Sta OpR:=fun w w' b o x hb hlt h=>⟨(hb.cell (p:=⟨b,_,none⟩) hlt).trans h.1,(hb.cell (p:=⟨b,_,none⟩) hlt).trans h.2.1,(hb.cell (p:=⟨b,_,none⟩) hlt).trans h.2.2⟩
theorem yq:Sta vd:=fun w w' b o x hb hlt h=>by
 obtain⟨h0,ad,cap,h1,h2⟩:=h;exact⟨(hb.cell (p:=⟨b,_,none⟩) hlt).trans h0,ad,cap,(hb.cell (p:=⟨b,_,none⟩) hlt).trans h1,h2.below Gb hb⟩
theorem Zda:Sta Zbj:=fun w w' b o x hb hlt h=>by
 obtain⟨h0,h1,h2,ad,cap,h3,h4⟩:=h;exact⟨(hb.cell (p:=⟨b,_,none⟩) hlt).trans h0,(hb.cell (p:=⟨b,_,none⟩) hlt).trans h1,(hb.cell (p:=⟨b,_,none⟩) hlt).trans h2,ad,cap,(hb.cell (p:=⟨b,_,none⟩) hlt).trans h3,h4.below yq hb⟩
theorem Zf3:Sta Zds:=fun w w' b o x hb hlt h=>by
 obtain⟨h0,h1,h2,h3,ad,cap,h4,h5⟩:=h;exact⟨(hb.cell (p:=⟨b,_,none⟩) hlt).trans h0,(hb.cell (p:=⟨b,_,none⟩) hlt).trans h1,(hb.cell (p:=⟨b,_,none⟩) hlt).trans h2,(hb.cell (p:=⟨b,_,none⟩) hlt).trans h3,ad,cap,(hb.cell (p:=⟨b,_,none⟩) hlt).trans h4,h5.below Gb hb⟩
theorem ZgO:Sta NdR:=fun w w' b o x hb hlt h=>by
 obtain⟨nm,pa,pc,k,nm2,n2,d2,ea,el,ec,a2,a,h0,h1,h2,h3,h4,h5,h6,h7,h8,h9⟩:=h;have hc:=fun o=>hb.cell (p:=⟨b,o,none⟩) hlt
 exact⟨nm,pa,pc,k,nm2,n2,d2,ea,el,ec,a2,a,(hc _).trans h0,(hc _).trans h1,(hc _).trans h2,(hc _).trans h3,(hc _).trans h4,(hc _).trans h5,(hc _).trans h6,(hc _).trans h7,(hc _).trans h8,(hc _).trans h9⟩
structure FAP (w:World) (f:FD) (ai an aT al:Option Addr):Prop where
 ins:Row Zdl 2 w f.ins ai
 nods:Row NdR 10 w f.nods an
 tasks:Row Zbj 4 w f.tasks aT
 tells:Row Zds 5 w f.tells al
 lens:f.ins.length≤1000∧f.nods.length≤1000∧f.tasks.length≤1000∧f.tells.length≤1000
 args:∀t∈f.tasks,t.args.length≤1000∧∀a∈t.args,a.ops.length≤1000∧I64 a.src
 tops:∀t∈f.tells,t.arg.ops.length≤1000∧I64 t.arg.src
theorem FAP.below{w w':World}{f:FD}{ai an aT al:Option Addr}(h:FAP w f ai an aT al)(hb:Below w.heap.size w w'):FAP w' f ai an aT al :=
 ⟨h.ins.below Zfi hb,h.nods.below ZgO hb,h.tasks.below Zda hb,h.tells.below Zf3 hb,h.lens,h.args,h.tops⟩
def fv(f:FD)(ai an aT al:Option Addr)(ci cn ct cl:Nat):Value:=.agg #[.slice ai f.ins.length ci,.slice an f.nods.length cn,.slice aT f.tasks.length ct,.slice al f.tells.length cl]
def QD(f:FD)(i:Int):Option (Int × Int):=if i<0 then none else if i<(f.ins.length:Int) then f.ins[i.toNat]? else (f.tasks[(i-(f.ins.length:Int)).toNat]?).map (fun t=>(t.per,t.ph))
def KH(o:Option (Int × Int)):Value:=.tuple #[.agg #[.int .i64 (o.getD (0,0)).1,.int .i64 (o.getD (0,0)).2],.bool o.isSome]
theorem xq{f:FD}{i:Int}(h:i<0):QD f i=none:=Z0 h
theorem ZcW{f:FD}{k:Nat}(h:k<f.ins.length):QD f (k:Int)=some f.ins[k]:=by
 unfold QD;rw[ZZ oq,Z0 oq,ZP,Ze h]
theorem JW{f:FD}{k:Nat}(h:k<f.tasks.length):QD f ((f.ins.length:Int)+(k:Int))=some (f.tasks[k].per,f.tasks[k].ph):=by
 unfold QD;rw[ZZ oq,ZZ oq,show((f.ins.length:Int)+(k:Int)-(f.ins.length:Int)).toNat=k by omega,Ze h];rfl
theorem gW{f:FD}{i:Int}(g:¬i<0)(j:¬i<(f.ins.length:Int))(m:¬i-(f.ins.length:Int)<(f.tasks.length:Int)):QD f i=none:=by
 unfold QD;rw[ZZ g,ZZ j,Ya oq];rfl
theorem EW{w:World}(f:FD)(F an E G:Option Addr)(R T U cl:Nat)(X:FAP w f F an E G)(i:Int)(I:I64 i) :
  Calls prog 169 #[fv f F an E G R T U cl,.int .i64 i] w fun x w'=>x=.returned (KH (QD f i))∧Below w.heap.size w w':=by
 have Z:=X.lens;have HF:=hid X;unfold I64 at I;clear X;unfold fv;obtain⟨y,g⟩:=ez (QD f i);rw[g];go_enter func169,ntmps169;go_upto_region 1 with fail
 obtain⟨D,q⟩:∃D,(w.alloc (.cells #[.slice F f.ins.length R,.slice an f.nods.length T,.slice E f.tasks.length U,.slice G f.tells.length cl] 35)).alloc (.cells #[.int .i64 0,.int .i64 0] 50)=D:=⟨_,rfl⟩;rw[q];have hB:Below w.heap.size w D:=by rw[←q];exact bq
 have L:D.heap[w.heap.size]?=some (.cells #[.slice F f.ins.length R,.slice an f.nods.length T,.slice E f.tasks.length U,.slice G f.tells.length cl] 35 (0,0)):=by rw[←q];exact(Za _ _ _ (by simp)).trans (Yw w _)
 have M:D.heap[w.heap.size+1]?=some (.cells #[.int .i64 0,.int .i64 0] 50 (0,0)):=by rw[←q];simpa using Yw (w.alloc (.cells #[.slice F f.ins.length R,.slice an f.nods.length T,.slice E f.tasks.length U,.slice G f.tells.length cl] 35)) (.cells #[.int .i64 0,.int .i64 0] 50)
 obtain⟨⟨x0,x1,x2,x3⟩,xf⟩:=Yx L;obtain⟨⟨q0,q1⟩,qf⟩:=YJ M;have HB:=hid hB;clear q hB L M;by_cases h0:i<0
 ·obtain rfl:y=none:=g.symm.trans (xq h0);clear g;have V:¬i≥0:=oq;go_wp2;exact Zl (v:=KH none) (by unfold KH;simp only[results,results169];go_simp) rfl ⟨rfl,bq⟩
 have V:i≥0:=oq;by_cases h1:i<(f.ins.length:Int)
 ·obtain⟨k,rfl⟩:∃k:Nat,i=(k:Int):=⟨i.toNat,oq⟩;have J:k<f.ins.length:=oq;obtain⟨b,o,rfl,hb,j,m⟩:=HF.out.ins.at J;obtain⟨⟨O,H⟩,A⟩:∃c,f.ins[k]=c:=⟨_,rfl⟩;obtain rfl:y=some (O,H):=g.symm.trans ((ZcW J).trans (Z1 some A));rw[A] at j m;simp only at j m;have y0:=(HB.out.cell (p:=⟨b,o+k*2,none⟩) hb).trans j;have y1:=(HB.out.cell (p:=⟨b,o+k*2+1,none⟩) hb).trans m;have Y:(0:Int)≤(k:Int):=oq;clear j m A g;go_wp2;exact Zl (v:=KH (some (O,H))) (by unfold KH;simp only[Z7,Option.isSome_some];simp only[results,results169];go_simp) rfl ⟨rfl,bq⟩
 have ae:i≥(f.ins.length:Int):=oq;by_cases h2:i-(f.ins.length:Int)<(f.tasks.length:Int)
 ·obtain⟨k,rfl⟩:∃k:Nat,i=(f.ins.length:Int)+(k:Int):=⟨(i-(f.ins.length:Int)).toNat,oq⟩;have J:k<f.tasks.length:=oq;obtain⟨b,o,rfl,hb,_,j,m,_⟩:=HF.out.tasks.at J;obtain⟨O,C⟩:=ez (f.tasks[k].per);obtain⟨H,z⟩:=ez (f.tasks[k].ph);obtain rfl:y=some (O,H):=g.symm.trans ((JW J).trans (by rw[C,z]));rw[C] at j;rw[z] at m;have y0:=(HB.out.cell (p:=⟨b,o+k*4+1,none⟩) hb).trans j;have y1:=(HB.out.cell (p:=⟨b,o+k*4+2,none⟩) hb).trans m;have Y:(0:Int)≤(k:Int):=oq;have af:(k:Int)<(f.tasks.length:Int):=oq;have aa:IntKind.i64.wrap ((f.ins.length:Int)+(k:Int)-(f.ins.length:Int))=(k:Int):=by rw[show(f.ins.length:Int)+(k:Int)-(f.ins.length:Int)=(k:Int) by omega];exact ZJ _ oq
  have ab:IntKind.i64.wrap ((f.ins.length:Int)+(f.tasks.length:Int))=(f.ins.length:Int)+(f.tasks.length:Int):=ZJ _ oq;have ac:(f.ins.length:Int)+(k:Int)<(f.ins.length:Int)+(f.tasks.length:Int):=oq;clear j m C z g;go_wp2;exact Zl (v:=KH (some (O,H))) (by unfold KH;simp only[Z7,Option.isSome_some];simp only[results,results169];go_simp) rfl ⟨rfl,bq⟩
 obtain rfl:y=none:=g.symm.trans (gW h0 h1 h2);clear g;have aa:IntKind.i64.wrap (i-(f.ins.length:Int))=i-(f.ins.length:Int):=ZJ _ oq;have ab:IntKind.i64.wrap ((f.ins.length:Int)+(f.tasks.length:Int))=(f.ins.length:Int)+(f.tasks.length:Int):=ZJ _ oq;have ac:¬i<(f.ins.length:Int)+(f.tasks.length:Int):=oq;go_wp2;exact Zl (v:=KH none) (by unfold KH;simp only[results,results169];go_simp) rfl ⟨rfl,bq⟩
def swp(l:List Int)(i j:Nat):List Int:=(l.set i (l.getD j 0)).set j (l.getD i 0)
theorem Xc(l:List Int)(i j:Nat):(swp l i j).length=l.length:=by simp[swp]
theorem Jc{l:List Int}{i:Nat}(h:i<l.length):l.getD i 0∈l:=by rw[Zf,Ze h];exact Zi h
theorem QN{α:Type}{l:List α}{i:Nat}{a x:α}(h:x∈l.set i a):x∈l∨x=a:=by
 rcases List.mem_or_eq_of_mem_set h with h|h
 ·exact .inl h
 exact .inr h
theorem xr{Q:Int→Prop}{l:List Int}{i j:Nat}(hi:i<l.length)(g:j<l.length)(h:∀x∈l,Q x):∀x∈swp l i j,Q x:=by
 intro x f;unfold swp at f;rcases QN f with f|f
 ·rcases QN f with f|f
  ·exact h x f
  rw[f];exact h _ (Jc g)
 rw[f];exact h _ (Jc hi)
def upP:Nat→List Int→Nat→List Int
 | 0,l,_=>l
 | n+1,l,j=>if (j-1)/2=j then l else if l.getD j 0<l.getD ((j-1)/2) 0 then upP n (swp l ((j-1)/2) j) ((j-1)/2) else l
theorem ZeG:∀(n:Nat)(l:List Int)(j:Nat),(upP n l j).length=l.length:=by
 intro n
 induction n with
 | zero=>intro l j;rfl
 | succ n ih =>
  intro l j;rw[upP];split
  ·rfl
  split
  ·rw[ih,Xc]
  rfl
theorem ZeF{Q:Int→Prop}:∀(n:Nat)(l:List Int)(j:Nat),j<l.length→(∀x∈l,Q x)→∀x∈upP n l j,Q x:=by
 intro n
 induction n with
 | zero=>intro l j _ h;exact h
 | succ n ih =>
  intro l j f h;rw[upP];split
  ·exact h
  split
  ·refine ih _ _ (by rw[Xc];omega) (xr oq f h)
  exact h
def Uq(l:List Int)(i n:Nat):Nat:=if 2*i+2<n∧l.getD (2*i+2) 0<l.getD (2*i+1) 0 then 2*i+2 else 2*i+1
def Qc:Nat→List Int→Nat→Nat→List Int
 | 0,l,_,_=>l
 | k+1,l,i,n=>if n≤2*i+1 then l else if l.getD (Uq l i n) 0<l.getD i 0 then Qc k (swp l i (Uq l i n)) (Uq l i n) n else l
theorem ut{l:List Int}{i n:Nat}(h:¬n≤2*i+1):Uq l i n<n∧i<Uq l i n:=by
 unfold Uq;split<;>omega
theorem eX:∀(k:Nat)(l:List Int)(i n:Nat),(Qc k l i n).length=l.length:=by
 intro k
 induction k with
 | zero=>intro l i n;rfl
 | succ k ih =>
  intro l i n;rw[Qc];split
  ·rfl
  split
  ·rw[ih,Xc]
  rfl
theorem eW{Q:Int→Prop}:∀(k:Nat)(l:List Int)(i n:Nat),n≤l.length→(∀x∈l,Q x)→∀x∈Qc k l i n,Q x:=by
 intro k
 induction k with
 | zero=>intro l i n _ h;exact h
 | succ k ih =>
  intro l i n f h;rw[Qc];split
  ·exact h
  rename_i h1
  have g:=ut (l:=l) h1;split
  ·exact ih _ _ _ (by rw[Xc];exact f) (xr oq oq h)
  exact h
def QB(l:List Int)(x:Int):List Int:=upP (l.length+1) (l++[x]) l.length
def XV(l:List Int):List Int:=Qc l.length (swp l 0 (l.length-1)) 0 (l.length-1)
def XL(l:List Int):Int × List Int:=((XV l).getD (l.length-1) 0,(XV l).take (l.length-1))
theorem Kz(l:List Int)(x:Int):(QB l x).length=l.length+1:=by unfold QB;rw[ZeG];simp
theorem Jd(l:List Int):(XV l).length=l.length:=by unfold XV;rw[eX,Xc]
theorem EI(l:List Int):(XL l).2.length=l.length-1:=by unfold XL;rw[Z9,Jd];omega
theorem V4{Q:Int→Prop}{l:List Int}{x:Int}(h:∀y∈l,Q y)(f:Q x):∀y∈QB l x,Q y:=by
 unfold QB;refine ZeF _ _ _ (by simp) ?_;intro y hy;rcases List.mem_append.1 hy with hy|hy
 ·exact h y hy
 rw[List.mem_singleton.1 hy];exact f
theorem ZaM{Q:Int→Prop}{l:List Int}(g:l≠[])(h:∀y∈l,Q y):∀y∈XV l,Q y:=by
 have f:0<l.length:=by cases l with
  | nil=>exact absurd rfl g
  | cons _ _=>simp
 unfold XV;exact eW _ _ _ _ (by rw[Xc];omega) (xr f oq h)
theorem EH{Q:Int→Prop}{l:List Int}(g:l≠[])(h:∀y∈l,Q y):Q (XL l).1∧∀y∈(XL l).2,Q y:=by
 have j:0<l.length:=by cases l with
  | nil=>exact absurd rfl g
  | cons _ _=>simp
 have f:=ZaM g h;exact⟨f _ (Jc (by rw[Jd];omega)),fun y hy=>f y (List.mem_of_mem_take hy)⟩
def J5(o:Int × Int × Int):Bool:=decide (o.1=6∨(o.1=5∧¬o.2.1=0))
def E8(f:FD)(i:Int):Option Int:=if (QD f i).isSome=true∧(f.ins.length:Int)≤i then some (i-(f.ins.length:Int)) else none
def Qy(f:FD)(a:AD):Option Int:=if a.ops.any J5=true then none else E8 f a.src
def Es(f:FD)(t:TD):List Int:=t.args.filterMap (Qy f)
def Y3(f:FD)(t:TD):List Int:=Lib.compact ((Es f t).mergeSort (fun x y=>decide (x≤y)))
theorem Kb{f:FD}{i:Int}(h:(QD f i).isSome=true)(j:(f.ins.length:Int)≤i):i-(f.ins.length:Int)<(f.tasks.length:Int):=by
 by_cases g:i-(f.ins.length:Int)<(f.tasks.length:Int)
 ·exact g
 rw[gW oq oq g] at h
 cases h
theorem Zf6{f:FD}{i x:Int}(h:E8 f i=some x):0≤x∧x<(f.tasks.length:Int):=by
 unfold E8 at h;split at h
 ·rename_i h1
  cases h
  exact⟨oq,Kb h1.1 h1.2⟩
 cases h
theorem ZfF{f:FD}{t:TD}:∀x∈Es f t,0≤x∧x<(f.tasks.length:Int):=by
 intro x j;obtain⟨a,_,g⟩:=List.mem_filterMap.1 j;unfold Qy at g;split at g
 ·cases g
 exact Zf6 g
structure WS where
 q:List Int
 many:List Int
 rd:List (List Int)
def addR(t:Nat)(r:List (List Int))(x:Int):List (List Int):=r.set x.toNat (r.getD x.toNat []++[(t:Int)])
def Qz(f:FD)(s:WS)(t:Nat):WS:=match f.tasks[t]? with
 | none=>s
 | some d=>⟨if Y3 f d=[] then QB s.q (t:Int) else s.q,s.many.set t ((Y3 f d).length:Int),(Y3 f d).foldl (addR t) s.rd⟩
def Gq(f:FD):WS:=(List.range f.tasks.length).foldl (Qz f) ⟨[],List.replicate f.tasks.length 0,List.replicate f.tasks.length []⟩
def YC(s:WS)(r:Int):WS:=⟨if s.many.getD r.toNat 0-1=0 then QB s.q r else s.q,s.many.set r.toNat (s.many.getD r.toNat 0-1),s.rd⟩
def YK(s:WS):Int × WS:=((XL s.q).1,(s.rd.getD (XL s.q).1.toNat []).foldl YC ⟨(XL s.q).2,s.many,s.rd⟩)
def Y4:Nat→WS→List Int→List Int
 | 0,_,l=>l
 | n+1,s,l=>if s.q=[] then l else Y4 n (YK s).2 (l++[(YK s).1])
def muW(s:WS):Nat:=s.q.length+s.many.countP (fun x=>decide (0<x))
def ofP(f:FD):Option (List Int):=if (Y4 (muW (Gq f)) (Gq f) []).length<f.tasks.length then none else some (Y4 (muW (Gq f)) (Gq f) [])
structure WOk (T:Nat) (s:WS):Prop where
 q:∀x∈s.q,0≤x∧x<(T:Int)
 many:s.many.length=T
 rd:s.rd.length=T
 rds:∀r∈s.rd,∀x∈r,0≤x∧x<(T:Int)
theorem vS{l:List Int}{i:Nat}{x:Int}{p:Int→Bool}(h:i<l.length):(l.set i x).countP p+(if p (l.getD i 0)=true then 1 else 0)=l.countP p+(if p x=true then 1 else 0):=by
 induction l generalizing i with
 | nil=>simp at h
 | cons a l ih =>
  cases i with
  | zero =>
   simp only[List.set_cons_zero,List.countP_cons,List.getD_cons_zero];omega
  | succ i =>
   have:=ih (i:=i) (by simpa using h);simp only[List.set_cons_succ,List.countP_cons,List.getD_cons_succ];omega
theorem Zeo(s:WS)(r:Int):muW (YC s r)≤muW s:=by
 unfold muW YC;simp only;by_cases q:r.toNat<s.many.length
 ·have h:=vS (x:=s.many.getD r.toNat 0-1) (p:=fun x=>decide (0<x)) q;generalize s.many.getD r.toNat 0=m at h ⊢;simp only[Yi] at h;by_cases g:m-1=0
  ·rw[Z0 g,Kz];rw[Z0 oq,ZZ oq] at h;omega
  rw[ZZ g];by_cases f:0<m
  ·rw[Z0 f,Z0 oq] at h;omega
  rw[ZZ f,ZZ oq] at h;omega
 have j:s.many.getD r.toNat 0=0:=by rw[Zf,Ya oq];rfl
 rw[j,ZZ oq,List.set_eq_of_length_le oq];exact Zc _
theorem EN:∀(l:List Int)(s:WS),muW (l.foldl YC s)≤muW s
 | [],s=>Zc _
 | r::l,s=>Zm (EN l (YC s r)) (Zeo s r)
theorem yY{s:WS}(h:s.q≠[]):muW (YK s).2+1≤muW s:=by
 have f:=EN (s.rd.getD (XL s.q).1.toNat []) ⟨(XL s.q).2,s.many,s.rd⟩;have g:=EI s.q;have j:0<s.q.length:=by cases hq:s.q with
  | nil=>exact absurd hq h
  | cons _ _=>simp
 unfold YK;simp only;unfold muW at f ⊢;simp only at f ⊢;omega
theorem qV:∀(n:Nat)(s:WS)(l:List Int),muW s≤n→Y4 (n+1) s l=Y4 n s l:=by
 intro n
 induction n with
 | zero =>
  intro s l h;have:s.q=[]:=by cases hq:s.q with
   | nil=>rfl
   | cons a b=>unfold muW at h;rw[hq] at h;simp at h
  (conv=>lhs;rw[Y4,Z0 this]);rfl
 | succ n ih =>
  intro s l h
  conv=>lhs;rw[Y4]
  conv=>rhs;rw[Y4]
  split
  ·rfl
  rename_i hq
  have:=yY hq;exact ih _ _ oq
theorem K9{s:WS}(l:List Int)(h:s.q≠[]):Y4 (muW s) s l=Y4 (muW (YK s).2) (YK s).2 (l++[(YK s).1]):=by
 have j:=yY h;have key:∀d n,n=muW (YK s).2+d→Y4 n (YK s).2 (l++[(YK s).1])=Y4 (muW (YK s).2) (YK s).2 (l++[(YK s).1]):=by
  intro d
  induction d with
  | zero=>intro n f;rw[f];rfl
  | succ d ih =>
   intro n f;rw[show n=(muW (YK s).2+d)+1 by omega,qV _ _ _ oq];exact ih _ rfl
 obtain⟨m,g⟩:∃m,muW s=m+1:=⟨muW s-1,oq⟩;rw[g,Y4,ZZ h];exact key (m-muW (YK s).2) m oq
theorem uF{s:WS}(n:Nat)(l:List Int)(h:s.q=[]):Y4 n s l=l:=by
 cases n with
 | zero=>rfl
 | succ n=>rw[Y4,Z0 h]
theorem ZcF{T:Nat}{s:WS}(h:WOk T s)(i:Nat):∀x∈s.rd.getD i [],0≤x∧x<(T:Int):=by
 intro x f;by_cases hi:i<s.rd.length
 ·rw[Zf,Ze hi] at f;exact h.rds _ (Zi hi) x f
 rw[Zf,Ya oq] at f
 cases f
theorem WOk.read{T:Nat}{s:WS}(h:WOk T s){r:Int}(f:0≤r∧r<(T:Int)):WOk T (YC s r):=by
 refine⟨?_,by simp[YC,h.many],h.rd,h.rds⟩;unfold YC;simp only;split
 ·exact V4 h.q f
 exact h.q
theorem WOk.reads{T:Nat}:∀(l:List Int)(s:WS),WOk T s→(∀x∈l,0≤x∧x<(T:Int))→WOk T (l.foldl YC s)
 | [],s,h,_=>h
 | r::l,s,h,hl=>WOk.reads l _ (h.read (hl r (by simp))) (fun x hx=>hl x (by simp[hx]))
theorem WOk.next{T:Nat}{s:WS}(h:WOk T s)(g:s.q≠[]):(0≤(YK s).1∧(YK s).1<(T:Int))∧WOk T (YK s).2:=by
 have f:=EH g h.q;exact⟨f.1,WOk.reads _ _ ⟨f.2,h.many,h.rd,h.rds⟩ (ZcF h _)⟩
theorem K1{d:Array Int}{m:Nat}(y:m≤d.size):∀x∈Lib.compactUpTo d m,x∈d.toList:=by
 intro x g;unfold Lib.compactUpTo at g;obtain⟨j,q,rfl⟩:=Yc.1 g;have v:=List.mem_range.1 (List.mem_filter.1 q).1;have f:j<d.size:=oq;simp only[getElem!_pos d j f];simp
theorem Ee{f:FD}{t:TD}:∀x∈Y3 f t,0≤x∧x<(f.tasks.length:Int):=by
 intro x j;have g:=K1 (Nat.le_of_eq (by simp)) x j;exact ZfF x (List.mem_mergeSort.1 g)
theorem Vw(q:List Int):(Lib.compact q).length≤q.length:=by
 unfold Lib.compact Lib.compactUpTo;rw[Zo];exact Zm (List.length_filter_le _ _) (by simp)
theorem WOk.addR{T:Nat}{t:Nat}(ht:t<T){r:List (List Int)}{x:Int}(g:r.length=T)(h:∀s∈r,∀y∈s,0≤y∧y<(T:Int)):(addR t r x).length=T∧∀s∈addR t r x,∀y∈s,0≤y∧y<(T:Int):=by
 refine⟨by simp[syn.addR,g],?_⟩;intro s f y hy;unfold syn.addR at f;rcases QN f with f|rfl
 ·exact h s f y hy
 rcases List.mem_append.1 hy with hy|hy
 ·by_cases hi:x.toNat<r.length
  ·rw[Zf,Ze hi] at hy;exact h _ (Zi hi) y hy
  rw[Zf,Ya oq] at hy
  cases hy
 rw[List.mem_singleton.1 hy];omega
theorem WOk.addRs{T:Nat}{t:Nat}(ht:t<T):∀(l:List Int)(r:List (List Int)),r.length=T→(∀s∈r,∀y∈s,0≤y∧y<(T:Int))→(l.foldl (syn.addR t) r).length=T∧∀s∈l.foldl (syn.addR t) r,∀y∈s,0≤y∧y<(T:Int)
 | [],r,h1,h2=>⟨h1,h2⟩
 | x::l,r,h1,h2=>by
  obtain⟨h3,h4⟩:=WOk.addR (x:=x) ht h1 h2;exact WOk.addRs ht l _ h3 h4
theorem WOk.newS{f:FD}{s:WS}{t:Nat}(ht:t<f.tasks.length)(h:WOk f.tasks.length s):WOk f.tasks.length (Qz f s t):=by
 unfold Qz;rw[Ze ht];simp only;obtain⟨g,j⟩:=WOk.addRs ht (Y3 f f.tasks[t]) s.rd h.rd h.rds;refine⟨?_,by simp[h.many],g,j⟩;simp only;split
 ·exact V4 h.q oq
 exact h.q
def Xg(f:FD)(n:Nat):WS:=(List.range n).foldl (Qz f) ⟨[],List.replicate f.tasks.length 0,List.replicate f.tasks.length []⟩
theorem QO(f:FD)(n:Nat):Xg f (n+1)=Qz f (Xg f n) n:=by
 unfold Xg;rw[Yg,List.foldl_append];rfl
theorem V1(f:FD):∀n,n≤f.tasks.length→WOk f.tasks.length (Xg f n)
 | 0,_=>⟨by simp[Xg],by simp[Xg],by simp[Xg],by
   intro r hr x hx;have:=List.eq_of_mem_replicate (show r∈List.replicate f.tasks.length [] from hr);subst this
   cases hx⟩
 | n+1,h=>by
  rw[QO];exact WOk.newS oq (V1 f n oq)
theorem Jl{f:FD}{s:WS}{t:Nat}{d:TD}(h:f.tasks[t]?=some d):Qz f s t=⟨if Y3 f d=[] then QB s.q (t:Int) else s.q,s.many.set t ((Y3 f d).length:Int),(Y3 f d).foldl (addR t) s.rd⟩:=by
 unfold Qz;rw[h]
theorem V2(f:FD):∀n,(Xg f n).q.length≤n
 | 0=>by simp[Xg]
 | n+1=>by
  have ih:=V2 f n;rw[QO]
  cases h:f.tasks[n]? with
  | none=>unfold Qz;rw[h];simp only;omega
  | some d =>
   rw[Jl h];simp only;split
   ·rw[Kz];omega
   omega
def RB(c:Nat)(rd:List (List Int)):Prop:=∀r∈rd,r.length≤c
theorem RB.getD{c:Nat}{rd:List (List Int)}(h:RB c rd)(i:Nat):(rd.getD i []).length≤c:=by
 by_cases hi:i<rd.length
 ·rw[Zf,Ze hi];exact h _ (Zi hi)
 rw[Zf,Ya oq];simp
theorem RB.mono{c d:Nat}{rd:List (List Int)}(h:RB c rd)(hd:c≤d):RB d rd:=fun r hr=>Zm (h r hr) hd
theorem RB.add{c t:Nat}{rd:List (List Int)}(h:RB c rd)(x:Int):RB (c+1) (addR t rd x):=by
 intro r f;unfold addR at f;rcases QN f with f|rfl
 ·exact Nat.le_succ_of_le (h r f)
 rw[Zw];have:=h.getD x.toNat;simp only[Zp,Zv];omega
theorem RB.adds{t:Nat}:∀(l:List Int)(c:Nat)(rd:List (List Int)),RB c rd→RB (c+l.length) (l.foldl (addR t) rd)
 | [],c,rd,h=>h
 | x::l,c,rd,h=>by
  have:=RB.adds (t:=t) l (c+1) _ (h.add (t:=t) x);rw[show c+(x::l).length=c+1+l.length by simp;omega];exact this
theorem yX(f:FD)(hh:∀(n:Nat)(d:TD),f.tasks[n]?=some d→(Y3 f d).length≤1000):∀n,RB (n*1000) (Xg f n).rd
 | 0=>by
  intro r hr;have:=List.eq_of_mem_replicate (show r∈List.replicate f.tasks.length [] from hr);subst this;simp
 | n+1=>by
  have ih:=yX f hh n;rw[QO]
  cases h:f.tasks[n]? with
  | none=>unfold Qz;rw[h];exact ih.mono oq
  | some d =>
   rw[Jl h];exact(RB.adds (Y3 f d) _ _ ih).mono (by have:=hh n d h;omega)
def MB(c:Nat)(l:List Int):Prop:=∀x∈l,-(c:Int)≤x∧x≤100000
theorem MB.getD{c:Nat}{l:List Int}(h:MB c l)(i:Nat):-(c:Int)≤l.getD i 0∧l.getD i 0≤100000:=by
 by_cases hi:i<l.length
 ·rw[Zf,Ze hi];exact h _ (Zi hi)
 rw[Zf,Ya oq];simp
theorem MB.mono{c d:Nat}{l:List Int}(h:MB c l)(hd:c≤d):MB d l:=fun x hx=>⟨by have:=(h x hx).1;omega,(h x hx).2⟩
theorem MB.read{c:Nat}{s:WS}(h:MB c s.many)(r:Int):MB (c+1) (YC s r).many:=by
 intro x f;unfold YC at f;rcases QN f with f|rfl
 ·have:=h x f;omega
 have:=h.getD r.toNat;omega
theorem MB.reads:∀(l:List Int)(c:Nat)(s:WS),MB c s.many→MB (c+l.length) (l.foldl YC s).many
 | [],c,s,h=>h
 | r::l,c,s,h=>by
  have:=MB.reads l (c+1) _ (h.read r);rw[show c+(r::l).length=c+1+l.length by simp;omega];exact this
theorem gH(f:FD)(hh:∀(n:Nat)(d:TD),f.tasks[n]?=some d→(Y3 f d).length≤1000):∀n,MB 0 (Xg f n).many
 | 0=>by
  intro x hx;have:=List.eq_of_mem_replicate (show x∈List.replicate f.tasks.length (0:Int) from hx);subst this;omega
 | n+1=>by
  have ih:=gH f hh n;rw[QO]
  cases h:f.tasks[n]? with
  | none=>unfold Qz;rw[h];exact ih
  | some d =>
   rw[Jl h];intro x hx;rcases QN hx with hx|rfl
   ·exact ih x hx
   have:=hh n d h;omega
theorem EO:∀(l:List Int)(s:WS),(l.foldl YC s).rd=s.rd
 | [],s=>rfl
 | r::l,s=>(EO l (YC s r)).trans rfl
theorem Zd6(s:WS):(YK s).2.rd=s.rd:=by unfold YK;simp only;rw[EO]
theorem MB.next{c d:Nat}{s:WS}(h:MB c s.many)(f:RB d s.rd):MB (c+d) (YK s).2.many:=by
 unfold YK;simp only;exact(MB.reads _ _ ⟨(XL s.q).2,s.many,s.rd⟩ h).mono (by have:=f.getD (XL s.q).1.toNat;omega)
theorem ZgN(s:WS):s.q.length≤muW s:=by unfold muW;omega
theorem E1{l:List Int}{i j:Nat}(hi:i<l.length)(f:j<l.length):(swp l i j).Perm l:=by
 have h:((l.set i l[j]).set j l[i]).Perm l:=List.set_set_perm hi f;unfold swp;rw[Zf,Zf,Ze hi,Ze f];exact h
theorem Zdd:∀(n:Nat)(l:List Int)(j:Nat),j<l.length→(upP n l j).Perm l:=by
 intro n
 induction n with
 | zero=>intro l j _;exact List.Perm.refl _
 | succ n ih =>
  intro l j f;rw[upP];split
  ·exact List.Perm.refl _
  split
  ·exact(ih _ _ (by rw[Xc];omega)).trans (E1 oq f)
  exact List.Perm.refl _
theorem vW:∀(k:Nat)(l:List Int)(i n:Nat),n≤l.length→(Qc k l i n).Perm l:=by
 intro k
 induction k with
 | zero=>intro l i n _;exact List.Perm.refl _
 | succ k ih =>
  intro l i n f;rw[Qc];split
  ·exact List.Perm.refl _
  rename_i h1
  have g:=ut (l:=l) h1;split
  ·exact(ih _ _ _ (by rw[Xc];exact f)).trans (E1 oq oq)
  exact List.Perm.refl _
theorem Vd(l:List Int)(x:Int):(QB l x).Perm (x::l):=by
 unfold QB;exact(Zdd _ _ _ (by simp)).trans (List.perm_append_singleton _ _)
theorem ZaE{l:List Int}(j:l≠[]):((XL l).1::(XL l).2).Perm l:=by
 have f:0<l.length:=by cases l with
  | nil=>exact absurd rfl j
  | cons _ _=>simp
 have g:(XV l).Perm l:=by
  unfold XV;exact(vW _ _ _ _ (by rw[Xc];omega)).trans (E1 f oq)
 refine List.Perm.trans ?_ g;have m:=Jd l;have hi:l.length-1<(XV l).length:=oq;have e:XV l=(XL l).2++[(XL l).1]:=by
  unfold XL;simp only;rw[Zf,Ze hi];have:=Zu hi;rw[show l.length-1+1=(XV l).length by omega,ZR] at this;exact this
 rw[e];exact(List.perm_append_singleton _ _).symm
def YZ(f:FD)(t:Nat):List Int:=match f.tasks[t]? with
 | none=>[]
 | some d=>Y3 f d
theorem VY{f:FD}{t:Nat}{d:TD}(h:f.tasks[t]?=some d):YZ f t=Y3 f d:=by unfold YZ;rw[h]
theorem Zai{f:FD}{t:Nat}:∀y∈YZ f t,0≤y∧y<(f.tasks.length:Int):=by
 intro y hy;unfold YZ at hy
 cases h:f.tasks[t]? with
 | none=>rw[h] at hy;cases hy
 | some d=>rw[h] at hy;exact Ee y hy
theorem Ed{α:Type}(l:List α)(i j:Nat)(a z:α)(hi:i<l.length):(l.set i a).getD j z=if i=j then a else l.getD j z:=by
 rw[Zf,Zf];by_cases h:i=j
 ·subst h;rw[Z0 rfl,List.getElem?_set_self hi];rfl
 rw[ZZ h,List.getElem?_set_ne h]
theorem jL{T:Nat}:∀(R:List Int)(s:WS),WOk T s→(∀x∈R,0≤x∧x<(T:Int))→(∀t:Nat,t<T→((R.count (t:Int):Nat):Int)≤s.many.getD t 0) →
  (R.foldl YC s).rd=s.rd∧(∀t:Nat,t<T→(R.foldl YC s).many.getD t 0=s.many.getD t 0-((R.count (t:Int):Nat):Int)) ∧
  (∀t:Nat,t<T→(R.foldl YC s).q.count (t:Int)=s.q.count (t:Int)+(if 0<R.count (t:Int)∧s.many.getD t 0=((R.count (t:Int):Nat):Int) then 1 else 0))
 | [],s,_,_,_=>⟨rfl,fun t _=>by simp,fun t _=>by simp⟩
 | r::R,s,hs,hR,hc=>by
  have hr:=hR r (by simp);obtain⟨k,rfl⟩:∃k:Nat,r=(k:Int):=⟨r.toNat,oq⟩;have hk:k<T:=oq;have hm:=hs.many;have hck:=hc k hk;simp only[List.count_cons_self] at hck;have hmany:∀t:Nat,t<T→(YC s (k:Int)).many.getD t 0=if k=t then s.many.getD k 0-1 else s.many.getD t 0:=fun t ht=>by
   unfold YC;simp only[ZP];exact Ed _ _ _ _ _ oq
  have hcnt:∀t:Nat,((k:Int)::R).count (t:Int)=R.count (t:Int)+(if k=t then 1 else 0):=fun t=>by
   rw[List.count_cons];by_cases h:k=t
   ·subst h;simp
   rw[ZZ h,ZZ];intro h2;have:=eq_of_beq h2;omega
  obtain⟨h1,h2,h3⟩:=jL R (YC s (k:Int)) (hs.read hr) (fun x hx=>hR x (by simp[hx])) (fun t ht=>by
   have:=hc t ht;rw[hcnt t] at this;rw[hmany t ht];by_cases h:k=t
   ·subst h;rw[Z0 rfl] at this ⊢;omega
   rw[ZZ h] at this ⊢;exact this)
  refine⟨h1,fun t ht=>?_,fun t ht=>?_⟩
  ·show(R.foldl YC (YC s (k:Int))).many.getD t 0=_;rw[h2 t ht,hmany t ht,hcnt t];by_cases h:k=t
   ·subst h;rw[Z0 rfl,Z0 rfl];omega
   rw[ZZ h,ZZ h];omega
  show(R.foldl YC (YC s (k:Int))).q.count (t:Int)=_;rw[h3 t ht,hmany t ht,hcnt t];have hq:(YC s (k:Int)).q=if s.many.getD k 0-1=0 then QB s.q (k:Int) else s.q:=rfl
  rw[hq];by_cases h:k=t
  ·subst h;simp only[Z0];by_cases h0:s.many.getD k 0-1=0
   ·rw[Z0 h0,(Vd _ _).count_eq,List.count_cons_self,ZZ oq,Z0 oq]
   rw[ZZ h0];by_cases h4:0<R.count (k:Int)∧s.many.getD k 0-1=((R.count (k:Int):Nat):Int)
   ·rw[Z0 h4,Z0 oq]
   rw[ZZ h4,ZZ oq]
  simp only[ZZ h,Nat.add_zero];have hne:¬((k:Int) == (t:Int))=true:=fun h2=>by have:=eq_of_beq h2;omega
  by_cases h0:s.many.getD k 0-1=0
  ·rw[Z0 h0,(Vd _ _).count_eq,List.count_cons,ZZ hne];rfl
  rw[ZZ h0]
structure yn (f:FD) (s:WS) (l:List Int):Prop where
 ok:WOk f.tasks.length s
 rd:∀x t:Nat,x<f.tasks.length→t<f.tasks.length→(s.rd.getD x []).count (t:Int)=(YZ f t).count (x:Int)
 many:∀t:Nat,t<f.tasks.length→s.many.getD t 0=(((YZ f t).countP (fun y=>decide (y∉l)):Nat):Int)
 inn:∀t:Nat,t<f.tasks.length→(((t:Int)∈s.q∨(t:Int)∈l)↔∀y∈YZ f t,y∈l)
 nd:∀t:Nat,t<f.tasks.length→s.q.count (t:Int)+l.count (t:Int)≤1
 rng:∀x∈l,0≤x∧x<(f.tasks.length:Int)
 top:∀(i:Nat)(x:Int),l[i]?=some x→∀y∈YZ f x.toNat,y∈l.take i
theorem countP_split(h:List Int)(l:List Int)(x:Int)(j:x∉l):h.countP (fun y=>decide (y∉l))=h.countP (fun y=>decide (y∉l++[x]))+h.count x:=by
 induction h with
 | nil=>rfl
 | cons a h ih =>
  rw[List.countP_cons,List.countP_cons,List.count_cons,ih];by_cases f:a=x
  ·subst f;simp[j];omega
  by_cases g:a∈l
  ·simp[g,f]
  simp[g,f];omega
theorem yn.next{f:FD}{s:WS}{l:List Int}(h:yn f s l)(hq:s.q≠[]):yn f (YK s).2 (l++[(YK s).1]):=by
 have hp:=ZaE hq;have hn:=h.ok.next hq;have ah:(YK s).1=(XL s.q).1:=rfl;have af:(YK s).2=(s.rd.getD (XL s.q).1.toNat []).foldl YC ⟨(XL s.q).2,s.many,s.rd⟩:=rfl;obtain⟨Z,v⟩:=hn;rw[ah] at Z ⊢;rw[af] at v ⊢;have E:=EH hq h.ok.q;obtain⟨x,hx⟩:=ez ((XL s.q).1);obtain⟨G,Y⟩:=ez ((XL s.q).2);rw[hx,Y] at hp E;rw[hx] at Z v ⊢;rw[Y] at v ⊢;obtain⟨k,rfl⟩:∃k:Nat,x=(k:Int):=⟨x.toNat,oq⟩;have O:k<f.tasks.length:=oq;simp only[ZP] at v ⊢;have I:∀t:Nat,s.q.count (t:Int)=G.count (t:Int)+(if k=t then 1 else 0):=fun t=>by
  rw[←hp.count_eq,List.count_cons];by_cases e:k=t
  ·subst e;simp
  rw[ZZ e,ZZ];intro R;have:=eq_of_beq R;omega
 have A:(k:Int)∉l:=fun hm=>by
  have:=h.nd k O;rw[I k,Z0 rfl] at this;have:=List.count_pos_iff.2 hm;omega
 have F:∀t:Nat,((t:Int)∈s.q↔(t:Int)∈G∨t=k):=fun t=>by
  rw[←hp.mem_iff,ZQ];constructor
  ·rintro (g|g)
   ·exact .inr oq
   exact .inl g
  rintro (g|g)
  ·exact .inr g
  exact .inl oq
 have U:=ZcF h.ok k;have ae:∀t:Nat,t<f.tasks.length→(((s.rd.getD k []).count (t:Int):Nat):Int)≤s.many.getD t 0:=fun t ht=>by
  rw[h.rd k t O ht,h.many t ht,countP_split _ l (k:Int) A];omega
 obtain⟨r1,r2,r3⟩:=jL (T:=f.tasks.length) (s.rd.getD k []) ⟨G,s.many,s.rd⟩ ⟨E.2,h.ok.many,h.ok.rd,h.ok.rds⟩ U ae;have J:∀t:Nat,t<f.tasks.length→((s.rd.getD k []).foldl YC ⟨G,s.many,s.rd⟩).many.getD t 0=(((YZ f t).countP (fun y=>decide (y∉l++[(k:Int)])):Nat):Int):=fun t ht=>by
  rw[r2 t ht,h.rd k t O ht];show s.many.getD t 0-_=_;rw[h.many t ht,countP_split _ l (k:Int) A];omega
 have hz:∀t:Nat,t<f.tasks.length→(((YZ f t).countP (fun y=>decide (y∉l++[(k:Int)]))=0)↔∀y∈YZ f t,y∈l++[(k:Int)]):=fun t ht=>by
  rw[List.countP_eq_zero];simp only[Yi,Decidable.not_not]
 have D:∀t:Nat,t<f.tasks.length→(((YZ f t).countP (fun y=>decide (y∉l))=0)↔∀y∈YZ f t,y∈l):=fun t ht=>by
  rw[List.countP_eq_zero];simp only[Yi,Decidable.not_not]
 refine⟨v,fun x t hx ht=>by rw[r1];exact h.rd x t hx ht,J,fun t ht=>?_,fun t ht=>?_,?_,?_⟩
 ·have ag:=countP_split (YZ f t) l (k:Int) A;have H:=r3 t ht;have L:=h.rd k t O ht;have C:=h.many t ht;have m:=h.inn t ht;rw[F t] at m;rw[←hz t ht];constructor
  ·rintro (g|g)
   ·have g:=List.count_pos_iff.2 g;rw[H] at g;by_cases j:0<(s.rd.getD k []).count (t:Int)∧s.many.getD t 0=(((s.rd.getD k []).count (t:Int):Nat):Int)
    ·have:=j.2;rw[L,C] at this;omega
    rw[show(⟨G,s.many,s.rd⟩:WS).many=s.many from rfl,ZZ j] at g;have:=(D t ht).2 (m.1 (.inl (.inl (List.count_pos_iff.1 (by simpa using g)))));omega
   rw[List.mem_append,List.mem_singleton] at g;have:=(D t ht).2 (m.1 (by
    rcases g with g|g
    ·exact .inr g
    exact .inl (.inr oq)))
   omega
  intro h0;by_cases ab:(YZ f t).countP (fun y=>decide (y∉l))=0
  ·rcases m.2 ((D t ht).1 ab) with (g|g)|g
   ·refine .inl (List.count_pos_iff.1 ?_);rw[H];have:=List.count_pos_iff.2 g;show 0<G.count (t:Int)+_;omega
   ·exact .inr (by rw[g];simp)
   exact .inr (by simp[g])
  refine .inl (List.count_pos_iff.1 ?_);rw[H,Z0]
  ·omega
  show _∧s.many.getD t 0=_;rw[C,L];omega
 ·rw[r3 t ht,List.count_append];have g:=h.nd t ht;rw[I t] at g;have L:=h.rd k t O ht;have C:=h.many t ht;have ag:=countP_split (YZ f t) l (k:Int) A;show G.count (t:Int)+_+_≤1;have M:List.count (t:Int) [(k:Int)]=if k=t then 1 else 0:=by
   rw[List.count_singleton];by_cases e:k=t
   ·subst e;simp
   rw[ZZ e,ZZ];intro R;have:=eq_of_beq R;omega
  rw[M];by_cases j:0<(s.rd.getD k []).count (t:Int)∧(⟨G,s.many,s.rd⟩:WS).many.getD t 0=(((s.rd.getD k []).count (t:Int):Nat):Int)
  ·rw[Z0 j];have R:s.many.getD t 0=(((s.rd.getD k []).count (t:Int):Nat):Int):=j.2;have ai:=j.1;have X:¬∀y∈YZ f t,y∈l:=fun hc=>by
    have:=(D t ht).2 hc;rw[C] at R;omega
   have m:=h.inn t ht;have h3:¬(t:Int)∈s.q:=fun hm=>X (m.1 (.inl hm))
   have h4:¬(t:Int)∈l:=fun hm=>X (m.1 (.inr hm))
   have h5:=List.count_eq_zero.2 h3;have h6:=List.count_eq_zero.2 h4;rw[I t] at h5;omega
  rw[ZZ j];omega
 ·intro y hy;rcases List.mem_append.1 hy with hy|hy
  ·exact h.rng y hy
  rw[List.mem_singleton.1 hy];omega
 intro i y hi z aa;by_cases ac:i<l.length
 ·rw[List.getElem?_append_left ac] at hi;rw[List.take_append_of_le_length oq];exact h.top i y hi z aa
 have V:=(Zz.1 hi).1;rw[Zw,List.length_singleton] at V;obtain rfl:i=l.length:=oq;rw[List.getElem?_append_right (Zc _),Nat.sub_self] at hi;injection hi with hi
 subst hi;rw[List.take_left];exact(h.inn k O).1 (.inl ((F k).2 (.inr rfl))) z aa
theorem KQ{T:Nat}{t:Nat}(ht:t<T):∀(H:List Int)(r:List (List Int)),r.length=T→(∀x∈H,0≤x∧x<(T:Int))→(H.foldl (addR t) r).length=T∧∀x u:Nat,x<T→((H.foldl (addR t) r).getD x []).count (u:Int)=(r.getD x []).count (u:Int)+(if u=t then H.count (x:Int) else 0)
 | [],r,hr,_=>⟨hr,fun x u _=>by simp⟩
 | a::H,r,hr,hH=>by
  have ha:=hH a (by simp);obtain⟨k,rfl⟩:∃k:Nat,a=(k:Int):=⟨a.toNat,oq⟩;have hl:(addR t r (k:Int)).length=T:=by unfold addR;rw[List.length_set];exact hr
  obtain⟨q,v⟩:=KQ ht H (addR t r (k:Int)) hl (fun x hx=>hH x (by simp[hx]));refine⟨q,fun x u hx=>?_⟩;show((H.foldl (addR t) (addR t r (k:Int))).getD x []).count (u:Int)=_;rw[v x u hx];have e:(addR t r (k:Int)).getD x []=if k=x then r.getD k []++[(t:Int)] else r.getD x []:=by
   unfold addR;simp only[ZP];exact Ed _ _ _ _ _ oq
  rw[e,List.count_cons];by_cases f:k=x
  ·subst f;rw[Z0 rfl,List.count_append,List.count_singleton];by_cases m:u=t
   ·subst m;simp;omega
   rw[ZZ m,ZZ m,ZZ];intro g;have:=eq_of_beq g;omega
  rw[ZZ f];have j:¬((k:Int) == (x:Int))=true:=fun g=>by have:=eq_of_beq g;omega
  rw[ZZ j,Nat.add_zero]
theorem qP(f:FD):∀n,n≤f.tasks.length →
  (∀x t:Nat,x<f.tasks.length→t<f.tasks.length→((Xg f n).rd.getD x []).count (t:Int)=if t<n then (YZ f t).count (x:Int) else 0) ∧
  (∀t:Nat,t<f.tasks.length→(Xg f n).many.getD t 0=if t<n then ((YZ f t).length:Int) else 0) ∧
  (∀t:Nat,t<f.tasks.length→(Xg f n).q.count (t:Int)=if t<n∧YZ f t=[] then 1 else 0)
 | 0,_=>by
  refine⟨fun x t hx _=>?_,fun t ht=>?_,fun t _=>by simp[Xg]⟩
  ·have:((Xg f 0).rd.getD x [])=[]:=by simp[Xg,Zf,List.getElem?_replicate,hx]
   rw[this];simp
  simp[Xg,Zf,List.getElem?_replicate,ht]
 | n+1,h=>by
  obtain⟨G,H,D⟩:=qP f n oq;have A:n<f.tasks.length:=oq;have v:=V1 f n oq;have hd:f.tasks[n]?=some f.tasks[n]:=Ze A;have z:=VY hd;rw[QO,Jl hd];obtain⟨I,E⟩:=KQ A (Y3 f f.tasks[n]) (Xg f n).rd v.rd (fun x hx=>Ee x hx);refine⟨fun x t hx ht=>?_,fun t ht=>?_,fun t ht=>?_⟩
  ·show(((Y3 f f.tasks[n]).foldl (addR n) (Xg f n).rd).getD x []).count (t:Int)=_;rw[E x t hx,G x t hx ht];by_cases e:t=n
   ·subst e;rw[ZZ oq,Z0 rfl,Z0 oq,z];omega
   rw[ZZ e];by_cases g:t<n
   ·rw[Z0 g,Z0 oq];rfl
   rw[ZZ g,ZZ oq]
  ·show((Xg f n).many.set n ((Y3 f f.tasks[n]).length:Int)).getD t 0=_;rw[Ed _ _ _ _ _ (by rw[v.many];exact A)];by_cases e:n=t
   ·subst e;rw[Z0 rfl,Z0 oq,z]
   rw[ZZ e,H t ht];by_cases g:t<n
   ·rw[Z0 g,Z0 oq]
   rw[ZZ g,ZZ oq]
  show(if Y3 f f.tasks[n]=[] then QB (Xg f n).q (n:Int) else (Xg f n).q).count (t:Int)=_;by_cases e:t=n
  ·subst e;have j:=D t ht;rw[ZZ oq] at j;by_cases y:Y3 f f.tasks[t]=[]
   ·rw[Z0 y,(Vd _ _).count_eq,List.count_cons_self,j,Z0 ⟨oq,by rw[z];exact y⟩]
   rw[ZZ y,j,ZZ (fun m=>y (by rw[←z];exact m.2))]
  have C:¬((n:Int) == (t:Int))=true:=fun h4=>by have:=eq_of_beq h4;omega
  have F:(if Y3 f f.tasks[n]=[] then QB (Xg f n).q (n:Int) else (Xg f n).q).count (t:Int)=(Xg f n).q.count (t:Int):=by
   split
   ·rw[(Vd _ _).count_eq,List.count_cons,ZZ C,Nat.add_zero]
   rfl
  rw[F,D t ht];by_cases m:t<n∧YZ f t=[]
  ·rw[Z0 m,Z0 ⟨oq,m.2⟩]
  rw[ZZ m,ZZ (fun h5=>m ⟨oq,h5.2⟩)]
theorem gI(f:FD):Gq f=Xg f f.tasks.length:=rfl
theorem qQ(f:FD):yn f (Gq f) []:=by
 obtain⟨z,A,m⟩:=qP f _ (Zc _);rw[gI];have j:=V1 f f.tasks.length (Zc _);refine⟨j,fun x t hx ht=>by rw[z x t hx ht,Z0 ht],fun t ht=>?_,fun t ht=>?_,fun t ht=>?_,(fun x hx=>by cases hx),(fun i x hi=>by simp at hi)⟩
 ·rw[A t ht,Z0 ht];simp
 ·have q:=m t ht;constructor
  ·rintro (g|g)
   ·have:=List.count_pos_iff.2 g;rw[q] at this;by_cases v:t<f.tasks.length∧YZ f t=[]
    ·rw[v.2];intro y hy;cases hy
    rw[ZZ v] at this;omega
   cases g
  intro g;have C:YZ f t=[]:=by
   cases hh:YZ f t with
   | nil=>rfl
   | cons a _=>rw[hh] at g;exact absurd (g a (by simp)) (by simp)
  rw[Z0 ⟨ht,C⟩] at q;exact .inl (List.count_pos_iff.1 oq)
 rw[m t ht];simp only[List.count_nil,Nat.add_zero];split<;>omega
theorem EA{f:FD}:∀(n:Nat)(s:WS)(l:List Int),yn f s l→∃s',yn f s' (Y4 n s l)
 | 0,s,l,h=>⟨s,h⟩
 | n+1,s,l,h=>by
  rw[Y4];split
  ·exact⟨s,h⟩
  rename_i hq
  exact EA n _ _ (h.next hq)
structure UC (f:FD) (l:List Int):Prop where
 rng:∀x∈l,0≤x∧x<(f.tasks.length:Int)
 nd:l.Nodup
 all:∀t:Nat,t<f.tasks.length→(t:Int)∈l
 top:∀(i:Nat)(x:Int),l[i]?=some x→∀y∈YZ f x.toNat,y∈l.take i
theorem Ga{f:FD}{l:List Int}(h:ofP f=some l):UC f l:=by
 unfold ofP at h;split at h
 ·cases h
 rename_i hlen
 cases h
 obtain⟨A,g⟩:=EA (f:=f) (muW (Gq f)) (Gq f) [] (qQ f);obtain⟨l,z⟩:=ez (Y4 (muW (Gq f)) (Gq f) []);rw[z] at g hlen ⊢;have j:l.Nodup:=by
  rw[List.nodup_iff_count];intro a;by_cases q:a∈l
  ·have:=g.rng a q;obtain⟨k,rfl⟩:∃k:Nat,a=(k:Int):=⟨a.toNat,oq⟩;have:=g.nd k oq;omega
  rw[List.count_eq_zero.2 q];omega
 refine⟨g.rng,j,fun t ht=>?_,g.top⟩;apply Yf;intro m;have v:((t:Int)::l).Nodup:=List.nodup_cons.2 ⟨m,j⟩;have x:=List.Nodup.length_le_of_subset (l₂:=(List.range f.tasks.length).map (fun k:Nat=>(k:Int))) v (by
  intro y hy;rcases ZQ.1 hy with rfl|hy
  ·exact Yc.2 ⟨t,List.mem_range.2 ht,rfl⟩
  have:=g.rng y hy;exact Yc.2 ⟨y.toNat,List.mem_range.2 oq,oq⟩)
 rw[Zp,Zo,List.length_range] at x;omega
end Go.Proofs.YtdgifkjaflfdeaaGreatDoor.syn
