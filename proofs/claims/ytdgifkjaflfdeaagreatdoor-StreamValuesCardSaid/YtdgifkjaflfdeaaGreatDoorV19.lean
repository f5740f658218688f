/- Parts of the proof. -/
import Derived.Test.YtdgifkjaflfdeaaGreatDoorV18
set_option linter.all false
set_option maxRecDepth 100000
set_option maxHeartbeats 16000000
namespace Go.Proofs.YtdgifkjaflfdeaaGreatDoor.syn
open Tryz
open Go.RowKit Go.Shelf
abbrev Op3:Type:=Int × Int × Int
def opL(o:Op3):List Value:=[.int .i64 o.1,.int .i64 o.2.1,.int .i64 o.2.2]
def QA:List Op3→List Value
 | []=>[]
 | o::l=>.int .i64 o.1::.int .i64 o.2.1::.int .i64 o.2.2::QA l
theorem EE:∀l:List Op3,(QA l).length=l.length*3
 | []=>rfl
 | o::l=>by simp only[QA,Zp,EE l];omega
theorem qX:∀a b:List Op3,QA (a++b)=QA a++QA b
 | [],b=>rfl
 | o::a,b=>by simp only[ZB,QA,qX a b]
theorem ED:∀(l:List Op3)(t:Nat),t<l.length*3→(QA l)[t]?=some ((opL (l[t/3]!))[t%3]!)
 | [],t,h=>by simp at h
 | o::l,0,h=>rfl
 | o::l,1,h=>rfl
 | o::l,2,h=>rfl
 | o::l,t+3,h=>by
  have e1:(t+3)/3=t/3+1:=oq;have e2:(t+3)%3=t%3:=oq;simp only[QA,List.getElem?_cons_succ,e1,e2];rw[ED l t (by simp only[Zp] at h;omega)];simp
theorem ZbS(l:List Op3):(Go.Sort.flatK opL 3 l.toArray).toList=QA l:=by
 apply List.ext_getElem?;intro t;by_cases h:t<l.length*3
 ·rw[ED l t h];have f:t<(Go.Sort.flatK opL 3 l.toArray).size:=by simpa using h
  have g:=Go.Sort.get_flatK opL 3 l.toArray t (by simpa using h);rw[getElem!_pos _ t f] at g;rw[Array.getElem?_toList,Yl f,g];simp
 rw[Ya (by simp;omega),Ya (by rw[EE];omega)]
theorem ZgE:∀w,(isAgg 183).run prog w=.ok true w:=fun w=>by kernel_rfl
theorem Zf0:∀w,(Go.sizeOf 183).run prog w=.ok 3 w:=fun w=>by kernel_rfl
theorem jN{w:World}{base:Nat}{v:Value}{f:List Op3}(h:w.ownsRow base 183 3 v f.length (QA f))(Z:f.length≤1000)(R:f≠[]) :
  Calls prog 199 #[v] w fun e w'=>e=.returned (.tuple #[])∧w'.ownsRow base 183 3 v f.length (QA f.reverse)∧w.grownBy w' v.ownBlock:=by
 obtain⟨g,cap,rfl,hb,X⟩:=h.form (List.length_pos_iff.2 R);have L:Go.Sort.HoldsK opL 3 w g 0 f.toArray:=by
  intro j M;have m:j<f.length*3:=by simpa using M
  refine⟨?_,?_⟩
  ·rw[ZC,h.cellAt j m,ED f j m,Go.Sort.get_flatK opL 3 f.toArray j (by simpa using m)];simp
  rw[ZC];exact h.frozenAt j
 refine(Tryz.slices_Reverse 3 ZgE Zf0 opL (fun _=>rfl) (fun x v C=>by simp[opL] at C;rcases C with rfl|rfl|rfl<;>rfl) g 0 cap f.toArray w L (by simp;omega)).mono ?_;rintro e w' ⟨rfl,n,rfl⟩;obtain⟨V,E|⟨U,J,D,C,F,H,z,G,y,T⟩⟩:=h
 ·obtain⟨E,_⟩:=E;cases E
 cases C
 refine⟨rfl,⟨by rw[EE,List.length_reverse],.inr ⟨g,cap,Go.Sort.putCells id 0 (Go.Sort.flatK opL 3 f.toArray.reverse) D,rfl,F,?_,z,G,?_,?_⟩⟩,⟨rfl,rfl,rfl,?_,?_⟩⟩
 ·simp[Go.Sort.putRowK,Go.Sort.putRow,Go.Sort.mapBlock,Go.Sort.ahead,Array.getElem?_modify,H,Go.Sort.onCells]
 ·simp[Go.Sort.putCells,y]
 ·rw[←ZbS,show f.reverse.toArray=f.toArray.reverse by simp];apply List.ext_getElem?;intro t;have O:=Nat.mul_le_mul_right 3 z;by_cases ht:t<f.length*3
  ·rw[Ym ht,Array.getElem?_toList,Array.getElem?_toList];have q:t<(Go.Sort.flatK opL 3 f.toArray.reverse).size:=by simpa using ht
   rw[Yl q];unfold Go.Sort.putCells;rw[Array.getElem?_mapIdx,Yl (by rw[y];omega)];simp only[Option.map_some,Zk,ZC,true_and,Nat.sub_zero,id];rw[Z0 q,getElem!_pos _ t q]
  rw[Ya (by simp;omega),Ya (by simp;omega)]
 ·simp[Go.Sort.putRowK,Go.Sort.putRow,Go.Sort.mapBlock,Go.Sort.ahead]
 intro k Y I;have A:¬g=k:=fun e=>I (by rw[←e];rfl)
 simp[Go.Sort.putRowK,Go.Sort.putRow,Go.Sort.mapBlock,Go.Sort.ahead,Array.getElem?_modify,A]
theorem xh{w:World}{f:Option Addr}{cap:Nat} :
  Calls prog 199 #[.slice f 0 cap] w fun e w'=>e=.returned (.tuple #[])∧w'=w:=by
 go_enter func199,ntmps199;go_wp2;go_loopw [2,3] (fun a b wr=>a=.int .i64 0∧b=.int .i64 (-1)∧wr=w) (fun _ _ _=>0)
 case atStart=>exact⟨rfl,rfl,rfl⟩
 obtain⟨rfl,rfl,rfl⟩:=hrel;go_wp2;go_end0;exact⟨rfl,rfl⟩
noncomputable def En(P:Nat→Prop):Nat:=@Classical.epsilon Nat ⟨0⟩ (fun n=>P n∧∀m,P m→n≤m)
theorem K5{P:Nat→Prop}(h:∃n,P n):P (En P)∧∀m,P m→En P≤m:=by
 refine Classical.epsilon_spec (p:=fun n=>P n∧∀m,P m→n≤m) ?_;obtain⟨n,q⟩:=h
 induction n using Nat.strongRecOn with
 | _ n ih =>
  by_cases j:∃m,m<n∧P m
  ·obtain⟨m,f,g⟩:=j;exact ih m f g
  exact⟨n,q,fun m g=>Nat.le_of_not_lt (fun f=>j ⟨m,f,g⟩)⟩
def Xr(flows:List FL)(nI:Nat)(xIx fIx iIx:IE):Nat→PE→ByteArray→List Op3→Option (Nat × List Op3)
 | 0,_,_,_=>none
 | N+1,e,way,ops =>
  if 20<ops.length then some (0,ops)
  else if e.k=2 then some (nI+(xIx way).getD 0,ops)
  else if e.k≠1 then (match e.args.at 0 with
   | some c=>Xr flows nI xIx fIx iIx N c (way++⟨#[47]⟩++dg 0) (ops++[(e.k,e.n,e.d)])
   | none=>none)
  else match fIx e.nm with
   | some j=>(match flows[j]? with
    | some f=>Xr flows nI xIx fIx iIx N f.e (dg j) ops
    | none=>none)
   | none=>some ((iIx e.nm).getD 0,ops)
def Xd(flows:List FL)(nI:Nat)(xIx fIx iIx:IE)(e:PE):Prop:=∃N,∀way ops,Xr flows nI xIx fIx iIx N e way ops≠none
section
variable {flows:List FL} {nI:Nat} {xIx fIx iIx:IE}
theorem UJ{e:PE}(h:e.k=2):Xd flows nI xIx fIx iIx e:=⟨1,fun way ops=>by
 rw[Xr];by_cases hl:20<ops.length
 ·rw[Z0 hl];exact Option.some_ne_none _
 rw[ZZ hl,Z0 h];exact Option.some_ne_none _⟩
theorem GU{e c:PE}(j:e.k≠2)(g:e.k≠1)(q:e.args.at 0=some c)(h:Xd flows nI xIx fIx iIx c):Xd flows nI xIx fIx iIx e:=by
 obtain⟨N,m⟩:=h;refine⟨N+1,fun way ops=>?_⟩;rw[Xr];by_cases f:20<ops.length
 ·rw[Z0 f];exact Option.some_ne_none _
 rw[ZZ f,ZZ j,Z0 g,q];exact m _ _
theorem UK{e:PE}(v:e.k=1)(h:∀j,fIx e.nm=some j→∃f,flows[j]?=some f∧Xd flows nI xIx fIx iIx f.e):Xd flows nI xIx fIx iIx e:=by
 cases hf:fIx e.nm with
 | none =>
  refine⟨1,fun way ops=>?_⟩;rw[Xr];by_cases g:20<ops.length
  ·rw[Z0 g];exact Option.some_ne_none _
  rw[ZZ g,ZZ oq,ZZ oq,hf];exact Option.some_ne_none _
 | some j =>
  obtain⟨f,m,N,q⟩:=h j hf;refine⟨N+1,fun way ops=>?_⟩;rw[Xr];by_cases g:20<ops.length
  ·rw[Z0 g];exact Option.some_ne_none _
  rw[ZZ g,ZZ oq,ZZ oq,hf];simp only[m];exact q _ _
theorem Gw:∀{l:PL},l.len=1→∃k nm n d args a,l=.cons k nm n d args a .nil
 | .cons k nm n d args a .nil,_=>⟨k,nm,n,d,args,a,rfl⟩
 | .cons _ _ _ _ _ _ (.cons _ _ _ _ _ _ _),h=>by simp only[PL.len] at h;omega
 | .nil,h=>by simp only[PL.len] at h;omega
theorem eY{env:Env}(A:∀nm,env nm≠none→∀j,fIx nm=some j→∃f,flows[j]?=some f∧Xd flows nI xIx fIx iIx f.e) :
  ∀(M:Nat)(e:PE),e.args.sz<M→YA e=true→∀p q,YY env e=.ok p q→Xd flows nI xIx fIx iIx e:=by
 intro M
 induction M with
 | zero=>intro e h;omega
 | succ M ih =>
  intro e E hex p q ht;by_cases x:e.k=2
  ·exact UJ x
  by_cases v:e.k=1
  ·refine UK v (A e.nm ?_);intro z;unfold YY Xe at ht;rw[Z0 v,z] at ht
   cases ht
  obtain⟨k,nm,n,d,args,a,g⟩:=Gw ((GB hex).2.2 v x);have y:e.args.at 0=some ⟨k,nm,n,d,args,a⟩:=by rw[g];rfl
  have m:∃p q,YY env ⟨k,nm,n,d,args,a⟩=.ok p q:=by
   unfold YY at ht;unfold Xe at ht;rw[ZZ v,g] at ht;unfold YY;simp only[YS] at ht
   cases h3:Xe env k nm n d a (YS env args) with
   | ok p1 q1=>exact⟨p1,q1,rfl⟩
   | unk=>rw[h3] at ht;cases ht
   | bad a1 e1=>rw[h3] at ht;cases ht
  obtain⟨C,D,m⟩:=m;refine GU x v y (ih _ ?_ (VA hex y) C D m);have:=(KR _ _ _ y).2;omega
theorem vZ{Xa env:Env}(A:GrE Xa flows env)(C:∀nm,Xa nm≠none→fIx nm=none)(F:∀f∈flows,YA f.e=true)(E:∀i j (hi:i<flows.length) (g:j<flows.length),flows[i].nm=flows[j].nm→i=j)
  (D:∀nm j,fIx nm=some j→∃h:j<flows.length,flows[j].nm=nm):∀nm,env nm≠none→∀j,fIx nm=some j→∃f,flows[j]?=some f∧Xd flows nI xIx fIx iIx f.e:=by
 induction A with
 | base=>intro nm z j g;rw[C nm z] at g;cases g
 | step A hf hnone ht ih =>
  rename_i env1 f p q
  intro nm z j g;obtain⟨v,y⟩:=D nm j g;by_cases x:nm=f.nm
  ·obtain⟨i,hi,m⟩:=Yk hf;obtain rfl:i=j:=E i j hi v (by rw[m,y,x]);exact⟨f,by rw[Ze v,m],eY ih _ f.e (ZU _) (F f hf) p q ht⟩
  refine ih nm (fun h=>z ?_) j g;unfold upd;rw[ZZ x];exact h
theorem ZbF(x:∀nm j,fIx nm=some j→∃f,flows[j]?=some f∧Xd flows nI xIx fIx iIx f.e):∀(M:Nat)(e:PE),e.args.sz<M→YA e=true→Xd flows nI xIx fIx iIx e:=by
 intro M
 induction M with
 | zero=>intro e h;omega
 | succ M ih =>
  intro e y hex;by_cases q:e.k=2
  ·exact UJ q
  by_cases m:e.k=1
  ·exact UK m (x e.nm)
  obtain⟨k,nm,n,d,args,a,g⟩:=Gw ((GB hex).2.2 m q);have v:e.args.at 0=some ⟨k,nm,n,d,args,a⟩:=by rw[g];rfl
  refine GU q m v (ih _ ?_ (VA hex v));have:=(KR _ _ _ v).2;omega
end
theorem qB{P:Nat→Prop}{N M:Nat}(f:N=M+1)(h:P M):En P<N:=by
 have:=(K5 ⟨M,h⟩).2 M h;omega
theorem VH{w:World}{base:Nat}{v:Value}{f:List Op3}(h:w.ownsRow base 183 3 v f.length (QA f))(m:f.length≤1000) :
  Calls prog 199 #[v] w fun e w'=>e=.returned (.tuple #[])∧w'.ownsRow base 183 3 v f.length (QA f.reverse)∧w.grownBy w' v.ownBlock:=by
 cases f with
 | nil =>
  obtain⟨j,cap,rfl⟩:∃j cap,v=.slice j 0 cap:=by
   rcases h.2 with ⟨rfl,_⟩|⟨g,cap,cur,rfl,_⟩
   ·exact⟨none,0,rfl⟩
   exact⟨_,cap,rfl⟩
  refine xh.mono ?_;rintro e w' ⟨rfl,rfl⟩;exact⟨rfl,h,World.grownBy.refl _ _⟩
 | cons o l=>exact jN h m (by simp)
theorem Zak:(prog.info? 183).map (fun i=>(i.zero,i.size,i.bytes))=some (some (.agg #[.int .i64 0,.int .i64 0,.int .i64 0]),3,24):=by kernel_rfl
theorem Q1{T K E:TypeId}{z:Value}(M:XP T K E z)(w:World){f:Array Oper}{rest:List Oper}{o:Oper}{a:Act}{Q:Act→Prop}
  (q:o.guard=none)(m x:Operand)(c:Bool)(j:o.op=Op.lookup T m x c)(mb:Nat)(L:List (ByteArray × Value))(k:ByteArray)
  (v:a.eval m=.map (some mb))(C:a.eval x=.string k)(h:YP w mb L)(u:Value)(y:(if c then .tuple #[(Xb k L).getD z,.bool (Xb k L).isSome] else (Xb k L).getD z)=u)
  (hK:wpStill prog f w Q rest (a.put o.dst u)):wpStill prog f w Q (o::rest) a:=by
 refine wpStill_step fun K' hK'=>?_
 have g:=XN M h k c;have e:(execOp a.eval o).run prog w=.ok (.value u) w:=by
  rw[←y];simp[execOp,j,v,C,g]
 have A:Region.wanted o (yielded f a.tmps)=true:=by simp[Region.wanted,q]
 rw[Z0 A];unfold Oper.still;rw[e];exact⟨rfl,hK' _ hK⟩
def U9(e:PE)(ad:Option Addr)(cap:Nat)(way:ByteArray):Obj:=.cells #[.int .i64 e.k,.string e.nm,.int .i64 e.n,.int .i64 e.d,.slice ad e.args.len cap,.int .i64 e.a,.string way] 250 (0,0)
structure xz (W0 w:World) (flows:List FL) (nI:Nat) (xIx fIx iIx:IE) (res:Nat × List Op3) (N:Nat) (wr:World) (e:PE) (way:ByteArray) (ad:Option Addr) (cap:Nat) (ops:List Op3) (v:Value):Prop where
 go:Xr flows nI xIx fIx iIx N e way ops=some res
 sp:Qt W0 e ad cap way
 b0:wr.heap[w.heap.size]?=some (U9 e ad cap way)
 b1:wr.heap[w.heap.size+1]?=some (.cells #[.int .i64 0,.slice none 0 0] 92 (0,0))
 b2:wr.heap[w.heap.size+1+1]?=some (.cells #[.int .i64 0,v] 92 (0,0))
 own:wr.ownsRow (w.heap.size+3) 183 3 v ops.length (QA ops)
 low:Below w.heap.size w wr
 size:w.heap.size+3≤wr.heap.size
 few:ops.length≤21
def AoN(W0 w:World)(flows:List FL)(nI:Nat)(xIx fIx iIx:IE)(res:Nat × List Op3)(wr:World)(N:Nat):Prop:=∃e way ad cap ops v,xz W0 w flows nI xIx fIx iIx res N wr e way ad cap ops v
theorem ZeY{w:World}{b:Nat}{v0 v1:Value}{t:TypeId}(h:w.heap[b]?=some (.cells #[v0,v1] t (0,0)))(u:Value):(w.setCell ⟨b,0,none⟩ u).heap[b]?=some (.cells #[u,v1] t (0,0)):=Zj w b 0 _ t u h
structure Zg8 (w wx:World) (sv:Value) (v:Value) (ops:List Op3) (wv:World):Prop where
 own:wv.ownsRow (w.heap.size+3) 183 3 v ops.length (QA ops.reverse)
 b1:wv.heap[w.heap.size+1]?=some (.cells #[.int .i64 0,.slice none 0 0] 92 (0,0))
 b2:wv.heap[w.heap.size+1+1]?=some (.cells #[sv,v] 92 (0,0))
 low:Below w.heap.size w wv
 size:w.heap.size+3≤wv.heap.size
theorem ZfW{w g x:World}{z v:Value}{f:List Op3}(C:g.ownsRow (w.heap.size+3) 183 3 v f.length (QA f))(hb1:g.heap[w.heap.size+1]?=some (.cells #[.int .i64 0,.slice none 0 0] 92 (0,0)))(hb:g.heap[w.heap.size+1+1]?=some (.cells #[z,v] 92 (0,0)))(m:Below w.heap.size w g)(y:w.heap.size+3≤g.heap.size)
  (A:x.ownsRow (w.heap.size+3) 183 3 v f.length (QA f.reverse))(j:g.grownBy x v.ownBlock):Zg8 w g z v f x:=by
 have q:∀k,k<w.heap.size+3→x.heap[k]?=g.heap[k]?:=fun k q=>j.block k oq (fun e=>by have:=YW C k e.symm;omega)
 exact⟨A,(q _ oq).trans hb1,(q _ oq).trans hb,m.trans ⟨j.os,j.tape,j.output,j.size,fun k hk'=>q k oq⟩,Zm y j.size⟩
theorem ZgZ{w:World}{b:Nat}{u0 u1 u2 u3 u4 u5 u6:Value}{t:TypeId}(h:w.heap[b]?=some (.cells #[u0,u1,u2,u3,u4,u5,u6] t (0,0)))(f g j m q v x:Value) :
  (((((((w.setCell ⟨b,0,none⟩ f).setCell ⟨b,1,none⟩ g).setCell ⟨b,2,none⟩ j).setCell ⟨b,3,none⟩ m).setCell ⟨b,4,none⟩ q).setCell ⟨b,5,none⟩ v).setCell ⟨b,6,none⟩ x).heap[b]?=some (.cells #[f,g,j,m,q,v,x] t (0,0)):=by
 have y:=Zj _ b 0 _ t f h;have z:=Zj _ b 1 _ t g y;have A:=Zj _ b 2 _ t j z;have C:=Zj _ b 3 _ t m A;have D:=Zj _ b 4 _ t q C;have E:=Zj _ b 5 _ t v D;have F:=Zj _ b 6 _ t x E;simpa only [sA,sB,sC] using F
theorem Ze2(w:World)(b:Nat)(v0 v1 v2 v3 v4 v5 v6:Value) :
  Upon b w (((((((w.setCell ⟨b,0,none⟩ v0).setCell ⟨b,1,none⟩ v1).setCell ⟨b,2,none⟩ v2).setCell ⟨b,3,none⟩ v3).setCell ⟨b,4,none⟩ v4).setCell ⟨b,5,none⟩ v5).setCell ⟨b,6,none⟩ v6) :=
 (((((((Upon.refl b w).setAt (Or.inl rfl) _).setAt (Or.inl rfl) _).setAt (Or.inl rfl) _).setAt (Or.inl rfl) _).setAt (Or.inl rfl) _).setAt (Or.inl rfl) _).setAt (Or.inl rfl) _
theorem xz.next{W0 w:World}{f:List FL}{nI:Nat}{xIx q iIx:IE}{y:Nat × List Op3}{N:Nat}{wr:World}{e:PE}{F:ByteArray}{H:Option Addr}{cap:Nat}{x:List Op3}{v:Value}(h:xz W0 w f nI xIx q iIx y N wr e F H cap x v)
  {G W':World}(hb:Below wr.heap.size wr G)(z:Upon w.heap.size G W'){M:Nat}{A:PE}{g:ByteArray}{m:Option Addr}{j:Nat}(D:Xr f nI xIx q iIx M A g x=some y)(E:Qt W0 A m j g)(C:W'.heap[w.heap.size]?=some (U9 A m j g)) :
  xz W0 w f nI xIx q iIx y M W' A g m j x v:=by
 have J:=h.size;have I:=hb.size;exact⟨D,E,C,(z.block _ oq oq).trans ((hb.block _ oq).trans h.b1),(z.block _ oq oq).trans ((hb.block _ oq).trans h.b2),EF (own_below h.own hb) oq z,(h.low.trans (hb.mono oq)).trans (z.below oq (Zc _)),by have:=z.size;omega,h.few⟩
theorem xz.more{W0 w:World}{g:List FL}{nI:Nat}{xIx q iIx:IE}{y:Nat × List Op3}{N:Nat}{wr:World}{e:PE}{F:ByteArray}{H:Option Addr}{cap:Nat}{f:List Op3}{v:Value}(h:xz W0 w g nI xIx q iIx y N wr e F H cap f v)
  {w3 w4:World}(hb:Below wr.heap.size wr w3){ob:Obj}{v':Value}{o:Op3}(A:w4.ownsRow (w.heap.size+3) 183 3 v' (f.length+1) (QA f++[.int .i64 o.1,.int .i64 o.2.1,.int .i64 o.2.2]))(z:(w3.alloc ob).grownBy w4 v.ownBlock)(G:f.length≤20){M:Nat}{res':Nat × List Op3} :
  (∀k,k<w.heap.size+3→w4.heap[k]?=wr.heap[k]?)∧(Below w.heap.size w (w4.setCell ⟨w.heap.size+1+1,1,none⟩ v')∧w.heap.size+3≤(w4.setCell ⟨w.heap.size+1+1,1,none⟩ v').heap.size)∧(∀M e' way' ad' cap',Xr g nI xIx q iIx M e' way' (f++[o])=some y→Qt W0 e' ad' cap' way'→∀w5 W',Below (w4.setCell ⟨w.heap.size+1+1,1,none⟩ v').heap.size (w4.setCell ⟨w.heap.size+1+1,1,none⟩ v') w5→Upon w.heap.size w5 W'→W'.heap[w.heap.size]?=some (U9 e' ad' cap' way')→xz W0 w g nI xIx q iIx y M W' e' way' ad' cap' (f++[o]) v'):=by
 have J:=h.size;have D:=hb.size;have m:∀k,k<w.heap.size+3→w4.heap[k]?=wr.heap[k]?:=fun k hk =>
  (z.block k (by simp;omega) (fun e=>by have:=YW h.own k e.symm;omega)).trans ((Za _ _ _ oq).trans (hb.block k oq))
 have E:w.heap.size+3≤w4.heap.size:=Zm (by simp;omega) z.size;have j:Below w.heap.size w w4:=h.low.trans ⟨z.os.trans hb.os,z.tape.trans hb.tape,z.output.trans hb.output,Zm D (Zm (by simp) z.size),fun k hk=>m k oq⟩;have C:w.heap.size+3≤(w4.setCell ⟨w.heap.size+1+1,1,none⟩ v').heap.size:=Zm E ((Zg 0 w4).setCell (p:=⟨w.heap.size+1+1,1,none⟩) (Zk _) _).size;refine⟨m,⟨j.setCell (p:=⟨w.heap.size+1+1,1,none⟩) (ZV _ 2) _,C⟩,fun M e' way' ad' cap' hgo hsp w5 W' hb5 hu hb0=>?_⟩;have I:=hb5.size;have hb1:(w4.setCell ⟨w.heap.size+1+1,1,none⟩ v').heap[w.heap.size+1]?=some (.cells #[.int .i64 0,.slice none 0 0] 92 (0,0)):=(Zr _ _ _ _ (by simp)).trans ((m _ oq).trans h.b1);have hb2:(w4.setCell ⟨w.heap.size+1+1,1,none⟩ v').heap[w.heap.size+1+1]?=some (.cells #[.int .i64 0,v'] 92 (0,0)):=Zj _ _ _ _ _ _ ((m _ oq).trans h.b2);have x:(w4.setCell ⟨w.heap.size+1+1,1,none⟩ v').ownsRow (w.heap.size+3) 183 3 v' (f++[o]).length (QA (f++[o])):=by
  rw[qX,Zw];exact XU A oq _
 exact⟨hgo,hsp,hb0,(hu.block _ oq oq).trans ((hb5.block _ oq).trans hb1),(hu.block _ oq oq).trans ((hb5.block _ oq).trans hb2),EF (own_below x hb5) oq hu,((j.setCell (p:=⟨w.heap.size+1+1,1,none⟩) (ZV _ 2) _).trans (hb5.mono oq)).trans (hu.below oq (Zc _)),by have:=hu.size;omega,by simp;omega⟩
theorem zr{W0 w:World}(p:PG)(an ai af ao:Option Addr)(cn ci cf co:Nat)(hp:AP W0 p an ai af ao cn ci cf co)(bh:JL p)(mc mi mf mn mx m:Nat)(Lc Li Lf Ln Lx:List (ByteArray × Value))(hM:Mkr W0 p an ai af ao cn ci cf co mc mi mf mn mx m Lc Li Lf Ln Lx w)
  (xIx L iIx:IE)(hX:XC Lx xIx)(hF:XC Lf L)(hI:XC Li iIx)(ck:∀k j,xIx k=some j→j≤1000)(N:Nat)(e:PE)(V:ByteArray)(ad:Option Addr)(cap:Nat)(hs:Qt W0 e ad cap V)(s:Nat)(I:List Op3)(g:Xr p.flows p.ins.length xIx L iIx N e V []=some (s,I)) :
  Calls prog 148 #[.pointer (some ⟨m,0,none⟩),spv e ad cap V] w fun x w'=>(∃v,x=.returned (.agg #[.int .i64 (s:Int),v])∧w'.ownsRow w.heap.size 183 3 v I.length (QA I.reverse))∧Below w.heap.size w w':=by
 have ce:=hM.lt;have cj:=hM.low.size;have dk:=bh.lens;have HM:=hid hM;have HP:=hid hp;have cp:=hid bh;have HX:=hid hX;have HF:=hid hF;have HI:=hid hI;have cr:=hid ck;have HS:=hid hs;have HG:=hid g;clear hM hp bh hX hF hI ck hs g;unfold spv;go_enter func148,ntmps148;go_wp2;obtain⟨W3,T⟩:∃W3,((w.alloc (.cells #[.int .i64 e.k,.string e.nm,.int .i64 e.n,.int .i64 e.d,.slice ad e.args.len cap,.int .i64 e.a,.string V] 250)).alloc (.cells #[.int .i64 0,.slice none 0 0] 92)).alloc (.cells #[.int .i64 0,.slice none 0 0] 92)=W3:=⟨_,rfl⟩;rw[T];have bp:=hid (show AoN W0 w p.flows p.ins.length xIx L iIx (s,I) W3 N from by
  refine⟨e,V,ad,cap,[],.slice none 0 0,HG.out,HS.out,?_,?_,?_,Yd _ _ _ _,?_,?_,by simp⟩
  ·rw[←T];exact(Za _ _ _ (by simp;omega)).trans ((Za _ _ _ (by simp)).trans (Yw w _))
  ·rw[←T];exact(Za _ _ _ (by simp)).trans (by simpa using Yw (w.alloc (.cells #[.int .i64 e.k,.string e.nm,.int .i64 e.n,.int .i64 e.d,.slice ad e.args.len cap,.int .i64 e.a,.string V] 250)) (.cells #[.int .i64 0,.slice none 0 0] 92))
  ·rw[←T];simpa using Yw ((w.alloc (.cells #[.int .i64 e.k,.string e.nm,.int .i64 e.n,.int .i64 e.d,.slice ad e.args.len cap,.int .i64 e.a,.string V] 250)).alloc (.cells #[.int .i64 0,.slice none 0 0] 92)) (.cells #[.int .i64 0,.slice none 0 0] 92)
  ·rw[←T];exact bq
  rw[←T];simp)
 clear T HS HG;go_loopw [] (fun wr=>Hid (∃N,AoN W0 w p.flows p.ins.length xIx L iIx (s,I) wr N)) (fun wr=>En (AoN W0 w p.flows p.ins.length xIx L iIx (s,I) wr))
 case atStart=>exact⟨_,bp.out⟩
 obtain⟨⟨D,y,aa,H,q,v2,hA⟩,ax⟩:=K5 hrel.out;clear hrel bp;obtain⟨N2,be⟩:=ez (En (AoN W0 w p.flows p.ins.length xIx L iIx (s,I) wr));rw[be] at hA ax;obtain⟨G,C,rfl⟩:=YG hA.own;have z:=hid hA;obtain⟨⟨c0,c1⟩,bd⟩:=YJ hA.b2;have dc:=hA.few;have dm:=hA.size;have bo:=hid be;clear hA ax be;obtain⟨i0,bz,ca,cb,cc⟩:=info_parts Zak;have ak:=hid (Zh bz (Zh ca (Zh cb cc)));clear bz ca cb cc;by_cases bu:20<q.length
 ·have cw:¬(q.length:Int)≤20:=oq;obtain⟨M,hM⟩:∃M,N2=M+1:=by
   cases N2 with
   | zero=>have:=z.out.go;rw[Xr] at this;cases this
   | succ M=>exact⟨M,rfl⟩
  have g:=z.out.go;rw[hM,Xr,Z0 bu] at g;injection g with g
  have E:=hid g;clear g;go_wp2_with (go_at_call 199;refine(VH (z.out.own) oq).mono ?_;rintro x wv ⟨rfl,R,O⟩;have A:=ZfW (z.out.own) (z.out.b1) (z.out.b2) (z.out.low) (z.out.size) R O;obtain⟨⟨d0,d1⟩,df⟩:=YJ A.b2;obtain⟨⟨q0,q1⟩,qf⟩:=YJ A.b1;have J:=hid A;have ch:=A.size;clear R O A)
  (refine Zl (v:=.agg #[.int .i64 0,.slice G q.length C]) ?_ rfl ⟨⟨.slice G q.length C,?_,?_⟩,?_⟩;(focus (simp only[results,results148];go_simp));(focus (have g:=E.out;injection g with h1 h2;subst h1;subst h2;first|done|rfl));(focus (have g:=E.out;injection g with h1 h2;subst h1;subst h2;exact Xo (XU (XU J.out.own oq _) oq _) oq));exact((J.out.low.setCell (p:=⟨w.heap.size+1,0,none⟩) (by show w.heap.size≤w.heap.size+1;omega) _).setCell (p:=⟨w.heap.size+1,1,none⟩) (by show w.heap.size≤w.heap.size+1;omega) _))
 have cw:(q.length:Int)≤20:=oq;obtain⟨⟨x0,x1,x2,x3,x4,x5,x6⟩,xf⟩:=Y7 (show wr.heap[w.heap.size]?=some (.cells #[.int .i64 D.k,.string D.nm,.int .i64 D.n,.int .i64 D.d,.slice aa D.args.len H,.int .i64 D.a,.string y] 250 (0,0)) from z.out.b0);have bg:=HM.out.keep (B:=w.heap.size) ce z.out.low;have bb:=hid bg;obtain⟨⟨z0,z1,z2,z3,z4,z5,z6,z7,z8⟩,zf⟩:=Y2 (show wr.heap[m]?=_ from bg.box);clear bg;obtain⟨M,hM⟩:∃M,N2=M+1:=by
  cases N2 with
  | zero=>have:=z.out.go;rw[Xr] at this;cases this
  | succ M=>exact⟨M,rfl⟩
 have g:=z.out.go;rw[hM,Xr,ZZ bu] at g;have bn:=hid hM;clear hM;by_cases U:D.k=2
 ·rw[Z0 U] at g;injection g with g
  have E:=hid g;clear g;rw[U] at x0;go_wp2;refine wp_region_still_tail 14 kq kq ?_;simp only[List.take_succ_cons,List.take_zero,List.drop_succ_cons,List.drop_zero]
  repeat still_step
  refine Q1 gZ _ rfl _ _ false rfl mx Lx y rfl rfl bb.out.x (.int .i64 (((xIx y).getD 0:Nat):Int)) ?_ ?_
  ·rw[HX.out y];cases xIx y<;>rfl
  have cx:(xIx y).getD 0≤1000:=by
   cases hc:xIx y with
   | none=>simp
   | some j=>exact cr.out y j hc
  have av:IntKind.i64.wrap ((p.ins.length:Int)+(((xIx y).getD 0:Nat):Int))=((p.ins.length+(xIx y).getD 0:Nat):Int):=by rw[ZJ _ oq];omega
  obtain⟨sx,aj⟩:=ez (p.ins.length+(xIx y).getD 0);obtain⟨nx,cg⟩:=ez ((xIx y).getD 0);rw[aj] at E av;rw[cg] at av ⊢;clear cg aj cx
  repeat still_step
  try refine wpStill_nil ?_
  change wpList _ _ _ _ _ wr.drew
  go_wp2_with (go_at_call 199;refine(VH ((XU z.out.own oq _).drew) oq).mono ?_;rintro x wv ⟨rfl,R,O⟩;have A:=ZfW ((XU z.out.own oq _).drew) ((Zr _ _ _ _ (by simp)).trans z.out.b1) (ZeY z.out.b2 _) ((z.out.low.setCell (p:=⟨w.heap.size+1+1,0,none⟩) (ZV _ 2) _).drew) (Zm z.out.size ((Zg 0 wr).setCell (p:=⟨w.heap.size+1+1,0,none⟩) (Zk _) _).size) R O;obtain⟨⟨d0,d1⟩,df⟩:=YJ A.b2;obtain⟨⟨q0,q1⟩,qf⟩:=YJ A.b1;have J:=hid A;have ch:=A.size;clear R O A)
  (refine Zl (v:=.agg #[.int .i64 (sx:Int),.slice G q.length C]) ?_ rfl ⟨⟨.slice G q.length C,?_,?_⟩,?_⟩;(focus (simp only[results,results148];go_simp));(focus (have g:=E.out;injection g with h1 h2;subst h1;subst h2;first|done|rfl));(focus (have g:=E.out;injection g with h1 h2;subst h1;subst h2;exact Xo (XU (XU J.out.own oq _) oq _) oq));exact((J.out.low.setCell (p:=⟨w.heap.size+1,0,none⟩) (by show w.heap.size≤w.heap.size+1;omega) _).setCell (p:=⟨w.heap.size+1,1,none⟩) (by show w.heap.size≤w.heap.size+1;omega) _))
 rw[ZZ U] at g;have aw:(D.k == 2)=false:=ZW.2 U;by_cases ag:D.k=1
 ·rw[ZZ (show ¬D.k≠1 from fun h=>h ag)] at g;rw[ag] at x0
  cases hf:L D.nm with
  | none =>
   rw[hf] at g;injection g with g
   have E:=hid g;have az:=hid hf;clear g hf U aw;go_wp2;refine wp_region_still_lit kq kq ?_
   repeat still_step
   refine Q1 QY _ rfl _ _ true rfl mf Lf D.nm rfl rfl bb.out.f (.tuple #[.int .i64 0,.bool false]) ?_ ?_
   ·rw[HF.out D.nm,az.out];rfl
   repeat still_step
   refine wpStill_nil ?_;generalize hW2:({ wr with drawn:=wr.drawn+1 }:World)=W2;have ac:xz W0 w p.flows p.ins.length xIx L iIx (s,I) N2 W2 D y aa H q (.slice G q.length C):=by
    rw[←hW2];exact⟨z.out.go,z.out.sp,z.out.b0,z.out.b1,z.out.b2,z.out.own,⟨z.out.low.os,z.out.low.tape,z.out.low.output,z.out.low.size,z.out.low.block⟩,z.out.size,z.out.few⟩
   have bf:=HM.out.keep (B:=w.heap.size) ce ac.low;clear hW2 c0 c1 bd x0 x1 x2 x3 x4 x5 x6 xf z0 z1 z2 z3 z4 z5 z6 z7 z8 zf;obtain⟨⟨c0,c1⟩,bd⟩:=YJ ac.b2;obtain⟨⟨x0,x1,x2,x3,x4,x5,x6⟩,xf⟩:=Y7 (show W2.heap[w.heap.size]?=some (.cells #[.int .i64 D.k,.string D.nm,.int .i64 D.n,.int .i64 D.d,.slice aa D.args.len H,.int .i64 D.a,.string y] 250 (0,0)) from ac.b0);obtain⟨⟨z0,z1,z2,z3,z4,z5,z6,z7,z8⟩,zf⟩:=Y2 (show W2.heap[m]?=_ from bf.box);have Z:=hid ac;have cm:=hid bf;clear ac bf;go_wp2;refine wp_region_still_tail 8 kq kq ?_;simp only[List.take_succ_cons,List.take_zero,List.drop_succ_cons,List.drop_zero]
   repeat still_step
   refine Q1 QY _ rfl _ _ false rfl mi Li D.nm rfl rfl cm.out.i (.int .i64 (((iIx D.nm).getD 0:Nat):Int)) ?_ ?_
   ·rw[HI.out D.nm];cases iIx D.nm<;>rfl
   obtain⟨sx,aj⟩:=ez ((iIx D.nm).getD 0);rw[aj] at E ⊢;clear aj
   repeat still_step
   try refine wpStill_nil ?_
   change wpList _ _ _ _ _ W2.drew
   go_wp2_with (go_at_call 199;refine(VH ((XU Z.out.own oq _).drew) oq).mono ?_;rintro x wv ⟨rfl,R,O⟩;have A:=ZfW ((XU Z.out.own oq _).drew) ((Zr _ _ _ _ (by simp)).trans Z.out.b1) (ZeY Z.out.b2 _) ((Z.out.low.setCell (p:=⟨w.heap.size+1+1,0,none⟩) (ZV _ 2) _).drew) (Zm Z.out.size ((Zg 0 W2).setCell (p:=⟨w.heap.size+1+1,0,none⟩) (Zk _) _).size) R O;obtain⟨⟨d0,d1⟩,df⟩:=YJ A.b2;obtain⟨⟨q0,q1⟩,qf⟩:=YJ A.b1;have J:=hid A;have ch:=A.size;clear R O A)
   (refine Zl (v:=.agg #[.int .i64 (sx:Int),.slice G q.length C]) ?_ rfl ⟨⟨.slice G q.length C,?_,?_⟩,?_⟩;(focus (simp only[results,results148];go_simp));(focus (have g:=E.out;injection g with h1 h2;subst h1;subst h2;first|done|rfl));(focus (have g:=E.out;injection g with h1 h2;subst h1;subst h2;exact Xo (XU (XU J.out.own oq _) oq _) oq));exact((J.out.low.setCell (p:=⟨w.heap.size+1,0,none⟩) (by show w.heap.size≤w.heap.size+1;omega) _).setCell (p:=⟨w.heap.size+1,1,none⟩) (by show w.heap.size≤w.heap.size+1;omega) _))
  | some j =>
   rw[hf] at g;simp only at g
   cases hfl:p.flows[j]? with
   | none=>rw[hfl] at g;cases g
   | some f =>
    rw[hfl] at g;simp only at g;obtain⟨cd,bx⟩:=Zz.1 hfl;have E:=hid g;have az:=hid hf;obtain⟨au,ae⟩:=cp.out.flows _ (Zi cd);have ba:=hid (fun(w':World) (hb:Below W0.heap.size W0 w')=>Qx hb p an ai af ao cn ci cf co HP.out j cd oq);rw[bx] at ba au ae;obtain⟨di,⟨k5,am,n5,d5,F,a5⟩,dh⟩:=f;unfold pv spv PE.sz at *;simp only at ba au;have cl:=hid ae;have dj:=J6 (i:=j) oq;clear g hf U aw hfl bx ae;go_wp2;refine wp_region_still_lit kq kq ?_
    repeat still_step
    refine Q1 QY _ rfl _ _ true rfl mf Lf D.nm rfl rfl bb.out.f (.tuple #[.int .i64 (j:Int),.bool true]) ?_ ?_
    ·rw[HF.out D.nm,az.out];rfl
    repeat still_step
    refine wpStill_nil ?_;go_wp2_with (go_at_call 139;refine(ba.out wr.drew ((HM.out.low.trans (z.out.low.mono cj)).drew)).mono ?_;rintro x w5 ⟨⟨bs,aq,rfl,ar⟩,hb5⟩;have dl:=hb5.size;have bi:=(hb5.block w.heap.size (by show w.heap.size<wr.heap.size;omega)).trans z.out.b0;obtain⟨⟨y0,y1,y2,y3,y4,y5,y6⟩,yf⟩:=Y7 bi;have HB5:=hid (show Below wr.heap.size wr w5 from ⟨hb5.os,hb5.tape,hb5.output,hb5.size,hb5.block⟩);have ct:=hid bi;have bk:=hid ar;clear hb5 bi ar);have hX:=z.out.next HB5.out (Ze2 w5 w.heap.size (.int .i64 k5) (.string am) (.int .i64 n5) (.int .i64 d5) (.slice bs F.len aq) (.int .i64 a5) (.string (dg j))) E.out (show Qt W0 ⟨k5,am,n5,d5,F,a5⟩ bs aq (dg j) from ⟨bk.out,cl.out,by show(dg j).size+3*F.sz≤500;omega,by show F.sz<100;omega⟩) (ZgZ ct.out _ _ _ _ _ _ _);refine⟨hid ⟨M,_,_,_,_,_,_,hX⟩,?_⟩;rw[bo.out];exact qB bn.out ⟨_,_,_,_,_,_,hX⟩
 rw[Z0 ag] at g
 cases hc:D.args.at 0 with
 | none=>rw[hc] at g;cases g
 | some c =>
  rw[hc] at g;simp only at g;have E:=hid g;have dd:(D.k != 1)=true:=bne_iff_ne.2 ag;have bl:=hid (fun(w':World) (hb:Below W0.heap.size W0 w')=>JA hb D c aa H y 0 z.out.sp hc);have cq:=hid (fun(w':World)=>U5 (w:=w') D aa H);obtain⟨k2,da,n2,d2,bc,a2⟩:=D;obtain⟨k5,am,n5,d5,F,a5⟩:=c;unfold spv ev at *;simp only at *;clear g hc ag U;go_wp2;have bw:w.heap.size+1+1<wr.heap.size:=oq;go_region_law (first|(refine step_append_lies _ (by rfl) _ _ _ (by rfl) (w.heap.size+3) 183 i0 _ 3 24 underlying90 ak.out.1 ak.out.2.1 ak.out.2.2.1 ak.out.2.2.2 rfl oq (.slice G q.length C) q.length (QA q) (by rfl) ((own_below z.out.own HB3.out).alloc _) ⟨w3.heap.size,0,none⟩ 1 1 [.int .i64 k2,.int .i64 n2,.int .i64 d2] (by rfl) (by rfl) (World.news_of_block (Zy _ _)) (by simp[Value.oneCell']) oq (by unfold maxLen;omega) oq (by simp;omega) (w3.heap.size+1) (by simp) ?_;intro gg ap w4 ah Y db de;have al:=z.out.more (o:=(k2,n2,d2)) HB3.out ah Y oq (M:=M) (res':=(s,I));have cz:w4.cell? ⟨w.heap.size+1+1,1,none⟩=some (.slice G q.length C):=(Zn (w:=wr) (al.1 _ (by show w.heap.size+1+1<w.heap.size+3;omega))).trans c1;have cy:w4.frozen? ⟨w.heap.size+1+1,1,none⟩=false:=(Z4 (w:=wr) (al.1 _ (by show w.heap.size+1+1<w.heap.size+3;omega))).trans (bd _);have ab:=hid al;clear al ah Y)|(go_simp;go_at_call 198;refine(cq.out _).mono ?_;rintro x w3 ⟨rfl,hb3⟩;have dn:w3.cell? ⟨w.heap.size+1+1,1,none⟩=some (.slice G q.length C):=(hb3.cell (p:=⟨w.heap.size+1+1,1,none⟩) bw).trans c1;have l3:w.heap.size+1+1<w3.heap.size:=Zd bw hb3.size;have HB3:=hid (show Below wr.heap.size wr w3 from ⟨hb3.os,hb3.tape,hb3.output,hb3.size,hb3.block⟩);clear hb3))
  all_goals
   have X:(w4.setCell ⟨w.heap.size+1+1,1,none⟩ (.slice (some ⟨gg,0,none⟩) (q.length+1) ap)).heap[w.heap.size]?=some (U9 ⟨k2,da,n2,d2,bc,a2⟩ aa H y):=(Zr _ _ _ _ (by simp;omega)).trans ((ab.out.1 _ oq).trans z.out.b0);obtain⟨W5,bv⟩:=ez (w4.setCell ⟨w.heap.size+1+1,1,none⟩ (.slice (some ⟨gg,0,none⟩) (q.length+1) ap));rw[bv] at X ab ⊢;clear x0 x1 x2 x3 x4 x5 x6 xf;obtain⟨⟨x0,x1,x2,x3,x4,x5,x6⟩,xf⟩:=Y7 X;have bm:=hid X;clear X bv cz cy;go_wp2_with (go_at_call 144;refine(bl.out W5 (HM.out.low.trans (ab.out.2.1.1.mono cj))).mono ?_;rintro x w6 ⟨⟨cv,bt,rfl,ay⟩,hb6⟩;have bj:=(hb6.block w.heap.size (by have:=ab.out.2.1.2;omega)).trans bm.out;obtain⟨⟨y0,y1,y2,y3,y4,y5,y6⟩,yf⟩:=Y7 bj;have HB6:=hid hb6;have cu:=hid bj;have br:=hid ay;clear hb6 bj ay);have hX:=ab.out.2.2 M _ _ _ _ E.out br.out w6 _ HB6.out (Ze2 w6 w.heap.size (.int .i64 k5) (.string am) (.int .i64 n5) (.int .i64 d5) (.slice cv F.len bt) (.int .i64 a5) (.string (y++⟨#[47]⟩++dg 0))) (ZgZ cu.out _ _ _ _ _ _ _);refine⟨hid ⟨M,_,_,_,_,_,_,hX⟩,?_⟩;rw[bo.out];exact qB bn.out ⟨_,_,_,_,_,_,hX⟩
end Go.Proofs.YtdgifkjaflfdeaaGreatDoor.syn
