/- Parts of the proof. -/
import Derived.Test.YtgigilkpndhddaaGreatDoorV14
import Derived.Test.YtgigilkpndhddaaGreatDoorV15
set_option linter.all false
set_option maxRecDepth 100000
set_option maxHeartbeats 16000000
namespace Go.Proofs.YtgigilkpndhddaaGreatDoor.syn
open Tryz
open Go.RowKit Go.Shelf
abbrev Op3:Type:=Int × Int × Int
def opL(o:Op3):List Value:=[.int .i64 o.1,.int .i64 o.2.1,.int .i64 o.2.2]
def QB:List Op3→List Value
 | []=>[]
 | o::l=>.int .i64 o.1::.int .i64 o.2.1::.int .i64 o.2.2::QB l
theorem EN:∀l:List Op3,(QB l).length=l.length*3
 | []=>rfl
 | o::l=>by simp only[QB,Zp,EN l];omega
theorem qT:∀a b:List Op3,QB (a++b)=QB a++QB b
 | [],b=>rfl
 | o::a,b=>by simp only[ZC,QB,qT a b]
theorem EM:∀(l:List Op3)(t:Nat),t<l.length*3→(QB l)[t]?=some ((opL (l[t/3]!))[t%3]!)
 | [],t,h=>by simp at h
 | o::l,0,h=>rfl
 | o::l,1,h=>rfl
 | o::l,2,h=>rfl
 | o::l,t+3,h=>by
  have e1:(t+3)/3=t/3+1:=oq;have e2:(t+3)%3=t%3:=oq;simp only[QB,List.getElem?_cons_succ,e1,e2];rw[EM l t (by simp only[Zp] at h;omega)];simp
theorem ZbD(l:List Op3):(Go.Sort.flatK opL 3 l.toArray).toList=QB l:=by
 apply List.ext_getElem?;intro t;by_cases h:t<l.length*3
 ·rw[EM l t h];have f:t<(Go.Sort.flatK opL 3 l.toArray).size:=by simpa using h
  have g:=Go.Sort.get_flatK opL 3 l.toArray t (by simpa using h);rw[getElem!_pos _ t f] at g;rw[Array.getElem?_toList,Yn f,g];simp
 rw[Yc (by simp;omega),Yc (by rw[EN];omega)]
theorem Zf8:∀w,(isAgg 156).run prog w=.ok true w:=fun w=>by kernel_rfl
theorem Zfy:∀w,(Go.sizeOf 156).run prog w=.ok 3 w:=fun w=>by kernel_rfl
theorem jG{w:World}{base:Nat}{v:Value}{ops:List Op3}(h:w.ownsRow base 156 3 v ops.length (QB ops))(Y:ops.length≤1000)(O:ops≠[]) :
  Calls prog 134 #[v] w fun e w'=>e=.returned (.tuple #[])∧w'.ownsRow base 156 3 v ops.length (QB ops.reverse)∧w.grownBy w' v.ownBlock:=by
 obtain⟨g,cap,rfl,hb,V⟩:=h.form (List.length_pos_iff.2 O);have J:Go.Sort.HoldsK opL 3 w g 0 ops.toArray:=by
  intro j L;have f:j<ops.length*3:=by simpa using L
  refine⟨?_,?_⟩
  ·rw[ZD,h.cellAt j f,EM ops j f,Go.Sort.get_flatK opL 3 ops.toArray j (by simpa using f)];simp
  rw[ZD];exact h.frozenAt j
 refine(Tryz.slices_Reverse 3 Zf8 Zfy opL (fun _=>rfl) (fun x v A=>by simp[opL] at A;rcases A with rfl|rfl|rfl<;>rfl) g 0 cap ops.toArray w J (by simp;omega)).mono ?_;rintro e w' ⟨rfl,n,rfl⟩;obtain⟨U,D|⟨T,I,C,A,E,G,y,F,q,R⟩⟩:=h
 ·obtain⟨D,_⟩:=D;cases D
 cases A
 refine⟨rfl,⟨by rw[EN,List.length_reverse],.inr ⟨g,cap,Go.Sort.putCells id 0 (Go.Sort.flatK opL 3 ops.toArray.reverse) C,rfl,E,?_,y,F,?_,?_⟩⟩,⟨rfl,rfl,rfl,?_,?_⟩⟩
 ·simp[Go.Sort.putRowK,Go.Sort.putRow,Go.Sort.mapBlock,Go.Sort.ahead,Array.getElem?_modify,G,Go.Sort.onCells]
 ·simp[Go.Sort.putCells,q]
 ·rw[←ZbD,show ops.reverse.toArray=ops.toArray.reverse by simp];apply List.ext_getElem?;intro t;have M:=Nat.mul_le_mul_right 3 y;by_cases ht:t<ops.length*3
  ·rw[Yo ht,Array.getElem?_toList,Array.getElem?_toList];have m:t<(Go.Sort.flatK opL 3 ops.toArray.reverse).size:=by simpa using ht
   rw[Yn m];unfold Go.Sort.putCells;rw[Array.getElem?_mapIdx,Yn (by rw[q];omega)];simp only[Option.map_some,Zk,ZD,true_and,Nat.sub_zero,id];rw[Z2 m,getElem!_pos _ t m]
  rw[Yc (by simp;omega),Yc (by simp;omega)]
 ·simp[Go.Sort.putRowK,Go.Sort.putRow,Go.Sort.mapBlock,Go.Sort.ahead]
 intro k X H;have z:¬g=k:=fun e=>H (by rw[←e];rfl)
 simp[Go.Sort.putRowK,Go.Sort.putRow,Go.Sort.mapBlock,Go.Sort.ahead,Array.getElem?_modify,z]
theorem xo{w:World}{f:Option Addr}{cap:Nat} :
  Calls prog 134 #[.slice f 0 cap] w fun e w'=>e=.returned (.tuple #[])∧w'=w:=by
 go_enter func134,ntmps134;go_wp2;go_loopw [2,3] (fun a b wr=>a=.int .i64 0∧b=.int .i64 (-1)∧wr=w) (fun _ _ _=>0)
 case atStart=>exact⟨rfl,rfl,rfl⟩
 obtain⟨rfl,rfl,rfl⟩:=hrel;go_wp2;go_end0;exact⟨rfl,rfl⟩
noncomputable def Ez(P:Nat→Prop):Nat:=@Classical.epsilon Nat ⟨0⟩ (fun n=>P n∧∀m,P m→n≤m)
theorem Gk{P:Nat→Prop}(h:∃n,P n):P (Ez P)∧∀m,P m→Ez P≤m:=by
 refine Classical.epsilon_spec (p:=fun n=>P n∧∀m,P m→n≤m) ?_;obtain⟨n,q⟩:=h
 induction n using Nat.strongRecOn with
 | _ n ih =>
  by_cases j:∃m,m<n∧P m
  ·obtain⟨m,f,g⟩:=j;exact ih m f g
  exact⟨n,q,fun m g=>Nat.le_of_not_lt (fun f=>j ⟨m,f,g⟩)⟩
def XL(flows:List FL)(nI:Nat)(xIx fIx iIx:IE):Nat→PE→ByteArray→List Op3→Option (Nat × List Op3)
 | 0,_,_,_=>none
 | N+1,e,way,ops =>
  if 20<ops.length then some (0,ops)
  else if e.k=2 then some (nI+(xIx way).getD 0,ops)
  else if e.k≠1 then (match e.args.at 0 with
   | some c=>XL flows nI xIx fIx iIx N c (way++⟨#[47]⟩++dg 0) (ops++[(e.k,e.n,e.d)])
   | none=>none)
  else match fIx e.nm with
   | some j=>(match flows[j]? with
    | some f=>XL flows nI xIx fIx iIx N f.e (dg j) ops
    | none=>none)
   | none=>some ((iIx e.nm).getD 0,ops)
def Xe(flows:List FL)(nI:Nat)(xIx fIx iIx:IE)(e:PE):Prop:=∃N,∀way ops,XL flows nI xIx fIx iIx N e way ops≠none
section
variable {flows:List FL} {nI:Nat} {xIx fIx iIx:IE}
theorem UR{e:PE}(h:e.k=2):Xe flows nI xIx fIx iIx e:=⟨1,fun way ops=>by
 rw[XL];by_cases hl:20<ops.length
 ·rw[Z2 hl];exact Option.some_ne_none _
 rw[Z1 hl,Z2 h];exact Option.some_ne_none _⟩
theorem GZ{e c:PE}(j:e.k≠2)(g:e.k≠1)(q:e.args.at 0=some c)(h:Xe flows nI xIx fIx iIx c):Xe flows nI xIx fIx iIx e:=by
 obtain⟨N,m⟩:=h;refine⟨N+1,fun way ops=>?_⟩;rw[XL];by_cases f:20<ops.length
 ·rw[Z2 f];exact Option.some_ne_none _
 rw[Z1 f,Z1 j,Z2 g,q];exact m _ _
theorem US{e:PE}(v:e.k=1)(h:∀j,fIx e.nm=some j→∃f,flows[j]?=some f∧Xe flows nI xIx fIx iIx f.e):Xe flows nI xIx fIx iIx e:=by
 cases hf:fIx e.nm with
 | none =>
  refine⟨1,fun way ops=>?_⟩;rw[XL];by_cases g:20<ops.length
  ·rw[Z2 g];exact Option.some_ne_none _
  rw[Z1 g,Z1 oq,Z1 oq,hf];exact Option.some_ne_none _
 | some j =>
  obtain⟨f,m,N,q⟩:=h j hf;refine⟨N+1,fun way ops=>?_⟩;rw[XL];by_cases g:20<ops.length
  ·rw[Z2 g];exact Option.some_ne_none _
  rw[Z1 g,Z1 oq,Z1 oq,hf];simp only[m];exact q _ _
theorem Gw:∀{l:PL},l.len=1→∃k nm n d args a,l=.cons k nm n d args a .nil
 | .cons k nm n d args a .nil,_=>⟨k,nm,n,d,args,a,rfl⟩
 | .cons _ _ _ _ _ _ (.cons _ _ _ _ _ _ _),h=>by simp only[PL.len] at h;omega
 | .nil,h=>by simp only[PL.len] at h;omega
theorem eX{env:Env}(A:∀nm,env nm≠none→∀j,fIx nm=some j→∃f,flows[j]?=some f∧Xe flows nI xIx fIx iIx f.e) :
  ∀(M:Nat)(e:PE),e.args.sz<M→YE e=true→∀p q,Y1 env e=.ok p q→Xe flows nI xIx fIx iIx e:=by
 intro M
 induction M with
 | zero=>intro e h;omega
 | succ M ih =>
  intro e E hex p q ht;by_cases x:e.k=2
  ·exact UR x
  by_cases v:e.k=1
  ·refine US v (A e.nm ?_);intro z;unfold Y1 Xh at ht;rw[Z2 v,z] at ht
   cases ht
  obtain⟨k,nm,n,d,args,a,g⟩:=Gw ((GE hex).2.2 v x);have y:e.args.at 0=some ⟨k,nm,n,d,args,a⟩:=by rw[g];rfl
  have m:∃p q,Y1 env ⟨k,nm,n,d,args,a⟩=.ok p q:=by
   unfold Y1 at ht;unfold Xh at ht;rw[Z1 v,g] at ht;unfold Y1;simp only[YU] at ht
   cases h3:Xh env k nm n d a (YU env args) with
   | ok p1 q1=>exact⟨p1,q1,rfl⟩
   | unk=>rw[h3] at ht;cases ht
   | bad a1 e1=>rw[h3] at ht;cases ht
  obtain⟨C,D,m⟩:=m;refine GZ x v y (ih _ ?_ (VC hex y) C D m);have:=(K8 _ _ _ y).2;omega
theorem vM{Xc env:Env}(A:GrE Xc flows env)(C:∀nm,Xc nm≠none→fIx nm=none)(F:∀f∈flows,YE f.e=true)(E:∀i j (hi:i<flows.length) (g:j<flows.length),flows[i].nm=flows[j].nm→i=j)
  (D:∀nm j,fIx nm=some j→∃h:j<flows.length,flows[j].nm=nm):∀nm,env nm≠none→∀j,fIx nm=some j→∃f,flows[j]?=some f∧Xe flows nI xIx fIx iIx f.e:=by
 induction A with
 | base=>intro nm z j g;rw[C nm z] at g;cases g
 | step A hf hnone ht ih =>
  rename_i env1 f p q
  intro nm z j g;obtain⟨v,y⟩:=D nm j g;by_cases x:nm=f.nm
  ·obtain⟨i,hi,m⟩:=Ym hf;obtain rfl:i=j:=E i j hi v (by rw[m,y,x]);exact⟨f,by rw[Ze v,m],eX ih _ f.e (ZW _) (F f hf) p q ht⟩
  refine ih nm (fun h=>z ?_) j g;unfold upd;rw[Z1 x];exact h
theorem Zbt(x:∀nm j,fIx nm=some j→∃f,flows[j]?=some f∧Xe flows nI xIx fIx iIx f.e):∀(M:Nat)(e:PE),e.args.sz<M→YE e=true→Xe flows nI xIx fIx iIx e:=by
 intro M
 induction M with
 | zero=>intro e h;omega
 | succ M ih =>
  intro e y hex;by_cases q:e.k=2
  ·exact UR q
  by_cases m:e.k=1
  ·exact US m (x e.nm)
  obtain⟨k,nm,n,d,args,a,g⟩:=Gw ((GE hex).2.2 m q);have v:e.args.at 0=some ⟨k,nm,n,d,args,a⟩:=by rw[g];rfl
  refine GZ q m v (ih _ ?_ (VC hex v));have:=(K8 _ _ _ v).2;omega
end
theorem qF{P:Nat→Prop}{N M:Nat}(f:N=M+1)(h:P M):Ez P<N:=by
 have:=(Gk ⟨M,h⟩).2 M h;omega
theorem VJ{w:World}{base:Nat}{v:Value}{ops:List Op3}(h:w.ownsRow base 156 3 v ops.length (QB ops))(j:ops.length≤1000) :
  Calls prog 134 #[v] w fun e w'=>e=.returned (.tuple #[])∧w'.ownsRow base 156 3 v ops.length (QB ops.reverse)∧w.grownBy w' v.ownBlock:=by
 cases ops with
 | nil =>
  obtain⟨f,cap,rfl⟩:∃f cap,v=.slice f 0 cap:=by
   rcases h.2 with ⟨rfl,_⟩|⟨g,cap,cur,rfl,_⟩
   ·exact⟨none,0,rfl⟩
   exact⟨_,cap,rfl⟩
  refine xo.mono ?_;rintro e w' ⟨rfl,rfl⟩;exact⟨rfl,h,World.grownBy.refl _ _⟩
 | cons o l=>exact jG h j (by simp)
theorem Zad:(prog.info? 156).map (fun i=>(i.zero,i.size,i.bytes))=some (some (.agg #[.int .i64 0,.int .i64 0,.int .i64 0]),3,24):=by kernel_rfl
theorem Q6{T K E:TypeId}{z:Value}(M:X8 T K E z)(w:World){ops:Array Oper}{rest:List Oper}{o:Oper}{a:Act}{Q:Act→Prop}
  (j:o.guard=none)(m x:Operand)(c:Bool)(g:o.op=Op.lookup T m x c)(mb:Nat)(L:List (ByteArray × Value))(k:ByteArray)
  (q:a.eval m=.map (some mb))(A:a.eval x=.string k)(h:YT w mb L)(u:Value)(v:(if c then .tuple #[(Xn k L).getD z,.bool (Xn k L).isSome] else (Xn k L).getD z)=u)
  (hK:wpStill prog ops w Q rest (a.put o.dst u)):wpStill prog ops w Q (o::rest) a:=by
 refine wpStill_step fun K' hK'=>?_
 have f:=Qf M h k c;have e:(execOp a.eval o).run prog w=.ok (.value u) w:=by
  rw[←v];simp[execOp,g,q,A,f]
 have y:Region.wanted o (yielded ops a.tmps)=true:=by simp[Region.wanted,j]
 rw[Z2 y];unfold Oper.still;rw[e];exact⟨rfl,hK' _ hK⟩
def Kd(e:PE)(ad:Option Addr)(cap:Nat)(way:ByteArray):Obj:=.cells #[.int .i64 e.k,.string e.nm,.int .i64 e.n,.int .i64 e.d,.slice ad e.args.len cap,.int .i64 e.a,.string way] 184 (0,0)
structure xE (W0 w:World) (flows:List FL) (nI:Nat) (xIx fIx iIx:IE) (res:Nat × List Op3) (N:Nat) (wr:World) (e:PE) (way:ByteArray) (ad:Option Addr) (cap:Nat) (ops:List Op3) (v:Value):Prop where
 go:XL flows nI xIx fIx iIx N e way ops=some res
 sp:Qv W0 e ad cap way
 b0:wr.heap[w.heap.size]?=some (Kd e ad cap way)
 b1:wr.heap[w.heap.size+1]?=some (.cells #[.int .i64 0,.slice none 0 0] 69 (0,0))
 b2:wr.heap[w.heap.size+1+1]?=some (.cells #[.int .i64 0,v] 69 (0,0))
 own:wr.ownsRow (w.heap.size+3) 156 3 v ops.length (QB ops)
 low:Below w.heap.size w wr
 size:w.heap.size+3≤wr.heap.size
 few:ops.length≤21
def AoN(W0 w:World)(flows:List FL)(nI:Nat)(xIx fIx iIx:IE)(res:Nat × List Op3)(wr:World)(N:Nat):Prop:=∃e way ad cap ops v,xE W0 w flows nI xIx fIx iIx res N wr e way ad cap ops v
theorem ZeB{w:World}{b:Nat}{v0 v1:Value}{t:TypeId}(h:w.heap[b]?=some (.cells #[v0,v1] t (0,0)))(u:Value):(w.setCell ⟨b,0,none⟩ u).heap[b]?=some (.cells #[u,v1] t (0,0)):=Zj w b 0 _ t u h
structure Zgx (w wx:World) (sv:Value) (v:Value) (ops:List Op3) (wv:World):Prop where
 own:wv.ownsRow (w.heap.size+3) 156 3 v ops.length (QB ops.reverse)
 b1:wv.heap[w.heap.size+1]?=some (.cells #[.int .i64 0,.slice none 0 0] 69 (0,0))
 b2:wv.heap[w.heap.size+1+1]?=some (.cells #[sv,v] 69 (0,0))
 low:Below w.heap.size w wv
 size:w.heap.size+3≤wv.heap.size
theorem Zfv{w f q:World}{y v:Value}{ops:List Op3}(A:f.ownsRow (w.heap.size+3) 156 3 v ops.length (QB ops))(hb1:f.heap[w.heap.size+1]?=some (.cells #[.int .i64 0,.slice none 0 0] 69 (0,0)))(hb:f.heap[w.heap.size+1+1]?=some (.cells #[y,v] 69 (0,0)))(j:Below w.heap.size w f)(x:w.heap.size+3≤f.heap.size)
  (z:q.ownsRow (w.heap.size+3) 156 3 v ops.length (QB ops.reverse))(g:f.grownBy q v.ownBlock):Zgx w f y v ops q:=by
 have m:∀k,k<w.heap.size+3→q.heap[k]?=f.heap[k]?:=fun k m=>g.block k oq (fun e=>by have:=X3 A k e.symm;omega)
 exact⟨z,(m _ oq).trans hb1,(m _ oq).trans hb,j.trans ⟨g.os,g.tape,g.output,g.size,fun k hk'=>m k oq⟩,Zm x g.size⟩
theorem Zgr{w:World}{b:Nat}{u0 u1 u2 u3 u4 u5 u6:Value}{t:TypeId}(h:w.heap[b]?=some (.cells #[u0,u1,u2,u3,u4,u5,u6] t (0,0)))(f g j m q v x:Value) :
  (((((((w.setCell ⟨b,0,none⟩ f).setCell ⟨b,1,none⟩ g).setCell ⟨b,2,none⟩ j).setCell ⟨b,3,none⟩ m).setCell ⟨b,4,none⟩ q).setCell ⟨b,5,none⟩ v).setCell ⟨b,6,none⟩ x).heap[b]?=some (.cells #[f,g,j,m,q,v,x] t (0,0)):=by
 have y:=Zj _ b 0 _ t f h;have z:=Zj _ b 1 _ t g y;have A:=Zj _ b 2 _ t j z;have C:=Zj _ b 3 _ t m A;have D:=Zj _ b 4 _ t q C;have E:=Zj _ b 5 _ t v D;have F:=Zj _ b 6 _ t x E;simpa only [sA,sB,sC] using F
theorem ZeE(w:World)(b:Nat)(v0 v1 v2 v3 v4 v5 v6:Value) :
  Upon b w (((((((w.setCell ⟨b,0,none⟩ v0).setCell ⟨b,1,none⟩ v1).setCell ⟨b,2,none⟩ v2).setCell ⟨b,3,none⟩ v3).setCell ⟨b,4,none⟩ v4).setCell ⟨b,5,none⟩ v5).setCell ⟨b,6,none⟩ v6) :=
 (((((((Upon.refl b w).setAt (Or.inl rfl) _).setAt (Or.inl rfl) _).setAt (Or.inl rfl) _).setAt (Or.inl rfl) _).setAt (Or.inl rfl) _).setAt (Or.inl rfl) _).setAt (Or.inl rfl) _
theorem xE.next{W0 w:World}{f:List FL}{nI:Nat}{xIx q iIx:IE}{x:Nat × List Op3}{N:Nat}{wr:World}{e:PE}{E:ByteArray}{G:Option Addr}{cap:Nat}{ops:List Op3}{v:Value}(h:xE W0 w f nI xIx q iIx x N wr e E G cap ops v)
  {F W':World}(hb:Below wr.heap.size wr F)(y:Upon w.heap.size F W'){M:Nat}{z:PE}{g:ByteArray}{m:Option Addr}{j:Nat}(C:XL f nI xIx q iIx M z g ops=some x)(D:Qv W0 z m j g)(A:W'.heap[w.heap.size]?=some (Kd z m j g)) :
  xE W0 w f nI xIx q iIx x M W' z g m j ops v:=by
 have I:=h.size;have H:=hb.size;exact⟨C,D,A,(y.block _ oq oq).trans ((hb.block _ oq).trans h.b1),(y.block _ oq oq).trans ((hb.block _ oq).trans h.b2),EP (own_below h.own hb) oq y,(h.low.trans (hb.mono oq)).trans (y.below oq (Zc _)),by have:=y.size;omega,h.few⟩
theorem xE.more{W0 w:World}{f:List FL}{nI:Nat}{xIx m iIx:IE}{x:Nat × List Op3}{N:Nat}{wr:World}{e:PE}{E:ByteArray}{G:Option Addr}{cap:Nat}{ops:List Op3}{v:Value}(h:xE W0 w f nI xIx m iIx x N wr e E G cap ops v)
  {w3 w4:World}(hb:Below wr.heap.size wr w3){ob:Obj}{v':Value}{o:Op3}(z:w4.ownsRow (w.heap.size+3) 156 3 v' (ops.length+1) (QB ops++[.int .i64 o.1,.int .i64 o.2.1,.int .i64 o.2.2]))(y:(w3.alloc ob).grownBy w4 v.ownBlock)(F:ops.length≤20){M:Nat}{res':Nat × List Op3} :
  (∀k,k<w.heap.size+3→w4.heap[k]?=wr.heap[k]?)∧(Below w.heap.size w (w4.setCell ⟨w.heap.size+1+1,1,none⟩ v')∧w.heap.size+3≤(w4.setCell ⟨w.heap.size+1+1,1,none⟩ v').heap.size)∧(∀M e' way' ad' cap',XL f nI xIx m iIx M e' way' (ops++[o])=some x→Qv W0 e' ad' cap' way'→∀w5 W',Below (w4.setCell ⟨w.heap.size+1+1,1,none⟩ v').heap.size (w4.setCell ⟨w.heap.size+1+1,1,none⟩ v') w5→Upon w.heap.size w5 W'→W'.heap[w.heap.size]?=some (Kd e' ad' cap' way')→xE W0 w f nI xIx m iIx x M W' e' way' ad' cap' (ops++[o]) v'):=by
 have I:=h.size;have C:=hb.size;have j:∀k,k<w.heap.size+3→w4.heap[k]?=wr.heap[k]?:=fun k hk =>
  (y.block k (by simp;omega) (fun e=>by have:=X3 h.own k e.symm;omega)).trans ((Za _ _ _ oq).trans (hb.block k oq))
 have D:w.heap.size+3≤w4.heap.size:=Zm (by simp;omega) y.size;have g:Below w.heap.size w w4:=h.low.trans ⟨y.os.trans hb.os,y.tape.trans hb.tape,y.output.trans hb.output,Zm C (Zm (by simp) y.size),fun k hk=>j k oq⟩;have A:w.heap.size+3≤(w4.setCell ⟨w.heap.size+1+1,1,none⟩ v').heap.size:=Zm D ((Zg 0 w4).setCell (p:=⟨w.heap.size+1+1,1,none⟩) (Zk _) _).size;refine⟨j,⟨g.setCell (p:=⟨w.heap.size+1+1,1,none⟩) (ZX _ 2) _,A⟩,fun M e' way' ad' cap' hgo hsp w5 W' hb5 hu hb0=>?_⟩;have H:=hb5.size;have hb1:(w4.setCell ⟨w.heap.size+1+1,1,none⟩ v').heap[w.heap.size+1]?=some (.cells #[.int .i64 0,.slice none 0 0] 69 (0,0)):=(Zr _ _ _ _ (by simp)).trans ((j _ oq).trans h.b1);have hb2:(w4.setCell ⟨w.heap.size+1+1,1,none⟩ v').heap[w.heap.size+1+1]?=some (.cells #[.int .i64 0,v'] 69 (0,0)):=Zj _ _ _ _ _ _ ((j _ oq).trans h.b2);have q:(w4.setCell ⟨w.heap.size+1+1,1,none⟩ v').ownsRow (w.heap.size+3) 156 3 v' (ops++[o]).length (QB (ops++[o])):=by
  rw[qT,Zx];exact Xg z oq _
 exact⟨hgo,hsp,hb0,(hu.block _ oq oq).trans ((hb5.block _ oq).trans hb1),(hu.block _ oq oq).trans ((hb5.block _ oq).trans hb2),EP (own_below q hb5) oq hu,((g.setCell (p:=⟨w.heap.size+1+1,1,none⟩) (ZX _ 2) _).trans (hb5.mono oq)).trans (hu.below oq (Zc _)),by have:=hu.size;omega,by simp;omega⟩
theorem zz{W0 w:World}(p:PG)(an ai af ao:Option Addr)(cn ci cf co:Nat)(hp:AP W0 p an ai af ao cn ci cf co)(bg:JX p)(mc mi mf mn mx m:Nat)(Lc Li Lf Ln Lx:List (ByteArray × Value))(hM:Mkr W0 p an ai af ao cn ci cf co mc mi mf mn mx m Lc Li Lf Ln Lx w)
  (xIx J iIx:IE)(hX:XK Lx xIx)(hF:XK Lf J)(hI:XK Li iIx)(cj:∀k j,xIx k=some j→j≤1000)(N:Nat)(e:PE)(U:ByteArray)(ad:Option Addr)(cap:Nat)(hs:Qv W0 e ad cap U)(s:Nat)(ops:List Op3)(g:XL p.flows p.ins.length xIx J iIx N e U []=some (s,ops)) :
  Calls prog 104 #[.pointer (some ⟨m,0,none⟩),spv e ad cap U] w fun x w'=>(∃v,x=.returned (.agg #[.int .i64 (s:Int),v])∧w'.ownsRow w.heap.size 156 3 v ops.length (QB ops.reverse))∧Below w.heap.size w w':=by
 have cd:=hM.lt;have ch:=hM.low.size;have dj:=bg.lens;have HM:=hid hM;have HP:=hid hp;have cm:=hid bg;have HX:=hid hX;have HF:=hid hF;have HI:=hid hI;have cq:=hid cj;have HS:=hid hs;have HG:=hid g;clear hM hp bg hX hF hI cj hs g;unfold spv;go_enter func104,ntmps104;go_wp2;obtain⟨W3,R⟩:∃W3,((w.alloc (.cells #[.int .i64 e.k,.string e.nm,.int .i64 e.n,.int .i64 e.d,.slice ad e.args.len cap,.int .i64 e.a,.string U] 184)).alloc (.cells #[.int .i64 0,.slice none 0 0] 69)).alloc (.cells #[.int .i64 0,.slice none 0 0] 69)=W3:=⟨_,rfl⟩;rw[R];have bo:=hid (show AoN W0 w p.flows p.ins.length xIx J iIx (s,ops) W3 N from by
  refine⟨e,U,ad,cap,[],.slice none 0 0,HG.out,HS.out,?_,?_,?_,Yf _ _ _ _,?_,?_,by simp⟩
  ·rw[←R];exact(Za _ _ _ (by simp;omega)).trans ((Za _ _ _ (by simp)).trans (Yw w _))
  ·rw[←R];exact(Za _ _ _ (by simp)).trans (by simpa using Yw (w.alloc (.cells #[.int .i64 e.k,.string e.nm,.int .i64 e.n,.int .i64 e.d,.slice ad e.args.len cap,.int .i64 e.a,.string U] 184)) (.cells #[.int .i64 0,.slice none 0 0] 69))
  ·rw[←R];simpa using Yw ((w.alloc (.cells #[.int .i64 e.k,.string e.nm,.int .i64 e.n,.int .i64 e.d,.slice ad e.args.len cap,.int .i64 e.a,.string U] 184)).alloc (.cells #[.int .i64 0,.slice none 0 0] 69)) (.cells #[.int .i64 0,.slice none 0 0] 69)
  ·rw[←R];exact bq
  rw[←R];simp)
 clear R HS HG;go_loopw [] (fun wr=>Hid (∃N,AoN W0 w p.flows p.ins.length xIx J iIx (s,ops) wr N)) (fun wr=>Ez (AoN W0 w p.flows p.ins.length xIx J iIx (s,ops) wr))
 case atStart=>exact⟨_,bo.out⟩
 obtain⟨⟨D,y,Z,H,q,v2,hA⟩,aw⟩:=Gk hrel.out;clear hrel bo;obtain⟨N2,bd⟩:=ez (Ez (AoN W0 w p.flows p.ins.length xIx J iIx (s,ops) wr));rw[bd] at hA aw;obtain⟨G,C,rfl⟩:=YI hA.own;have z:=hid hA;obtain⟨⟨c0,c1⟩,bc⟩:=YD hA.b2;have db:=hA.few;have dl:=hA.size;have bn:=hid bd;clear hA aw bd;obtain⟨i0,bx,bz,ca,cb⟩:=info_parts Zad;have aj:=hid (Zh bx (Zh bz (Zh ca cb)));clear bx bz ca cb;by_cases bt:20<q.length
 ·have cv:¬(q.length:Int)≤20:=oq;obtain⟨M,hM⟩:∃M,N2=M+1:=by
   cases N2 with
   | zero=>have:=z.out.go;rw[XL] at this;cases this
   | succ M=>exact⟨M,rfl⟩
  have g:=z.out.go;rw[hM,XL,Z2 bt] at g;injection g with g
  have E:=hid g;clear g;go_wp2_with (go_at_call 134;refine(VJ (z.out.own) oq).mono ?_;rintro x wv ⟨rfl,O,L⟩;have A:=Zfv (z.out.own) (z.out.b1) (z.out.b2) (z.out.low) (z.out.size) O L;obtain⟨⟨d0,d1⟩,df⟩:=YD A.b2;obtain⟨⟨q0,q1⟩,qf⟩:=YD A.b1;have I:=hid A;have cg:=A.size;clear O L A)
  (refine Zl (v:=.agg #[.int .i64 0,.slice G q.length C]) ?_ rfl ⟨⟨.slice G q.length C,?_,?_⟩,?_⟩;(focus (simp only[results,results104];go_simp));(focus (have g:=E.out;injection g with h1 h2;subst h1;subst h2;first|done|rfl));(focus (have g:=E.out;injection g with h1 h2;subst h1;subst h2;exact Xd (Xg (Xg I.out.own oq _) oq _) oq));exact((I.out.low.setCell (p:=⟨w.heap.size+1,0,none⟩) (by show w.heap.size≤w.heap.size+1;omega) _).setCell (p:=⟨w.heap.size+1,1,none⟩) (by show w.heap.size≤w.heap.size+1;omega) _))
 have cv:(q.length:Int)≤20:=oq;obtain⟨⟨x0,x1,x2,x3,x4,x5,x6⟩,xf⟩:=Y7 (show wr.heap[w.heap.size]?=some (.cells #[.int .i64 D.k,.string D.nm,.int .i64 D.n,.int .i64 D.d,.slice Z D.args.len H,.int .i64 D.a,.string y] 184 (0,0)) from z.out.b0);have bf:=HM.out.keep (B:=w.heap.size) cd z.out.low;have ba:=hid bf;obtain⟨⟨z0,z1,z2,z3,z4,z5,z6,z7,z8⟩,zf⟩:=Y4 (show wr.heap[m]?=_ from bf.box);clear bf;obtain⟨M,hM⟩:∃M,N2=M+1:=by
  cases N2 with
  | zero=>have:=z.out.go;rw[XL] at this;cases this
  | succ M=>exact⟨M,rfl⟩
 have g:=z.out.go;rw[hM,XL,Z1 bt] at g;have bm:=hid hM;clear hM;by_cases T:D.k=2
 ·rw[Z2 T] at g;injection g with g
  have E:=hid g;clear g;rw[T] at x0;go_wp2;refine wp_region_still_tail 14 kq kq ?_;simp only[List.take_succ_cons,List.take_zero,List.drop_succ_cons,List.drop_zero]
  repeat still_step
  refine Q6 gO _ rfl _ _ false rfl mx Lx y rfl rfl ba.out.x (.int .i64 (((xIx y).getD 0:Nat):Int)) ?_ ?_
  ·rw[HX.out y];cases xIx y<;>rfl
  have cw:(xIx y).getD 0≤1000:=by
   cases hc:xIx y with
   | none=>simp
   | some j=>exact cq.out y j hc
  have au:IntKind.i64.wrap ((p.ins.length:Int)+(((xIx y).getD 0:Nat):Int))=((p.ins.length+(xIx y).getD 0:Nat):Int):=by rw[ZK _ oq];omega
  obtain⟨sx,ah⟩:=ez (p.ins.length+(xIx y).getD 0);obtain⟨nx,ce⟩:=ez ((xIx y).getD 0);rw[ah] at E au;rw[ce] at au ⊢;clear ce ah cw
  repeat still_step
  try refine wpStill_nil ?_
  change wpList _ _ _ _ _ wr.drew
  go_wp2_with (go_at_call 134;refine(VJ ((Xg z.out.own oq _).drew) oq).mono ?_;rintro x wv ⟨rfl,O,L⟩;have A:=Zfv ((Xg z.out.own oq _).drew) ((Zr _ _ _ _ (by simp)).trans z.out.b1) (ZeB z.out.b2 _) ((z.out.low.setCell (p:=⟨w.heap.size+1+1,0,none⟩) (ZX _ 2) _).drew) (Zm z.out.size ((Zg 0 wr).setCell (p:=⟨w.heap.size+1+1,0,none⟩) (Zk _) _).size) O L;obtain⟨⟨d0,d1⟩,df⟩:=YD A.b2;obtain⟨⟨q0,q1⟩,qf⟩:=YD A.b1;have I:=hid A;have cg:=A.size;clear O L A)
  (refine Zl (v:=.agg #[.int .i64 (sx:Int),.slice G q.length C]) ?_ rfl ⟨⟨.slice G q.length C,?_,?_⟩,?_⟩;(focus (simp only[results,results104];go_simp));(focus (have g:=E.out;injection g with h1 h2;subst h1;subst h2;first|done|rfl));(focus (have g:=E.out;injection g with h1 h2;subst h1;subst h2;exact Xd (Xg (Xg I.out.own oq _) oq _) oq));exact((I.out.low.setCell (p:=⟨w.heap.size+1,0,none⟩) (by show w.heap.size≤w.heap.size+1;omega) _).setCell (p:=⟨w.heap.size+1,1,none⟩) (by show w.heap.size≤w.heap.size+1;omega) _))
 rw[Z1 T] at g;have av:(D.k == 2)=false:=ZY.2 T;by_cases ae:D.k=1
 ·rw[Z1 (show ¬D.k≠1 from fun h=>h ae)] at g;rw[ae] at x0
  cases hf:J D.nm with
  | none =>
   rw[hf] at g;injection g with g
   have E:=hid g;have ay:=hid hf;clear g hf T av;go_wp2;refine wp_region_still_lit kq kq ?_
   repeat still_step
   refine Q6 Q1 _ rfl _ _ true rfl mf Lf D.nm rfl rfl ba.out.f (.tuple #[.int .i64 0,.bool false]) ?_ ?_
   ·rw[HF.out D.nm,ay.out];rfl
   repeat still_step
   refine wpStill_nil ?_;generalize hW2:({ wr with drawn:=wr.drawn+1 }:World)=W2;have ab:xE W0 w p.flows p.ins.length xIx J iIx (s,ops) N2 W2 D y Z H q (.slice G q.length C):=by
    rw[←hW2];exact⟨z.out.go,z.out.sp,z.out.b0,z.out.b1,z.out.b2,z.out.own,⟨z.out.low.os,z.out.low.tape,z.out.low.output,z.out.low.size,z.out.low.block⟩,z.out.size,z.out.few⟩
   have be:=HM.out.keep (B:=w.heap.size) cd ab.low;clear hW2 c0 c1 bc x0 x1 x2 x3 x4 x5 x6 xf z0 z1 z2 z3 z4 z5 z6 z7 z8 zf;obtain⟨⟨c0,c1⟩,bc⟩:=YD ab.b2;obtain⟨⟨x0,x1,x2,x3,x4,x5,x6⟩,xf⟩:=Y7 (show W2.heap[w.heap.size]?=some (.cells #[.int .i64 D.k,.string D.nm,.int .i64 D.n,.int .i64 D.d,.slice Z D.args.len H,.int .i64 D.a,.string y] 184 (0,0)) from ab.b0);obtain⟨⟨z0,z1,z2,z3,z4,z5,z6,z7,z8⟩,zf⟩:=Y4 (show W2.heap[m]?=_ from be.box);have Y:=hid ab;have cl:=hid be;clear ab be;go_wp2;refine wp_region_still_tail 8 kq kq ?_;simp only[List.take_succ_cons,List.take_zero,List.drop_succ_cons,List.drop_zero]
   repeat still_step
   refine Q6 Q1 _ rfl _ _ false rfl mi Li D.nm rfl rfl cl.out.i (.int .i64 (((iIx D.nm).getD 0:Nat):Int)) ?_ ?_
   ·rw[HI.out D.nm];cases iIx D.nm<;>rfl
   obtain⟨sx,ah⟩:=ez ((iIx D.nm).getD 0);rw[ah] at E ⊢;clear ah
   repeat still_step
   try refine wpStill_nil ?_
   change wpList _ _ _ _ _ W2.drew
   go_wp2_with (go_at_call 134;refine(VJ ((Xg Y.out.own oq _).drew) oq).mono ?_;rintro x wv ⟨rfl,O,L⟩;have A:=Zfv ((Xg Y.out.own oq _).drew) ((Zr _ _ _ _ (by simp)).trans Y.out.b1) (ZeB Y.out.b2 _) ((Y.out.low.setCell (p:=⟨w.heap.size+1+1,0,none⟩) (ZX _ 2) _).drew) (Zm Y.out.size ((Zg 0 W2).setCell (p:=⟨w.heap.size+1+1,0,none⟩) (Zk _) _).size) O L;obtain⟨⟨d0,d1⟩,df⟩:=YD A.b2;obtain⟨⟨q0,q1⟩,qf⟩:=YD A.b1;have I:=hid A;have cg:=A.size;clear O L A)
   (refine Zl (v:=.agg #[.int .i64 (sx:Int),.slice G q.length C]) ?_ rfl ⟨⟨.slice G q.length C,?_,?_⟩,?_⟩;(focus (simp only[results,results104];go_simp));(focus (have g:=E.out;injection g with h1 h2;subst h1;subst h2;first|done|rfl));(focus (have g:=E.out;injection g with h1 h2;subst h1;subst h2;exact Xd (Xg (Xg I.out.own oq _) oq _) oq));exact((I.out.low.setCell (p:=⟨w.heap.size+1,0,none⟩) (by show w.heap.size≤w.heap.size+1;omega) _).setCell (p:=⟨w.heap.size+1,1,none⟩) (by show w.heap.size≤w.heap.size+1;omega) _))
  | some j =>
   rw[hf] at g;simp only at g
   cases hfl:p.flows[j]? with
   | none=>rw[hfl] at g;cases g
   | some f =>
    rw[hfl] at g;simp only at g;obtain⟨cc,bw⟩:=ZA.1 hfl;have E:=hid g;have ay:=hid hf;obtain⟨ar,ac⟩:=cm.out.flows _ (Zi cc);have az:=hid (fun(w':World) (hb:Below W0.heap.size W0 w')=>Qz hb p an ai af ao cn ci cf co HP.out j cc oq);rw[bw] at az ar ac;obtain⟨dh,⟨k5,al,n5,d5,F,a5⟩,de⟩:=f;unfold pv spv PE.sz at *;simp only at az ar;have ck:=hid ac;have di:=Vi (i:=j) oq;clear g hf T av hfl bw ac;go_wp2;refine wp_region_still_lit kq kq ?_
    repeat still_step
    refine Q6 Q1 _ rfl _ _ true rfl mf Lf D.nm rfl rfl ba.out.f (.tuple #[.int .i64 (j:Int),.bool true]) ?_ ?_
    ·rw[HF.out D.nm,ay.out];rfl
    repeat still_step
    refine wpStill_nil ?_;go_wp2_with (go_at_call 95;refine(az.out wr.drew ((HM.out.low.trans (z.out.low.mono ch)).drew)).mono ?_;rintro x w5 ⟨⟨br,ap,rfl,aq⟩,hb5⟩;have dk:=hb5.size;have bh:=(hb5.block w.heap.size (by show w.heap.size<wr.heap.size;omega)).trans z.out.b0;obtain⟨⟨y0,y1,y2,y3,y4,y5,y6⟩,yf⟩:=Y7 bh;have HB5:=hid (show Below wr.heap.size wr w5 from ⟨hb5.os,hb5.tape,hb5.output,hb5.size,hb5.block⟩);have cr:=hid bh;have bj:=hid aq;clear hb5 bh aq);have hX:=z.out.next HB5.out (ZeE w5 w.heap.size (.int .i64 k5) (.string al) (.int .i64 n5) (.int .i64 d5) (.slice br F.len ap) (.int .i64 a5) (.string (dg j))) E.out (show Qv W0 ⟨k5,al,n5,d5,F,a5⟩ br ap (dg j) from ⟨bj.out,ck.out,by show(dg j).size+3*F.sz≤500;omega,by show F.sz<100;omega⟩) (Zgr cr.out _ _ _ _ _ _ _);refine⟨hid ⟨M,_,_,_,_,_,_,hX⟩,?_⟩;rw[bn.out];exact qF bm.out ⟨_,_,_,_,_,_,hX⟩
 rw[Z2 ae] at g
 cases hc:D.args.at 0 with
 | none=>rw[hc] at g;cases g
 | some c =>
  rw[hc] at g;simp only at g;have E:=hid g;have dc:(D.k != 1)=true:=bne_iff_ne.2 ae;have bk:=hid (fun(w':World) (hb:Below W0.heap.size W0 w')=>JN hb D c Z H y 0 z.out.sp hc);have cp:=hid (fun(w':World)=>U8 (w:=w') D Z H);obtain⟨k2,cz,n2,d2,bb,a2⟩:=D;obtain⟨k5,al,n5,d5,F,a5⟩:=c;unfold spv ev at *;simp only at *;clear g hc ae T;go_wp2;have bv:w.heap.size+1+1<wr.heap.size:=oq;go_region_law (first|(refine step_append_lies _ (by rfl) _ _ _ (by rfl) (w.heap.size+3) 156 i0 _ 3 24 underlying67 aj.out.1 aj.out.2.1 aj.out.2.2.1 aj.out.2.2.2 rfl oq (.slice G q.length C) q.length (QB q) (by rfl) ((own_below z.out.own HB3.out).alloc _) ⟨w3.heap.size,0,none⟩ 1 1 [.int .i64 k2,.int .i64 n2,.int .i64 d2] (by rfl) (by rfl) (World.news_of_block (Zz _ _)) (by simp[Value.oneCell']) oq (by unfold maxLen;omega) oq (by simp;omega) (w3.heap.size+1) (by simp) ?_;intro gg am w4 ag X da dd;have ak:=z.out.more (o:=(k2,n2,d2)) HB3.out ag X oq (M:=M) (res':=(s,ops));have cy:w4.cell? ⟨w.heap.size+1+1,1,none⟩=some (.slice G q.length C):=(Zn (w:=wr) (ak.1 _ (by show w.heap.size+1+1<w.heap.size+3;omega))).trans c1;have cx:w4.frozen? ⟨w.heap.size+1+1,1,none⟩=false:=(Z6 (w:=wr) (ak.1 _ (by show w.heap.size+1+1<w.heap.size+3;omega))).trans (bc _);have aa:=hid ak;clear ak ag X)|(go_simp;go_at_call 133;refine(cp.out _).mono ?_;rintro x w3 ⟨rfl,hb3⟩;have dm:w3.cell? ⟨w.heap.size+1+1,1,none⟩=some (.slice G q.length C):=(hb3.cell (p:=⟨w.heap.size+1+1,1,none⟩) bv).trans c1;have l3:w.heap.size+1+1<w3.heap.size:=Zd bv hb3.size;have HB3:=hid (show Below wr.heap.size wr w3 from ⟨hb3.os,hb3.tape,hb3.output,hb3.size,hb3.block⟩);clear hb3))
  all_goals
   have V:(w4.setCell ⟨w.heap.size+1+1,1,none⟩ (.slice (some ⟨gg,0,none⟩) (q.length+1) am)).heap[w.heap.size]?=some (Kd ⟨k2,cz,n2,d2,bb,a2⟩ Z H y):=(Zr _ _ _ _ (by simp;omega)).trans ((aa.out.1 _ oq).trans z.out.b0);obtain⟨W5,bu⟩:=ez (w4.setCell ⟨w.heap.size+1+1,1,none⟩ (.slice (some ⟨gg,0,none⟩) (q.length+1) am));rw[bu] at V aa ⊢;clear x0 x1 x2 x3 x4 x5 x6 xf;obtain⟨⟨x0,x1,x2,x3,x4,x5,x6⟩,xf⟩:=Y7 V;have bl:=hid V;clear V bu cy cx;go_wp2_with (go_at_call 100;refine(bk.out W5 (HM.out.low.trans (aa.out.2.1.1.mono ch))).mono ?_;rintro x w6 ⟨⟨cu,bs,rfl,ax⟩,hb6⟩;have bi:=(hb6.block w.heap.size (by have:=aa.out.2.1.2;omega)).trans bl.out;obtain⟨⟨y0,y1,y2,y3,y4,y5,y6⟩,yf⟩:=Y7 bi;have HB6:=hid hb6;have ct:=hid bi;have bp:=hid ax;clear hb6 bi ax);have hX:=aa.out.2.2 M _ _ _ _ E.out bp.out w6 _ HB6.out (ZeE w6 w.heap.size (.int .i64 k5) (.string al) (.int .i64 n5) (.int .i64 d5) (.slice cu F.len bs) (.int .i64 a5) (.string (y++⟨#[47]⟩++dg 0))) (Zgr ct.out _ _ _ _ _ _ _);refine⟨hid ⟨M,_,_,_,_,_,_,hX⟩,?_⟩;rw[bn.out];exact qF bm.out ⟨_,_,_,_,_,_,hX⟩
theorem Zdy{W0 w:World}(p:PG)(an I H J:Option Addr)(O M L R:Nat)(hp:AP W0 p an I H J O M L R)(z:JX p)(mc mi mf mn mx m:Nat)(T E D U F:List (ByteArray × Value))(Z:Mkr W0 p an I H J O M L R mc mi mf mn mx m T E D U F w)
  (xIx q iIx:IE)(hX:XK F xIx)(X:XK D q)(Y:XK E iIx)(A:∀k j,xIx k=some j→j≤1000)(N:Nat)(e:PE)(f:ByteArray)(G:Option Addr)(cap:Nat)(hs:Qv W0 e G cap f)(s:Nat)(ops:List Op3)(y:XL p.flows p.ins.length xIx q iIx N e f []=some (s,ops)) :
  Calls prog 99 #[.pointer (some ⟨m,0,none⟩),spv e G cap f] w fun x w'=>x=.returned (.bool (decide (ops.length≤20)))∧Below w.heap.size w w':=by
 have HA:=hid (fun(w':World) (hb:Below w.heap.size w w')=>zz p an I H J O M L R hp z mc mi mf mn mx m T E D U F (Z.grow hb) xIx q iIx hX X Y A N e f G cap hs s ops y);have C:∀(u0 u1:Value)(w:World),(Instr.field 69 (.agg #[u0,u1]) 1).run prog w=.ok u1 w:=fun u0 u1 w=>by kernel_rfl
 clear Z hp z hX X Y A hs y;unfold spv at *;go_enter func99,ntmps99;go_wp2_with (go_at_call 104;refine(HA.out _ bq).mono ?_;rintro x w1 ⟨⟨v,rfl,g⟩,hb1⟩;obtain⟨aa,V,rfl⟩:=YI g;clear g);go_ret;refine⟨?_,bq⟩;have h:((ops.length:Int)≤20)↔ops.length≤20:=oq;simp only[h];rfl
theorem kI{w:World}{b:Nat}{f g j m q v:Value}{t:TypeId}(h:w.heap[b]?=some (.cells #[f,g,j,m,q,v] t (0,0))) :
  (w.cell? ⟨b,0,none⟩=some f∧w.cell? ⟨b,1,none⟩=some g∧w.cell? ⟨b,2,none⟩=some j∧w.cell? ⟨b,3,none⟩=some m∧w.cell? ⟨b,4,none⟩=some q∧w.cell? ⟨b,5,none⟩=some v)∧∀o,w.frozen? ⟨b,o,none⟩=false:=by
 refine⟨⟨?_,?_,?_,?_,?_,?_⟩,?_⟩
 all_goals first|(intro o;simp[World.frozen?,h])|simp[World.cell?,h]
def ZeN(env:Env)(e:PE):Prop:=∀x∈e::Xu e.args,okE env x=true
theorem qy:∀(l:PL)(i:Nat)(c:PE),l.at i=some c→∀x∈c::Xu c.args,x∈Xu l
 | .cons k nm n d args a tl,0,c,h,x,hx=>by
  injection h with h
  subst h;simp only[Xu,ZR,List.mem_append] at hx ⊢;rcases hx with hx|hx
  ·exact .inl hx
  exact .inr (.inl hx)
 | .cons k nm n d args a tl,i+1,c,h,x,hx=>by
  have:=qy tl i c h x hx;simp only[Xu,ZR,List.mem_append];exact .inr (.inr this)
theorem ZeN.child{env:Env}{e c:PE}{i:Nat}(h:ZeN env e)(hc:e.args.at i=some c):ZeN env c:=fun x hx=>h x (List.mem_cons_of_mem _ (qy _ _ _ hc x hx))
theorem ZeA{w:World}{b:Nat}{j m:Value}{t:TypeId}(h:w.heap[b]?=some (.cells #[j,m] t (0,0)))(u0 u1:Value):((w.setCell ⟨b,0,none⟩ u0).setCell ⟨b,1,none⟩ u1).heap[b]?=some (.cells #[u0,u1] t (0,0)):=by
 have f:=Zj _ b 0 _ t u0 h;have g:=Zj _ b 1 _ t u1 f;simpa only [sA,sB,sC] using g
def eG(clk:ByteArray→Int × Int)(k:Int)(nm:ByteArray)(n d:Int)(c:Int × Int):Int × Int :=
 if k=1 then clk nm else if k=2 then c else ((clock.YB c.1 c.2 k n d).1,(clock.YB c.1 c.2 k n d).2.1)
def vA(clk:ByteArray→Int × Int):PL→Int × Int
 | .nil=>(0,0)
 | .cons k nm n d args a tl=>eG clk k nm n d (vA clk args)
def UY(clk:ByteArray→Int × Int)(e:PE):Int × Int:=eG clk e.k e.nm e.n e.d (vA clk e.args)
def XB(env:Env)(nm:ByteArray):Int × Int:=(env nm).getD (0,0)
theorem vB(clk:ByteArray→Int × Int){l:PL}{c:PE}(h:l.at 0=some c):vA clk l=UY clk c:=by
 cases l with
 | nil=>cases h
 | cons k nm n d args a tl=>cases h;rfl
theorem xX{W0:World}(p:PG)(an ai af ao:Option Addr)(cn ci cf co:Nat)(mc mi mf mn mx m:Nat)(Lc Li Lf Ln Lx:List (ByteArray × Value))(env:Env)(hC:XY Lc env) :
  ∀(M:Nat)(e:PE),e.args.sz<M→YE e=true→∀(w:World)(ad:Option Addr)(cap:Nat),AE W0 e ad cap→Mkr W0 p an ai af ao cn ci cf co mc mi mf mn mx m Lc Li Lf Ln Lx w →
   Calls prog 132 #[.pointer (some ⟨m,0,none⟩),ev e ad cap] w fun x w'=>x=.returned (.agg #[.int .i64 (UY (XB env) e).1,.int .i64 (UY (XB env) e).2])∧Below w.heap.size w w':=by
 intro M
 induction M with
 | zero=>intro e h;omega
 | succ M ih =>
  intro e hM hex w ad cap ag E;have bf:=E.lt;have q:=E.low;have cj:=q.size;obtain⟨⟨z0,z1,z2,z3,z4,z5,z6,z7,z8⟩,zf⟩:=Y4 (show w.heap[m]?=_ from E.box);by_cases D:e.k=1
  ·obtain⟨c,g⟩:=ez (XB env e.nm);have aq:UY (XB env) e=c:=by
    unfold UY eG;rw[Z2 D,g]
   rw[aq];have hg:(Xn e.nm Lc).getD (cvv (0,0))=cvv c:=by
    rw[hC e.nm,←g];unfold XB
    cases env e.nm<;>rfl
   clear aq g
   skip
   obtain⟨k,T,n,d,args,a⟩:=e;simp only at D hg;subst D;have HG:=hid hg;have HC:=hid E.c;unfold ev;simp only;clear ih hC ag E hg hex;go_enter func132,ntmps132;go_wp2;obtain⟨j,y⟩:=ez ((w.alloc (.cells #[.int .i64 1,.string T,.int .i64 n,.int .i64 d,.slice ad args.len cap,.int .i64 a] 88)).alloc (.cells #[.int .i64 0,.int .i64 0] 62));rw[y];have G:Below w.heap.size w j:=by rw[←y];exact bq
   have ap:j.heap[w.heap.size]?=some (.cells #[.int .i64 1,.string T,.int .i64 n,.int .i64 d,.slice ad args.len cap,.int .i64 a] 88 (0,0)):=by rw[←y];exact(Za _ _ _ (by simp)).trans (Yw w _)
   have hb1:j.heap[w.heap.size+1]?=some (.cells #[.int .i64 0,.int .i64 0] 62 (0,0)):=by rw[←y];simpa using Yw (w.alloc (.cells #[.int .i64 1,.string T,.int .i64 n,.int .i64 d,.slice ad args.len cap,.int .i64 a] 88)) (.cells #[.int .i64 0,.int .i64 0] 62)
   have ce:=(G.cell (p:=⟨m,4,none⟩) bf).trans z4;obtain⟨⟨x0,x1,x2,x3,x4,x5⟩,xf⟩:=kI ap;obtain⟨⟨q0,q1⟩,qf⟩:=YD hb1;have HB:=hid G;have ba:=hid (HC.out.below G);clear y G ap z0 z1 z2 z3 z4 z5 z6 z7 z8 zf;refine wp_region_still_tail 7 kq kq ?_;simp only[List.take_succ_cons,List.take_zero,List.drop_succ_cons,List.drop_zero]
   repeat still_step
   refine Q6 QL _ rfl _ _ false rfl mc Lc T rfl rfl ba.out (cvv c) ?_ ?_
   ·exact HG.out
   repeat still_step
   try refine wpStill_nil ?_
   change wpList _ _ _ _ _ j.drew
   unfold cvv;go_wp2;refine Zl (v:=.agg #[.int .i64 c.1,.int .i64 c.2]) ?_ rfl ⟨rfl,?_⟩
   ·simp only[results,results132];go_simp
   exact(((HB.out.drew).setCell (p:=⟨w.heap.size+1,0,none⟩) (ZX _ 1) _).setCell (p:=⟨w.heap.size+1,1,none⟩) (ZX _ 1) _)
  obtain⟨_,ax,ay⟩:=GE hex;have J:0<e.args.len:=by
   by_cases z:e.k=2
   ·exact ax z
   rw[ay D z];exact Nat.one_pos
  obtain⟨c,hc,_⟩:=PL.at_some e.args 0 J;have ar:=vB (XB env) hc;obtain⟨⟨pp,ff⟩,C⟩:=ez (UY (XB env) e);obtain⟨⟨p1,f1⟩,L⟩:=ez (UY (XB env) c);have O:(if e.k=2 then p1=pp∧f1=ff else (clock.YB p1 f1 e.k e.n e.d).1=pp∧(clock.YB p1 f1 e.k e.n e.d).2.1=ff):=by
   unfold UY eG at C;rw[Z1 D,ar,L] at C;by_cases z:e.k=2
   ·rw[Z2 z] at C ⊢;injection C with h1 h2
    exact⟨h1,h2⟩
   rw[Z1 z] at C ⊢;injection C with h1 h2
   exact⟨h1,h2⟩
  rw[C];obtain⟨b,o,rfl,hb,am⟩:∃b o,ad=some ⟨b,o,none⟩∧b<W0.heap.size∧AC W0 e.args b o:=by
   rcases ag.args with h0|h0
   ·rw[h0] at hc;cases hc
   exact h0
  obtain⟨bc,ak,y0,y1,y2,y3,y4,y5,Z⟩:=kC _ am 0 c hc;rw[Nat.zero_mul,Nat.add_zero] at y0 y1 y2 y3 y4 y5;have ae:=ih c (by have:=(K8 _ _ _ hc).2;omega) (VC hex hc);rw[L] at ae;have HC:=hid (fun(w':World) (hb:Below w.heap.size w w')=>ae w' bc ak Z (E.grow hb));have be:(0:Int)<(e.args.len:Int):=by have:=(K8 _ _ _ hc).1;omega
  have bz:=hid q;obtain⟨k,T,n,d,args,a⟩:=e;obtain⟨k5,ct,n5,d5,bd,a5⟩:=c;unfold ev at *;simp only at D be O y0 y1 y2 y3 y4 y5 HC ⊢;have ca:(k == 1)=false:=ZY.2 D;have F:=hid O;have H:b<w.heap.size:=oq;have e0:=(q.cell (p:=⟨b,o,none⟩) hb).trans y0;have e1:=(q.cell (p:=⟨b,o+1,none⟩) hb).trans y1;have e2:=(q.cell (p:=⟨b,o+2,none⟩) hb).trans y2;have e3:=(q.cell (p:=⟨b,o+3,none⟩) hb).trans y3;have e4:=(q.cell (p:=⟨b,o+4,none⟩) hb).trans y4;have e5:=(q.cell (p:=⟨b,o+5,none⟩) hb).trans y5;clear ih hC ag E hex am Z ae hc O ar C L ax ay J z0 z1 z2 z3 z4 z5 z6 z7 z8 zf y0 y1 y2 y3 y4 y5 q;by_cases z:k=2
  ·subst z;have hr:=F.out;rw[Z2 rfl] at hr;obtain⟨rfl,rfl⟩:=hr;clear F;go_enter func132,ntmps132;go_wp2_with (go_at_call 132;refine(HC.out _ bq).mono ?_;rintro x I ⟨rfl,hb1⟩;obtain⟨cg,ch⟩:=YC hb1;have a1:w.heap.size+1<I.heap.size:=Yy hb1 (by simp));refine Zl (v:=.agg #[.int .i64 p1,.int .i64 f1]) ?_ rfl ⟨rfl,bq⟩;simp only[results,results132];go_simp
  have cb:(k == 2)=false:=ZY.2 z;have hr:=F.out;rw[Z1 z] at hr;obtain⟨r1,r2⟩:=hr;have aj:=hid (fun(w':World)=>clock.VY p1 f1 k n d w');obtain⟨er,au⟩:=ez ((clock.YB p1 f1 k n d).2.2);have aa:clock.yz (clock.YB p1 f1 k n d)=.tuple #[.agg #[.int .i64 pp,.int .i64 ff],.int .i64 er]:=by
   unfold clock.yz clock.Km;rw[au,r1,r2]
  rw[aa] at aj;have ab:=hid (fun(w':World)=>U8 (w:=w') ⟨k,T,n,d,args,a⟩ (some ⟨b,o,none⟩) cap);unfold ev at ab;simp only at ab;clear F r1 r2 aa au;go_enter func132,ntmps132;go_upto_region 6 with fail
  obtain⟨j,y⟩:∃j,(w.alloc (.cells #[.int .i64 k,.string T,.int .i64 n,.int .i64 d,.slice (some ⟨b,o,none⟩) args.len cap,.int .i64 a] 88)).alloc (.cells #[.int .i64 0,.int .i64 0] 62)=j:=⟨_,rfl⟩;rw[y];have G:Below w.heap.size w j:=by rw[←y];exact bq
  have bg:j.heap.size=w.heap.size+2:=by rw[←y];simp
  have av:j.heap[w.heap.size]?=some (.cells #[.int .i64 k,.string T,.int .i64 n,.int .i64 d,.slice (some ⟨b,o,none⟩) args.len cap,.int .i64 a] 88 (0,0)):=by rw[←y];exact(Za _ _ _ (by simp)).trans (Yw w _)
  have ah:j.heap[w.heap.size+1]?=some (.cells #[.int .i64 0,.int .i64 0] 62 (0,0)):=by rw[←y];simpa using Yw (w.alloc (.cells #[.int .i64 k,.string T,.int .i64 n,.int .i64 d,.slice (some ⟨b,o,none⟩) args.len cap,.int .i64 a] 88)) (.cells #[.int .i64 0,.int .i64 0] 62)
  obtain⟨⟨x0,x1,x2,x3,x4,x5⟩,xf⟩:=kI av;obtain⟨⟨q0,q1⟩,qf⟩:=YD ah;have g0:=(G.cell (p:=⟨b,o,none⟩) H).trans e0;have g1:=(G.cell (p:=⟨b,o+1,none⟩) H).trans e1;have g2:=(G.cell (p:=⟨b,o+2,none⟩) H).trans e2;have g3:=(G.cell (p:=⟨b,o+3,none⟩) H).trans e3;have g4:=(G.cell (p:=⟨b,o+4,none⟩) H).trans e4;have g5:=(G.cell (p:=⟨b,o+5,none⟩) H).trans e5;have HB:=hid G;have ck:b<j.heap.size:=oq;have cl:w.heap.size<j.heap.size:=oq;have bu:w.heap.size+1<j.heap.size:=oq;have bb:=hid ah;clear y G av ah e0 e1 e2 e3 e4 e5 bg;have cd:0<args.len:=oq;have cm:b<j.heap.size+1:=oq;have cp:w.heap.size<j.heap.size+1:=oq;have cq:w.heap.size≤j.heap.size:=oq;have cr:b≤j.heap.size:=oq;have cc:¬args.len=0:=oq;go_cut [5] (fun s5 W=>Hid (∃X,s5=.pointer (some ⟨X,0,none⟩)∧j.heap.size≤X∧W.heap[X]?=some (.cells #[.int .i64 pp,.int .i64 ff] 62 (0,0))∧Below j.heap.size j W))
  case first =>
   go_region_law (go_simp;first|(go_at_call 132;refine(HC.out _ bq).mono ?_;rintro x I ⟨rfl,hb1⟩;have bh:j.heap.size≤I.heap.size:=(by have h:=hb1.size;first|exact h|(simp at h;omega)|omega);have br:b<I.heap.size:=oq;have bv:w.heap.size<I.heap.size:=oq;have bk:=(fun o=>hb1.cell (p:=⟨w.heap.size,o,none⟩) (by first|assumption|(simp;done)|(simp;omega)|omega));have bn:=(fun o=>hb1.cell (p:=⟨b,o,none⟩) (by first|assumption|(simp;done)|(simp;omega)|omega));first|(have A:=(hb1.block _ (Zb f)).trans f;clear f;have f:=A;clear A;have g:=YD f;obtain⟨⟨U,V⟩,Y⟩:=g)|(have f:I.heap[j.heap.size]?=some (.cells #[.int .i64 0,.int .i64 0] 62 (0,0)):=(hb1.block j.heap.size (by simp)).trans (Yw j.drew _);have g:=YD f;obtain⟨⟨U,V⟩,Y⟩:=g)|(have f:I.heap[R.heap.size]?=some (.cells #[.int .i64 0,.int .i64 0] 62 (0,0)):=(hb1.block R.heap.size (by simp)).trans (Yw R _);have g:=YD f;obtain⟨⟨U,V⟩,Y⟩:=g)|skip)|(go_at_call 133;refine(ab.out _).mono ?_;rintro x R ⟨rfl,hb3⟩;have bi:j.heap.size≤R.heap.size:=(by have h:=hb3.size;first|exact h|(simp at h;omega)|omega);have bs:b<R.heap.size:=oq;have bw:w.heap.size<R.heap.size:=oq;have bl:=(fun o=>hb3.cell (p:=⟨w.heap.size,o,none⟩) (by first|assumption|(simp;done)|(simp;omega)|omega));have bo:=(fun o=>hb3.cell (p:=⟨b,o,none⟩) (by first|assumption|(simp;done)|(simp;omega)|omega));first|(have A:=(hb3.block _ (Zb f)).trans f;clear f;have f:=A;clear A;have g:=YD f;obtain⟨⟨U,V⟩,Y⟩:=g)|(have f:R.heap[j.heap.size]?=some (.cells #[.int .i64 0,.int .i64 0] 62 (0,0)):=(hb3.block j.heap.size (by simp)).trans (Yw j.drew _);have g:=YD f;obtain⟨⟨U,V⟩,Y⟩:=g)|(have f:R.heap[I.heap.size]?=some (.cells #[.int .i64 0,.int .i64 0] 62 (0,0)):=(hb3.block I.heap.size (by simp)).trans (Yw I _);have g:=YD f;obtain⟨⟨U,V⟩,Y⟩:=g)|skip)|(go_at_call 77;refine(aj.out _).mono ?_;rintro x w4 ⟨rfl,hb4⟩;have bj:j.heap.size≤w4.heap.size:=(by have h:=hb4.size;first|exact h|(simp at h;omega)|omega);have bt:b<w4.heap.size:=oq;have bx:w.heap.size<w4.heap.size:=oq;have bm:=(fun o=>hb4.cell (p:=⟨w.heap.size,o,none⟩) (by first|assumption|(simp;done)|(simp;omega)|omega));have bp:=(fun o=>hb4.cell (p:=⟨b,o,none⟩) (by first|assumption|(simp;done)|(simp;omega)|omega));first|(have A:=(hb4.block _ (Zb f)).trans f;clear f;have f:=A;clear A;have g:=YD f;obtain⟨⟨U,V⟩,Y⟩:=g)|(have f:w4.heap[j.heap.size]?=some (.cells #[.int .i64 0,.int .i64 0] 62 (0,0)):=(hb4.block j.heap.size (by simp)).trans (Yw j.drew _);have g:=YD f;obtain⟨⟨U,V⟩,Y⟩:=g)|(have f:w4.heap[I.heap.size]?=some (.cells #[.int .i64 0,.int .i64 0] 62 (0,0)):=(hb4.block I.heap.size (by simp)).trans (Yw I _);have g:=YD f;obtain⟨⟨U,V⟩,Y⟩:=g)|(have f:w4.heap[R.heap.size]?=some (.cells #[.int .i64 0,.int .i64 0] 62 (0,0)):=(hb4.block R.heap.size (by simp)).trans (Yw R _);have g:=YD f;obtain⟨⟨U,V⟩,Y⟩:=g)|skip))
   all_goals
    go_wp2_with fail;go_meet
    first|exact⟨_,rfl,(by first|exact Zc _|assumption|(simp;done)|omega),ZeA f _ _,bq⟩|exact⟨_,rfl,(by first|exact Zc _|assumption|(simp;done)|omega),Yw _ _,bq⟩
  obtain⟨X,rfl,hX,al,ac⟩:=hcut.out;clear hcut;obtain⟨W3,rfl⟩:=ey wc;obtain⟨⟨r0,r1⟩,rf⟩:=YD al;have aw:=(ac.block _ bu).trans bb.out;clear q0 q1 qf x0 x1 x2 x3 x4 x5 xf g0 g1 g2 g3 g4 g5;obtain⟨⟨q0,q1⟩,qf⟩:=YD aw;have az:=hid (HB.out.trans (ac.mono oq));clear aw al ac;go_wp2;refine Zl (v:=.agg #[.int .i64 pp,.int .i64 ff]) ?_ rfl ⟨rfl,(az.out.setCell (p:=⟨w.heap.size+1,0,none⟩) (ZX _ 1) _).setCell (p:=⟨w.heap.size+1,1,none⟩) (ZX _ 1) _⟩;simp only[results,results132];go_simp
end Go.Proofs.YtgigilkpndhddaaGreatDoor.syn
