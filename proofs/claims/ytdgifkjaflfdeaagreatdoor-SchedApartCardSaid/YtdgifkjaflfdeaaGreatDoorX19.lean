/- Parts of the proof. -/
import Derived.Test.YtdgifkjaflfdeaaGreatDoorX18
set_option linter.all false
set_option maxRecDepth 100000
set_option maxHeartbeats 16000000
namespace Go.Proofs.YtdgifkjaflfdeaaGreatDoor.syn
open Tryz
open Go.RowKit Go.Shelf
abbrev Op3:Type:=Int × Int × Int
def opL(o:Op3):List Value:=[.int .i64 o.1,.int .i64 o.2.1,.int .i64 o.2.2]
def Qy:List Op3->List Value
 | []=>[]
 | o::l=>.int .i64 o.1::.int .i64 o.2.1::.int .i64 o.2.2::Qy l
theorem EW:∀l:List Op3,(Qy l).length=l.length*3
 | []=>rfl
 | o::l=>by simp only[Qy,Zp,EW l];omega
theorem jB:∀a b:List Op3,Qy (a++b)=Qy a++Qy b
 | [],b=>rfl
 | o::a,b=>by simp only[ZD,Qy,jB a b]
theorem EV:∀(l:List Op3)(t:Nat),t<l.length*3->(Qy l)[t]?=some ((opL (l[t/3]!))[t%3]!)
 | [],t,h=>by simp at h
 | o::l,0,h=>rfl
 | o::l,1,h=>rfl
 | o::l,2,h=>rfl
 | o::l,t+3,h=>by
  have e1:(t+3)/3=t/3+1:=oq;have e2:(t+3)%3=t%3:=oq;simp only[Qy,List.getElem?_cons_succ,e1,e2];rw[EV l t (by simp only[Zp] at h;omega)];simp
theorem Zca(l:List Op3):(Go.Sort.flatK opL 3 l.toArray).toList=Qy l:=by
 apply List.ext_getElem?;intro t;by_cases h:t<l.length*3
 .rw[EV l t h];have f:t<(Go.Sort.flatK opL 3 l.toArray).size:=by simpa using h
  have g:=Go.Sort.get_flatK opL 3 l.toArray t (by simpa using h);rw[getElem!_pos _ t f] at g;rw[Array.getElem?_toList,Yo f,g];simp
 rw[Yd (by simp;omega),Yd (by rw[EW];omega)]
theorem Zg0:∀w,(isAgg 183).run prog w=.ok true w:=fun w=>by kernel_rfl
theorem Zgn:∀w,(Go.sizeOf 183).run prog w=.ok 3 w:=fun w=>by kernel_rfl
theorem jP{w:World}{base:Nat}{v:Value}{f:List Op3}(h:w.ownsRow base 183 3 v f.length (Qy f))(Z:f.length<=1000)(R:f≠[]) :
  Calls prog 199 #[v] w fun e w'=>e=.returned (.tuple #[])/\w'.ownsRow base 183 3 v f.length (Qy f.reverse)/\w.grownBy w' v.ownBlock:=by
 obtain⟨g,cap,rfl,hb,X⟩:=h.form (List.length_pos_iff.2 R);have L:Go.Sort.HoldsK opL 3 w g 0 f.toArray:=by
  intro j M;have m:j<f.length*3:=by simpa using M
  refine⟨?_,?_⟩
  .rw[ZE,h.cellAt j m,EV f j m,Go.Sort.get_flatK opL 3 f.toArray j (by simpa using m)];simp
  rw[ZE];exact h.frozenAt j
 refine(Tryz.slices_Reverse 3 Zg0 Zgn opL (fun _=>rfl) (fun x v C=>by simp[opL] at C;rcases C with rfl|rfl|rfl<;>rfl) g 0 cap f.toArray w L (by simp;omega)).mono ?_;rintro e w' ⟨rfl,n,rfl⟩;obtain⟨V,E|⟨U,J,D,C,F,H,z,G,y,T⟩⟩:=h
 .obtain⟨E,_⟩:=E;cases E
 cases C
 refine⟨rfl,⟨by rw[EW,List.length_reverse],.inr ⟨g,cap,Go.Sort.putCells id 0 (Go.Sort.flatK opL 3 f.toArray.reverse) D,rfl,F,?_,z,G,?_,?_⟩⟩,⟨rfl,rfl,rfl,?_,?_⟩⟩
 .simp[Go.Sort.putRowK,Go.Sort.putRow,Go.Sort.mapBlock,Go.Sort.ahead,Array.getElem?_modify,H,Go.Sort.onCells]
 .simp[Go.Sort.putCells,y]
 .rw[<-Zca,show f.reverse.toArray=f.toArray.reverse by simp];apply List.ext_getElem?;intro t;have O:=Nat.mul_le_mul_right 3 z;by_cases ht:t<f.length*3
  .rw[Yp ht,Array.getElem?_toList,Array.getElem?_toList];have q:t<(Go.Sort.flatK opL 3 f.toArray.reverse).size:=by simpa using ht
   rw[Yo q];unfold Go.Sort.putCells;rw[Array.getElem?_mapIdx,Yo (by rw[y];omega)];simp only[Option.map_some,Zk,ZE,true_and,Nat.sub_zero,id];rw[Z3 q,getElem!_pos _ t q]
  rw[Yd (by simp;omega),Yd (by simp;omega)]
 .simp[Go.Sort.putRowK,Go.Sort.putRow,Go.Sort.mapBlock,Go.Sort.ahead]
 intro k Y I;have A:¬g=k:=fun e=>I (by rw[<-e];rfl)
 simp[Go.Sort.putRowK,Go.Sort.putRow,Go.Sort.mapBlock,Go.Sort.ahead,Array.getElem?_modify,A]
theorem xu{w:World}{f:OA}{cap:Nat} :
  Calls prog 199 #[.slice f 0 cap] w fun e w'=>e=.returned (.tuple #[])/\w'=w:=by
 go_enter func199,ntmps199;go_wp2;go_loopw [2,3] (fun a b wr=>a=.int .i64 0/\b=.int .i64 (-1)/\wr=w) (fun _ _ _=>0)
 case atStart=>exact⟨rfl,rfl,rfl⟩
 obtain⟨rfl,rfl,rfl⟩:=hrel;go_wp2;go_end0;exact⟨rfl,rfl⟩
noncomputable def EH(P:Nat->Prop):Nat:=@Classical.epsilon Nat ⟨0⟩ (fun n=>P n/\∀m,P m->n<=m)
theorem Gl{P:Nat->Prop}(h:∃n,P n):P (EH P)/\∀m,P m->EH P<=m:=by
 refine Classical.epsilon_spec (p:=fun n=>P n/\∀m,P m->n<=m) ?_;obtain⟨n,q⟩:=h
 induction n using Nat.strongRecOn with
 | _ n ih =>
  by_cases j:∃m,m<n/\P m
  .obtain⟨m,f,g⟩:=j;exact ih m f g
  exact⟨n,q,fun m g=>Nat.le_of_not_lt (fun f=>j ⟨m,f,g⟩)⟩
def XG(flows:List FL)(nI:Nat)(xIx fIx iIx:IE):Nat->PE->ByteArray->List Op3->Option (Nat × List Op3)
 | 0,_,_,_=>none
 | N+1,e,way,ops =>
  if 20<ops.length then some (0,ops)
  else if e.k=2 then some (nI+(xIx way).getD 0,ops)
  else if e.k≠1 then (match e.args.at 0 with
   | some c=>XG flows nI xIx fIx iIx N c (way++⟨#[47]⟩++dg 0) (ops++[(e.k,e.n,e.d)])
   | none=>none)
  else match fIx e.nm with
   | some j=>(match flows[j]? with
    | some f=>XG flows nI xIx fIx iIx N f.e (dg j) ops
    | none=>none)
   | none=>some ((iIx e.nm).getD 0,ops)
def Xe(flows:List FL)(nI:Nat)(xIx fIx iIx:IE)(e:PE):Prop:=∃N,∀way ops,XG flows nI xIx fIx iIx N e way ops≠none
section
variable {flows:List FL} {nI:Nat} {xIx fIx iIx:IE}
theorem UM{e:PE}(h:e.k=2):Xe flows nI xIx fIx iIx e:=⟨1,fun way ops=>by
 rw[XG];by_cases hl:20<ops.length
 .rw[Z3 hl];exact Option.some_ne_none _
 rw[Z2 hl,Z3 h];exact Option.some_ne_none _⟩
theorem Ed{e c:PE}(j:e.k≠2)(g:e.k≠1)(q:e.args.at 0=some c)(h:Xe flows nI xIx fIx iIx c):Xe flows nI xIx fIx iIx e:=by
 obtain⟨N,m⟩:=h;refine⟨N+1,fun way ops=>?_⟩;rw[XG];by_cases f:20<ops.length
 .rw[Z3 f];exact Option.some_ne_none _
 rw[Z2 f,Z2 j,Z3 g,q];exact m _ _
theorem UN{e:PE}(v:e.k=1)(h:∀j,fIx e.nm=some j->∃f,flows[j]?=some f/\Xe flows nI xIx fIx iIx f.e):Xe flows nI xIx fIx iIx e:=by
 cases hf:fIx e.nm with
 | none =>
  refine⟨1,fun way ops=>?_⟩;rw[XG];by_cases g:20<ops.length
  .rw[Z3 g];exact Option.some_ne_none _
  rw[Z2 g,Z2 oq,Z2 oq,hf];exact Option.some_ne_none _
 | some j =>
  obtain⟨f,m,N,q⟩:=h j hf;refine⟨N+1,fun way ops=>?_⟩;rw[XG];by_cases g:20<ops.length
  .rw[Z3 g];exact Option.some_ne_none _
  rw[Z2 g,Z2 oq,Z2 oq,hf];simp only[m];exact q _ _
theorem GA:∀{l:PL},l.len=1->∃k nm n d args a,l=.cons k nm n d args a .nil
 | .cons k nm n d args a .nil,_=>⟨k,nm,n,d,args,a,rfl⟩
 | .cons _ _ _ _ _ _ (.cons _ _ _ _ _ _ _),h=>by simp only[PL.len] at h;omega
 | .nil,h=>by simp only[PL.len] at h;omega
theorem Zak{env:Env}(A:∀nm,env nm≠none->∀j,fIx nm=some j->∃f,flows[j]?=some f/\Xe flows nI xIx fIx iIx f.e) :
  ∀(M:Nat)(e:PE),e.args.sz<M->YF e=true->∀p q,YY env e=.ok p q->Xe flows nI xIx fIx iIx e:=by
 intro M
 induction M with
 | zero=>intro e h;omega
 | succ M ih =>
  intro e E hex p q ht;by_cases x:e.k=2
  .exact UM x
  by_cases v:e.k=1
  .refine UN v (A e.nm ?_);intro z;unfold YY Xg at ht;rw[Z3 v,z] at ht
   cases ht
  obtain⟨k,nm,n,d,args,a,g⟩:=GA ((GI hex).2.2 v x);have y:e.args.at 0=some ⟨k,nm,n,d,args,a⟩:=by rw[g];rfl
  have m:∃p q,YY env ⟨k,nm,n,d,args,a⟩=.ok p q:=by
   unfold YY at ht;unfold Xg at ht;rw[Z2 v,g] at ht;unfold YY;simp only[YU] at ht
   cases h3:Xg env k nm n d a (YU env args) with
   | ok p1 q1=>exact⟨p1,q1,rfl⟩
   | unk=>rw[h3] at ht;cases ht
   | bad a1 e1=>rw[h3] at ht;cases ht
  obtain⟨C,D,m⟩:=m;refine Ed x v y (ih _ ?_ (VB hex y) C D m);have:=(K8 _ _ _ y).2;omega
theorem vZ{Xb env:Env}(A:GrE Xb flows env)(C:∀nm,Xb nm≠none->fIx nm=none)(F:∀f∈flows,YF f.e=true)(E:∀i j (hi:i<flows.length) (g:j<flows.length),flows[i].nm=flows[j].nm->i=j)
  (D:∀nm j,fIx nm=some j->∃h:j<flows.length,flows[j].nm=nm):∀nm,env nm≠none->∀j,fIx nm=some j->∃f,flows[j]?=some f/\Xe flows nI xIx fIx iIx f.e:=by
 induction A with
 | base=>intro nm z j g;rw[C nm z] at g;cases g
 | step A hf hnone ht ih =>
  rename_i env1 f p q
  intro nm z j g;obtain⟨v,y⟩:=D nm j g;by_cases x:nm=f.nm
  .obtain⟨i,hi,m⟩:=Yn hf;obtain rfl:i=j:=E i j hi v (by rw[m,y,x]);exact⟨f,by rw[Ze v,m],Zak ih _ f.e (ZX _) (F f hf) p q ht⟩
  refine ih nm (fun h=>z ?_) j g;unfold upd;rw[Z2 x];exact h
theorem ZbX(x:∀nm j,fIx nm=some j->∃f,flows[j]?=some f/\Xe flows nI xIx fIx iIx f.e):∀(M:Nat)(e:PE),e.args.sz<M->YF e=true->Xe flows nI xIx fIx iIx e:=by
 intro M
 induction M with
 | zero=>intro e h;omega
 | succ M ih =>
  intro e y hex;by_cases q:e.k=2
  .exact UM q
  by_cases m:e.k=1
  .exact UN m (x e.nm)
  obtain⟨k,nm,n,d,args,a,g⟩:=GA ((GI hex).2.2 m q);have v:e.args.at 0=some ⟨k,nm,n,d,args,a⟩:=by rw[g];rfl
  refine Ed q m v (ih _ ?_ (VB hex v));have:=(K8 _ _ _ v).2;omega
end
theorem qN{P:Nat->Prop}{N M:Nat}(f:N=M+1)(h:P M):EH P<N:=by
 have:=(Gl ⟨M,h⟩).2 M h;omega
theorem VL{w:World}{base:Nat}{v:Value}{f:List Op3}(h:w.ownsRow base 183 3 v f.length (Qy f))(m:f.length<=1000) :
  Calls prog 199 #[v] w fun e w'=>e=.returned (.tuple #[])/\w'.ownsRow base 183 3 v f.length (Qy f.reverse)/\w.grownBy w' v.ownBlock:=by
 cases f with
 | nil =>
  obtain⟨j,cap,rfl⟩:∃j cap,v=.slice j 0 cap:=by
   rcases h.2 with ⟨rfl,_⟩|⟨g,cap,cur,rfl,_⟩
   .exact⟨none,0,rfl⟩
   exact⟨_,cap,rfl⟩
  refine xu.mono ?_;rintro e w' ⟨rfl,rfl⟩;exact⟨rfl,h,World.grownBy.refl _ _⟩
 | cons o l=>exact jP h m (by simp)
theorem Zat:(prog.info? 183).map (fun i=>(i.zero,i.size,i.bytes))=some (some (.agg #[.int .i64 0,.int .i64 0,.int .i64 0]),3,24):=by kernel_rfl
theorem Q5{T K E:TypeId}{z:Value}(M:X3 T K E z)(w:World){f:Array Oper}{rest:List Oper}{o:Oper}{a:Act}{Q:Act->Prop}
  (q:o.guard=none)(m x:Operand)(c:Bool)(j:o.op=Op.lookup T m x c)(mb:Nat)(L:List (ByteArray × Value))(k:ByteArray)
  (v:a.eval m=.map (some mb))(C:a.eval x=.string k)(h:YT w mb L)(u:Value)(y:(if c then .tuple #[(Xm k L).getD z,.bool (Xm k L).isSome] else (Xm k L).getD z)=u)
  (hK:wpStill prog f w Q rest (a.put o.dst u)):wpStill prog f w Q (o::rest) a:=by
 refine wpStill_step fun K' hK'=>?_
 have g:=Qa M h k c;have e:(execOp a.eval o).run prog w=.ok (.value u) w:=by
  rw[<-y];simp[execOp,j,v,C,g]
 have A:Region.wanted o (yielded f a.tmps)=true:=by simp[Region.wanted,q]
 rw[Z3 A];unfold Oper.still;rw[e];exact⟨rfl,hK' _ hK⟩
def Kc(e:PE)(ad:OA)(cap:Nat)(way:ByteArray):Obj:=.cells #[.int .i64 e.k,.string e.nm,.int .i64 e.n,.int .i64 e.d,.slice ad e.args.len cap,.int .i64 e.a,.string way] 250 (0,0)
structure xN (W0 w:World) (flows:List FL) (nI:Nat) (xIx fIx iIx:IE) (res:Nat × List Op3) (N:Nat) (wr:World) (e:PE) (way:ByteArray) (ad:OA) (cap:Nat) (ops:List Op3) (v:Value):Prop where
 go:XG flows nI xIx fIx iIx N e way ops=some res
 sp:Qs W0 e ad cap way
 b0:wr.1[w.1.size]?=some (Kc e ad cap way)
 b1:wr.1[w.1.size+1]?=some (.cells #[.int .i64 0,.slice none 0 0] 92 (0,0))
 b2:wr.1[w.1.size+1+1]?=some (.cells #[.int .i64 0,v] 92 (0,0))
 own:wr.ownsRow (w.1.size+3) 183 3 v ops.length (Qy ops)
 low:Below w.1.size w wr
 size:w.1.size+3<=wr.1.size
 few:ops.length<=21
def AoN(W0 w:World)(flows:List FL)(nI:Nat)(xIx fIx iIx:IE)(res:Nat × List Op3)(wr:World)(N:Nat):Prop:=∃e way ad cap ops v,xN W0 w flows nI xIx fIx iIx res N wr e way ad cap ops v
theorem Zfk{w:World}{b:Nat}{v0 v1:Value}{t:TypeId}(h:w.1[b]?=some (.cells #[v0,v1] t (0,0)))(u:Value):(w.setCell ⟨b,0,none⟩ u).1[b]?=some (.cells #[u,v1] t (0,0)):=Zj w b 0 _ t u h
structure Zho (w wx:World) (sv:Value) (v:Value) (ops:List Op3) (wv:World):Prop where
 own:wv.ownsRow (w.1.size+3) 183 3 v ops.length (Qy ops.reverse)
 b1:wv.1[w.1.size+1]?=some (.cells #[.int .i64 0,.slice none 0 0] 92 (0,0))
 b2:wv.1[w.1.size+1+1]?=some (.cells #[sv,v] 92 (0,0))
 low:Below w.1.size w wv
 size:w.1.size+3<=wv.1.size
theorem Zgl{w g x:World}{z v:Value}{f:List Op3}(C:g.ownsRow (w.1.size+3) 183 3 v f.length (Qy f))(hb1:g.1[w.1.size+1]?=some (.cells #[.int .i64 0,.slice none 0 0] 92 (0,0)))(hb:g.1[w.1.size+1+1]?=some (.cells #[z,v] 92 (0,0)))(m:Below w.1.size w g)(y:w.1.size+3<=g.1.size)
  (A:x.ownsRow (w.1.size+3) 183 3 v f.length (Qy f.reverse))(j:g.grownBy x v.ownBlock):Zho w g z v f x:=by
 have q:∀k,k<w.1.size+3->x.1[k]?=g.1[k]?:=fun k q=>j.block k oq (fun e=>by have:=QA C k e.symm;omega)
 exact⟨A,(q _ oq).trans hb1,(q _ oq).trans hb,m.trans ⟨j.os,j.tape,j.output,j.size,fun k hk'=>q k oq⟩,Zm y j.size⟩
theorem Zhi{w:World}{b:Nat}{u0 u1 u2 u3 u4 u5 u6:Value}{t:TypeId}(h:w.1[b]?=some (.cells #[u0,u1,u2,u3,u4,u5,u6] t (0,0)))(f g j m q v x:Value) :
  (((((((w.setCell ⟨b,0,none⟩ f).setCell ⟨b,1,none⟩ g).setCell ⟨b,2,none⟩ j).setCell ⟨b,3,none⟩ m).setCell ⟨b,4,none⟩ q).setCell ⟨b,5,none⟩ v).setCell ⟨b,6,none⟩ x).1[b]?=some (.cells #[f,g,j,m,q,v,x] t (0,0)):=by
 have y:=Zj _ b 0 _ t f h;have z:=Zj _ b 1 _ t g y;have A:=Zj _ b 2 _ t j z;have C:=Zj _ b 3 _ t m A;have D:=Zj _ b 4 _ t q C;have E:=Zj _ b 5 _ t v D;have F:=Zj _ b 6 _ t x E;simpa only [sA,sB,sC] using F
theorem Zfn(w:World)(b:Nat)(v0 v1 v2 v3 v4 v5 v6:Value) :
  Upon b w (((((((w.setCell ⟨b,0,none⟩ v0).setCell ⟨b,1,none⟩ v1).setCell ⟨b,2,none⟩ v2).setCell ⟨b,3,none⟩ v3).setCell ⟨b,4,none⟩ v4).setCell ⟨b,5,none⟩ v5).setCell ⟨b,6,none⟩ v6) :=
 (((((((Upon.refl b w).setAt (Or.inl rfl) _).setAt (Or.inl rfl) _).setAt (Or.inl rfl) _).setAt (Or.inl rfl) _).setAt (Or.inl rfl) _).setAt (Or.inl rfl) _).setAt (Or.inl rfl) _
theorem xN.next{W0 w:World}{f:List FL}{nI:Nat}{xIx q iIx:IE}{y:Nat × List Op3}{N:Nat}{wr:World}{e:PE}{F:ByteArray}{H:OA}{cap:Nat}{x:List Op3}{v:Value}(h:xN W0 w f nI xIx q iIx y N wr e F H cap x v)
  {G W':World}(hb:Below wr.1.size wr G)(z:Upon w.1.size G W'){M:Nat}{A:PE}{g:ByteArray}{m:OA}{j:Nat}(D:XG f nI xIx q iIx M A g x=some y)(E:Qs W0 A m j g)(C:W'.1[w.1.size]?=some (Kc A m j g)) :
  xN W0 w f nI xIx q iIx y M W' A g m j x v:=by
 have J:=h.size;have I:=hb.size;exact⟨D,E,C,(z.block _ oq oq).trans ((hb.block _ oq).trans h.b1),(z.block _ oq oq).trans ((hb.block _ oq).trans h.b2),EY (own_below h.own hb) oq z,(h.low.trans (hb.mono oq)).trans (z.below oq (Zc _)),by have:=z.size;omega,h.few⟩
theorem xN.more{W0 w:World}{g:List FL}{nI:Nat}{xIx q iIx:IE}{y:Nat × List Op3}{N:Nat}{wr:World}{e:PE}{F:ByteArray}{H:OA}{cap:Nat}{f:List Op3}{v:Value}(h:xN W0 w g nI xIx q iIx y N wr e F H cap f v)
  {w3 w4:World}(hb:Below wr.1.size wr w3){ob:Obj}{v':Value}{o:Op3}(A:w4.ownsRow (w.1.size+3) 183 3 v' (f.length+1) (Qy f++[.int .i64 o.1,.int .i64 o.2.1,.int .i64 o.2.2]))(z:(w3.alloc ob).grownBy w4 v.ownBlock)(G:f.length<=20){M:Nat}{res':Nat × List Op3} :
  (∀k,k<w.1.size+3->w4.1[k]?=wr.1[k]?)/\(Below w.1.size w (w4.setCell ⟨w.1.size+1+1,1,none⟩ v')/\w.1.size+3<=(w4.setCell ⟨w.1.size+1+1,1,none⟩ v').1.size)/\(∀M e' way' ad' cap',XG g nI xIx q iIx M e' way' (f++[o])=some y->Qs W0 e' ad' cap' way'->∀w5 W',Below (w4.setCell ⟨w.1.size+1+1,1,none⟩ v').1.size (w4.setCell ⟨w.1.size+1+1,1,none⟩ v') w5->Upon w.1.size w5 W'->W'.1[w.1.size]?=some (Kc e' ad' cap' way')->xN W0 w g nI xIx q iIx y M W' e' way' ad' cap' (f++[o]) v'):=by
 have J:=h.size;have D:=hb.size;have m:∀k,k<w.1.size+3->w4.1[k]?=wr.1[k]?:=fun k hk =>
  (z.block k (by simp;omega) (fun e=>by have:=QA h.own k e.symm;omega)).trans ((Za _ _ _ oq).trans (hb.block k oq))
 have E:w.1.size+3<=w4.1.size:=Zm (by simp;omega) z.size;have j:Below w.1.size w w4:=h.low.trans ⟨z.os.trans hb.os,z.tape.trans hb.tape,z.output.trans hb.output,Zm D (Zm (by simp) z.size),fun k hk=>m k oq⟩;have C:w.1.size+3<=(w4.setCell ⟨w.1.size+1+1,1,none⟩ v').1.size:=Zm E ((Zg 0 w4).setCell (p:=⟨w.1.size+1+1,1,none⟩) (Zk _) _).size;refine⟨m,⟨j.setCell (p:=⟨w.1.size+1+1,1,none⟩) (ZY _ 2) _,C⟩,fun M e' way' ad' cap' hgo hsp w5 W' hb5 hu hb0=>?_⟩;have I:=hb5.size;have hb1:(w4.setCell ⟨w.1.size+1+1,1,none⟩ v').1[w.1.size+1]?=some (.cells #[.int .i64 0,.slice none 0 0] 92 (0,0)):=(Zr _ _ _ _ (by simp)).trans ((m _ oq).trans h.b1);have hb2:(w4.setCell ⟨w.1.size+1+1,1,none⟩ v').1[w.1.size+1+1]?=some (.cells #[.int .i64 0,v'] 92 (0,0)):=Zj _ _ _ _ _ _ ((m _ oq).trans h.b2);have x:(w4.setCell ⟨w.1.size+1+1,1,none⟩ v').ownsRow (w.1.size+3) 183 3 v' (f++[o]).length (Qy (f++[o])):=by
  rw[jB,Zy];exact Xc A oq _
 exact⟨hgo,hsp,hb0,(hu.block _ oq oq).trans ((hb5.block _ oq).trans hb1),(hu.block _ oq oq).trans ((hb5.block _ oq).trans hb2),EY (own_below x hb5) oq hu,((j.setCell (p:=⟨w.1.size+1+1,1,none⟩) (ZY _ 2) _).trans (hb5.mono oq)).trans (hu.below oq (Zc _)),by have:=hu.size;omega,by simp;omega⟩
theorem zH{W0 w:World}(p:PG)(an ai af ao:OA)(cn ci cf co:Nat)(hp:AP W0 p an ai af ao cn ci cf co)(bh:JW p)(mc mi mf mn mx m:Nat)(Lc Li Lf Ln Lx:List (ByteArray × Value))(hM:Mkr W0 p an ai af ao cn ci cf co mc mi mf mn mx m Lc Li Lf Ln Lx w)
  (xIx L iIx:IE)(hX:XF Lx xIx)(hF:XF Lf L)(hI:XF Li iIx)(ck:∀k j,xIx k=some j->j<=1000)(N:Nat)(e:PE)(V:ByteArray)(ad:OA)(cap:Nat)(hs:Qs W0 e ad cap V)(s:Nat)(I:List Op3)(g:XG p.flows p.ins.length xIx L iIx N e V []=some (s,I)) :
  Calls prog 148 #[.pointer (some ⟨m,0,none⟩),spv e ad cap V] w fun x w'=>(∃v,x=.returned (.agg #[.int .i64 (s:Int),v])/\w'.ownsRow w.1.size 183 3 v I.length (Qy I.reverse))/\Below w.1.size w w':=by
 have ce:=hM.lt;have cj:=hM.low.size;have dk:=bh.lens;have HM:=hid hM;have HP:=hid hp;have cp:=hid bh;have HX:=hid hX;have HF:=hid hF;have HI:=hid hI;have cr:=hid ck;have HS:=hid hs;have HG:=hid g;clear hM hp bh hX hF hI ck hs g;unfold spv;go_enter func148,ntmps148;go_wp2;obtain⟨W3,T⟩:∃W3,((w.alloc (.cells #[.int .i64 e.k,.string e.nm,.int .i64 e.n,.int .i64 e.d,.slice ad e.args.len cap,.int .i64 e.a,.string V] 250)).alloc (.cells #[.int .i64 0,.slice none 0 0] 92)).alloc (.cells #[.int .i64 0,.slice none 0 0] 92)=W3:=⟨_,rfl⟩;rw[T];have bp:=hid (show AoN W0 w p.flows p.ins.length xIx L iIx (s,I) W3 N from by
  refine⟨e,V,ad,cap,[],.slice none 0 0,HG.o,HS.o,?_,?_,?_,Yg _ _ _ _,?_,?_,by simp⟩
  .rw[<-T];exact(Za _ _ _ (by simp;omega)).trans ((Za _ _ _ (by simp)).trans (Yx w _))
  .rw[<-T];exact(Za _ _ _ (by simp)).trans (by simpa using Yx (w.alloc (.cells #[.int .i64 e.k,.string e.nm,.int .i64 e.n,.int .i64 e.d,.slice ad e.args.len cap,.int .i64 e.a,.string V] 250)) (.cells #[.int .i64 0,.slice none 0 0] 92))
  .rw[<-T];simpa using Yx ((w.alloc (.cells #[.int .i64 e.k,.string e.nm,.int .i64 e.n,.int .i64 e.d,.slice ad e.args.len cap,.int .i64 e.a,.string V] 250)).alloc (.cells #[.int .i64 0,.slice none 0 0] 92)) (.cells #[.int .i64 0,.slice none 0 0] 92)
  .rw[<-T];exact bq
  rw[<-T];simp)
 clear T HS HG;go_loopw [] (fun wr=>Hid (∃N,AoN W0 w p.flows p.ins.length xIx L iIx (s,I) wr N)) (fun wr=>EH (AoN W0 w p.flows p.ins.length xIx L iIx (s,I) wr))
 case atStart=>exact⟨_,bp.o⟩
 obtain⟨⟨D,y,aa,H,q,v2,hA⟩,ax⟩:=Gl hrel.o;clear hrel bp;obtain⟨N2,be⟩:=ez (EH (AoN W0 w p.flows p.ins.length xIx L iIx (s,I) wr));rw[be] at hA ax;obtain⟨G,C,rfl⟩:=YC hA.own;have z:=hid hA;obtain⟨⟨c0,c1⟩,bd⟩:=YI hA.b2;have dc:=hA.few;have dm:=hA.size;have bo:=hid be;clear hA ax be;obtain⟨i0,bz,ca,cb,cc⟩:=info_parts Zat;have ak:=hid (Zh bz (Zh ca (Zh cb cc)));clear bz ca cb cc;by_cases bu:20<q.length
 .have cw:¬(q.length:Int)<=20:=oq;obtain⟨M,hM⟩:∃M,N2=M+1:=by
   cases N2 with
   | zero=>have:=z.o.go;rw[XG] at this;cases this
   | succ M=>exact⟨M,rfl⟩
  have g:=z.o.go;rw[hM,XG,Z3 bu] at g;injection g with g
  have E:=hid g;clear g;go_wp2_with (go_at_call 199;refine(VL (z.o.own) oq).mono ?_;rintro x wv ⟨rfl,R,O⟩;have A:=Zgl (z.o.own) (z.o.b1) (z.o.b2) (z.o.low) (z.o.size) R O;obtain⟨⟨d0,d1⟩,df⟩:=YI A.b2;obtain⟨⟨q0,q1⟩,qf⟩:=YI A.b1;have J:=hid A;have ch:=A.size;clear R O A)
  (refine Zl (v:=.agg #[.int .i64 0,.slice G q.length C]) ?_ rfl ⟨⟨.slice G q.length C,?_,?_⟩,?_⟩;(focus (simp only[results,results148];go_simp));(focus (have g:=E.o;injection g with h1 h2;subst h1;subst h2;first|done|rfl));(focus (have g:=E.o;injection g with h1 h2;subst h1;subst h2;exact Xq (Xc (Xc J.o.own oq _) oq _) oq));exact((J.o.low.setCell (p:=⟨w.1.size+1,0,none⟩) (by show w.1.size<=w.1.size+1;omega) _).setCell (p:=⟨w.1.size+1,1,none⟩) (by show w.1.size<=w.1.size+1;omega) _))
 have cw:(q.length:Int)<=20:=oq;obtain⟨⟨x0,x1,x2,x3,x4,x5,x6⟩,xf⟩:=Y5 (show wr.1[w.1.size]?=some (.cells #[.int .i64 D.k,.string D.nm,.int .i64 D.n,.int .i64 D.d,.slice aa D.args.len H,.int .i64 D.a,.string y] 250 (0,0)) from z.o.b0);have bg:=HM.o.keep (B:=w.1.size) ce z.o.low;have bb:=hid bg;obtain⟨⟨z0,z1,z2,z3,z4,z5,z6,z7,z8⟩,zf⟩:=Y1 (show wr.1[m]?=_ from bg.box);clear bg;obtain⟨M,hM⟩:∃M,N2=M+1:=by
  cases N2 with
  | zero=>have:=z.o.go;rw[XG] at this;cases this
  | succ M=>exact⟨M,rfl⟩
 have g:=z.o.go;rw[hM,XG,Z2 bu] at g;have bn:=hid hM;clear hM;by_cases U:D.k=2
 .rw[Z3 U] at g;injection g with g
  have E:=hid g;clear g;rw[U] at x0;go_wp2;refine wp_region_still_tail 14 kq kq ?_;simp only[List.take_succ_cons,List.take_zero,List.drop_succ_cons,List.drop_zero]
  repeat still_step
  refine Q5 eJ _ rfl _ _ false rfl mx Lx y rfl rfl bb.o.x (.int .i64 (((xIx y).getD 0:Nat):Int)) ?_ ?_
  .rw[HX.o y];cases xIx y<;>rfl
  have cx:(xIx y).getD 0<=1000:=by
   cases hc:xIx y with
   | none=>simp
   | some j=>exact cr.o y j hc
  have av:IntKind.i64.wrap ((p.ins.length:Int)+(((xIx y).getD 0:Nat):Int))=((p.ins.length+(xIx y).getD 0:Nat):Int):=by rw[ZL _ oq];omega
  obtain⟨sx,aj⟩:=ez (p.ins.length+(xIx y).getD 0);obtain⟨nx,cg⟩:=ez ((xIx y).getD 0);rw[aj] at E av;rw[cg] at av ⊢;clear cg aj cx
  repeat still_step
  try refine wpStill_nil ?_
  change wpList _ _ _ _ _ wr.drew
  go_wp2_with (go_at_call 199;refine(VL ((Xc z.o.own oq _).drew) oq).mono ?_;rintro x wv ⟨rfl,R,O⟩;have A:=Zgl ((Xc z.o.own oq _).drew) ((Zr _ _ _ _ (by simp)).trans z.o.b1) (Zfk z.o.b2 _) ((z.o.low.setCell (p:=⟨w.1.size+1+1,0,none⟩) (ZY _ 2) _).drew) (Zm z.o.size ((Zg 0 wr).setCell (p:=⟨w.1.size+1+1,0,none⟩) (Zk _) _).size) R O;obtain⟨⟨d0,d1⟩,df⟩:=YI A.b2;obtain⟨⟨q0,q1⟩,qf⟩:=YI A.b1;have J:=hid A;have ch:=A.size;clear R O A)
  (refine Zl (v:=.agg #[.int .i64 (sx:Int),.slice G q.length C]) ?_ rfl ⟨⟨.slice G q.length C,?_,?_⟩,?_⟩;(focus (simp only[results,results148];go_simp));(focus (have g:=E.o;injection g with h1 h2;subst h1;subst h2;first|done|rfl));(focus (have g:=E.o;injection g with h1 h2;subst h1;subst h2;exact Xq (Xc (Xc J.o.own oq _) oq _) oq));exact((J.o.low.setCell (p:=⟨w.1.size+1,0,none⟩) (by show w.1.size<=w.1.size+1;omega) _).setCell (p:=⟨w.1.size+1,1,none⟩) (by show w.1.size<=w.1.size+1;omega) _))
 rw[Z2 U] at g;have aw:(D.k == 2)=false:=ZZ.2 U;by_cases ag:D.k=1
 .rw[Z2 (show ¬D.k≠1 from fun h=>h ag)] at g;rw[ag] at x0
  cases hf:L D.nm with
  | none =>
   rw[hf] at g;injection g with g
   have E:=hid g;have az:=hid hf;clear g hf U aw;go_wp2;refine wp_region_still_lit kq kq ?_
   repeat still_step
   refine Q5 Q0 _ rfl _ _ true rfl mf Lf D.nm rfl rfl bb.o.f (.tuple #[.int .i64 0,.bool false]) ?_ ?_
   .rw[HF.o D.nm,az.o];rfl
   repeat still_step
   refine wpStill_nil ?_;generalize hW2:({ wr with drawn:=wr.drawn+1 }:World)=W2;have ac:xN W0 w p.flows p.ins.length xIx L iIx (s,I) N2 W2 D y aa H q (.slice G q.length C):=by
    rw[<-hW2];exact⟨z.o.go,z.o.sp,z.o.b0,z.o.b1,z.o.b2,z.o.own,⟨z.o.low.os,z.o.low.tape,z.o.low.output,z.o.low.size,z.o.low.block⟩,z.o.size,z.o.few⟩
   have bf:=HM.o.keep (B:=w.1.size) ce ac.low;clear hW2 c0 c1 bd x0 x1 x2 x3 x4 x5 x6 xf z0 z1 z2 z3 z4 z5 z6 z7 z8 zf;obtain⟨⟨c0,c1⟩,bd⟩:=YI ac.b2;obtain⟨⟨x0,x1,x2,x3,x4,x5,x6⟩,xf⟩:=Y5 (show W2.1[w.1.size]?=some (.cells #[.int .i64 D.k,.string D.nm,.int .i64 D.n,.int .i64 D.d,.slice aa D.args.len H,.int .i64 D.a,.string y] 250 (0,0)) from ac.b0);obtain⟨⟨z0,z1,z2,z3,z4,z5,z6,z7,z8⟩,zf⟩:=Y1 (show W2.1[m]?=_ from bf.box);have Z:=hid ac;have cm:=hid bf;clear ac bf;go_wp2;refine wp_region_still_tail 8 kq kq ?_;simp only[List.take_succ_cons,List.take_zero,List.drop_succ_cons,List.drop_zero]
   repeat still_step
   refine Q5 Q0 _ rfl _ _ false rfl mi Li D.nm rfl rfl cm.o.i (.int .i64 (((iIx D.nm).getD 0:Nat):Int)) ?_ ?_
   .rw[HI.o D.nm];cases iIx D.nm<;>rfl
   obtain⟨sx,aj⟩:=ez ((iIx D.nm).getD 0);rw[aj] at E ⊢;clear aj
   repeat still_step
   try refine wpStill_nil ?_
   change wpList _ _ _ _ _ W2.drew
   go_wp2_with (go_at_call 199;refine(VL ((Xc Z.o.own oq _).drew) oq).mono ?_;rintro x wv ⟨rfl,R,O⟩;have A:=Zgl ((Xc Z.o.own oq _).drew) ((Zr _ _ _ _ (by simp)).trans Z.o.b1) (Zfk Z.o.b2 _) ((Z.o.low.setCell (p:=⟨w.1.size+1+1,0,none⟩) (ZY _ 2) _).drew) (Zm Z.o.size ((Zg 0 W2).setCell (p:=⟨w.1.size+1+1,0,none⟩) (Zk _) _).size) R O;obtain⟨⟨d0,d1⟩,df⟩:=YI A.b2;obtain⟨⟨q0,q1⟩,qf⟩:=YI A.b1;have J:=hid A;have ch:=A.size;clear R O A)
   (refine Zl (v:=.agg #[.int .i64 (sx:Int),.slice G q.length C]) ?_ rfl ⟨⟨.slice G q.length C,?_,?_⟩,?_⟩;(focus (simp only[results,results148];go_simp));(focus (have g:=E.o;injection g with h1 h2;subst h1;subst h2;first|done|rfl));(focus (have g:=E.o;injection g with h1 h2;subst h1;subst h2;exact Xq (Xc (Xc J.o.own oq _) oq _) oq));exact((J.o.low.setCell (p:=⟨w.1.size+1,0,none⟩) (by show w.1.size<=w.1.size+1;omega) _).setCell (p:=⟨w.1.size+1,1,none⟩) (by show w.1.size<=w.1.size+1;omega) _))
  | some j =>
   rw[hf] at g;simp only at g
   cases hfl:p.flows[j]? with
   | none=>rw[hfl] at g;cases g
   | some f =>
    rw[hfl] at g;simp only at g;obtain⟨cd,bx⟩:=ZB.1 hfl;have E:=hid g;have az:=hid hf;obtain⟨au,ae⟩:=cp.o.flows _ (Zi cd);have ba:=hid (fun(w':World) (hb:Below W0.1.size W0 w')=>Qw hb p an ai af ao cn ci cf co HP.o j cd oq);rw[bx] at ba au ae;obtain⟨di,⟨k5,am,n5,d5,F,a5⟩,dh⟩:=f;unfold pv spv PE.sz at *;simp only at ba au;have cl:=hid ae;have dj:=Vi (i:=j) oq;clear g hf U aw hfl bx ae;go_wp2;refine wp_region_still_lit kq kq ?_
    repeat still_step
    refine Q5 Q0 _ rfl _ _ true rfl mf Lf D.nm rfl rfl bb.o.f (.tuple #[.int .i64 (j:Int),.bool true]) ?_ ?_
    .rw[HF.o D.nm,az.o];rfl
    repeat still_step
    refine wpStill_nil ?_;go_wp2_with (go_at_call 139;refine(ba.o wr.drew ((HM.o.low.trans (z.o.low.mono cj)).drew)).mono ?_;rintro x w5 ⟨⟨bs,aq,rfl,ar⟩,hb5⟩;have dl:=hb5.size;have bi:=(hb5.block w.1.size (by show w.1.size<wr.1.size;omega)).trans z.o.b0;obtain⟨⟨y0,y1,y2,y3,y4,y5,y6⟩,yf⟩:=Y5 bi;have HB5:=hid (show Below wr.1.size wr w5 from ⟨hb5.os,hb5.tape,hb5.output,hb5.size,hb5.block⟩);have ct:=hid bi;have bk:=hid ar;clear hb5 bi ar);have hX:=z.o.next HB5.o (Zfn w5 w.1.size (.int .i64 k5) (.string am) (.int .i64 n5) (.int .i64 d5) (.slice bs F.len aq) (.int .i64 a5) (.string (dg j))) E.o (show Qs W0 ⟨k5,am,n5,d5,F,a5⟩ bs aq (dg j) from ⟨bk.o,cl.o,by show(dg j).size+3*F.sz<=500;omega,by show F.sz<100;omega⟩) (Zhi ct.o _ _ _ _ _ _ _);refine⟨hid ⟨M,_,_,_,_,_,_,hX⟩,?_⟩;rw[bo.o];exact qN bn.o ⟨_,_,_,_,_,_,hX⟩
 rw[Z3 ag] at g
 cases hc:D.args.at 0 with
 | none=>rw[hc] at g;cases g
 | some c =>
  rw[hc] at g;simp only at g;have E:=hid g;have dd:(D.k != 1)=true:=bne_iff_ne.2 ag;have bl:=hid (fun(w':World) (hb:Below W0.1.size W0 w')=>JG hb D c aa H y 0 z.o.sp hc);have cq:=hid (fun(w':World)=>U6 (w:=w') D aa H);obtain⟨k2,da,n2,d2,bc,a2⟩:=D;obtain⟨k5,am,n5,d5,F,a5⟩:=c;unfold spv ev at *;simp only at *;clear g hc ag U;go_wp2;have bw:w.1.size+1+1<wr.1.size:=oq;go_region_law (first|(refine step_append_lies _ (by rfl) _ _ _ (by rfl) (w.1.size+3) 183 i0 _ 3 24 underlying90 ak.o.1 ak.o.2.1 ak.o.2.2.1 ak.o.2.2.2 rfl oq (.slice G q.length C) q.length (Qy q) (by rfl) ((own_below z.o.own HB3.o).alloc _) ⟨w3.1.size,0,none⟩ 1 1 [.int .i64 k2,.int .i64 n2,.int .i64 d2] (by rfl) (by rfl) (World.news_of_block (ZA _ _)) (by simp[Value.oneCell']) oq (by unfold maxLen;omega) oq (by simp;omega) (w3.1.size+1) (by simp) ?_;intro gg ap w4 ah Y db de;have al:=z.o.more (o:=(k2,n2,d2)) HB3.o ah Y oq (M:=M) (res':=(s,I));have cz:w4.cell? ⟨w.1.size+1+1,1,none⟩=some (.slice G q.length C):=(Zn (w:=wr) (al.1 _ (by show w.1.size+1+1<w.1.size+3;omega))).trans c1;have cy:w4.frozen? ⟨w.1.size+1+1,1,none⟩=false:=(Z7 (w:=wr) (al.1 _ (by show w.1.size+1+1<w.1.size+3;omega))).trans (bd _);have ab:=hid al;clear al ah Y)|(go_simp;go_at_call 198;refine(cq.o _).mono ?_;rintro x w3 ⟨rfl,hb3⟩;have dn:w3.cell? ⟨w.1.size+1+1,1,none⟩=some (.slice G q.length C):=(hb3.cell (p:=⟨w.1.size+1+1,1,none⟩) bw).trans c1;have l3:w.1.size+1+1<w3.1.size:=Zd bw hb3.size;have HB3:=hid (show Below wr.1.size wr w3 from ⟨hb3.os,hb3.tape,hb3.output,hb3.size,hb3.block⟩);clear hb3))
  all_goals
   have X:(w4.setCell ⟨w.1.size+1+1,1,none⟩ (.slice (some ⟨gg,0,none⟩) (q.length+1) ap)).1[w.1.size]?=some (Kc ⟨k2,da,n2,d2,bc,a2⟩ aa H y):=(Zr _ _ _ _ (by simp;omega)).trans ((ab.o.1 _ oq).trans z.o.b0);obtain⟨W5,bv⟩:=ez (w4.setCell ⟨w.1.size+1+1,1,none⟩ (.slice (some ⟨gg,0,none⟩) (q.length+1) ap));rw[bv] at X ab ⊢;clear x0 x1 x2 x3 x4 x5 x6 xf;obtain⟨⟨x0,x1,x2,x3,x4,x5,x6⟩,xf⟩:=Y5 X;have bm:=hid X;clear X bv cz cy;go_wp2_with (go_at_call 144;refine(bl.o W5 (HM.o.low.trans (ab.o.2.1.1.mono cj))).mono ?_;rintro x w6 ⟨⟨cv,bt,rfl,ay⟩,hb6⟩;have bj:=(hb6.block w.1.size (by have:=ab.o.2.1.2;omega)).trans bm.o;obtain⟨⟨y0,y1,y2,y3,y4,y5,y6⟩,yf⟩:=Y5 bj;have HB6:=hid hb6;have cu:=hid bj;have br:=hid ay;clear hb6 bj ay);have hX:=ab.o.2.2 M _ _ _ _ E.o br.o w6 _ HB6.o (Zfn w6 w.1.size (.int .i64 k5) (.string am) (.int .i64 n5) (.int .i64 d5) (.slice cv F.len bt) (.int .i64 a5) (.string (y++⟨#[47]⟩++dg 0))) (Zhi cu.o _ _ _ _ _ _ _);refine⟨hid ⟨M,_,_,_,_,_,_,hX⟩,?_⟩;rw[bo.o];exact qN bn.o ⟨_,_,_,_,_,_,hX⟩
