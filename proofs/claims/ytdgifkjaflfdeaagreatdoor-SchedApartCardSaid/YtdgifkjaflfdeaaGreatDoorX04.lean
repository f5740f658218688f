/- Parts of the proof. -/
import Derived.Test.YtdgifkjaflfdeaaGreatDoorX03
set_option linter.all false
set_option maxRecDepth 100000
set_option maxHeartbeats 16000000
namespace Go.Proofs.YtdgifkjaflfdeaaGreatDoor.syn
open Tryz
open Go.RowKit
def YT(w:World)(mb:Nat)(L:List (ByteArray × Value)):Prop :=
 ∃arr clock,w.1[mb]?=some (.map arr clock)/\arr.toList.map (fun e=>(e.key,e.val))=L.map (fun p=>(Value.string p.1,p.2))
def J3(k:ByteArray):List (ByteArray × Value)->Nat->Option (Nat × Value)
 | [],_=>none
 | p::L,i=>if k=p.1 then some (i,p.2) else J3 k L (i+1)
def Xm(k:ByteArray):List (ByteArray × Value)->Option Value
 | []=>none
 | p::L=>if k=p.1 then some p.2 else Xm k L
def JB(k:ByteArray)(v:Value):List (ByteArray × Value)->List (ByteArray × Value)
 | []=>[(k,v)]
 | p::L=>if k=p.1 then (k,v)::L else p::JB k v L
theorem Zfm(a b:ByteArray):(a == b)=decide (a=b):=by
 obtain⟨x⟩:=a;obtain⟨y⟩:=b;have f:((⟨x⟩:ByteArray) == ⟨y⟩)=(x == y):=rfl;rw[f];by_cases h:x=y
 .subst h;simp
 have g:¬((⟨x⟩:ByteArray)=⟨y⟩):=by intro e;injection e with e;exact h e
 rw[Z0 g];simpa using h
theorem ZeT(a:ByteArray):(a == a)=true:=by rw[Zfm];simp
theorem zT(k:ByteArray):∀(es:List MapEntry)(L:List (ByteArray × Value))(i:Nat),es.map (fun e=>(e.key,e.val))=L.map (fun p=>(Value.string p.1,p.2)) ->
  Instr.findNow .string (.string k) es i=some (J3 k L i):=by
 intro es
 induction es with
 | nil=>intro L i h;cases L with
  | nil=>rfl
  | cons p L=>simp at h
 | cons e es ih =>
  intro L i h
  cases L with
  | nil=>simp at h
  | cons p L =>
   simp only[List.map_cons,List.cons.injEq,Z5] at h;obtain⟨⟨g,j⟩,m⟩:=h;unfold Instr.findNow;rw[g];simp only[Instr.sameNow,Zfm,J3];by_cases f:k=p.1
   .simp[f,j]
   simp[f,ih L (i+1) m]
theorem Zao(k:ByteArray):∀(L:List (ByteArray × Value))(i:Nat),(J3 k L i).map (·.2)=Xm k L:=by
 intro L
 induction L with
 | nil=>intro i;rfl
 | cons p L ih =>
  intro i;unfold J3 Xm;by_cases h:k=p.1
  .rw[Z3 h,Z3 h];rfl
  rw[Z2 h,Z2 h];exact ih (i+1)
theorem ue(k:ByteArray)(v:Value):∀(L:List (ByteArray × Value))(j:Nat),J3 k L j=none->JB k v L=L++[(k,v)]:=by
 intro L
 induction L with
 | nil=>intro j _;rfl
 | cons p L ih =>
  intro j h;unfold J3 at h;by_cases f:k=p.1
  .rw[Z3 f] at h;cases h
  rw[Z2 f] at h;unfold JB;rw[Z2 f,ih (j+1) h];rfl
theorem uf(k:ByteArray)(v:Value):∀(L:List (ByteArray × Value))(j i:Nat)(u:Value),J3 k L j=some (i,u)->∃n,i=j+n/\∃x,L[n]?=some (k,x)/\JB k v L=L.modify n (fun _=>(k,v)):=by
 intro L
 induction L with
 | nil=>intro j i u h;cases h
 | cons p L ih =>
  intro j i u h;unfold J3 at h;by_cases f:k=p.1
  .rw[Z3 f] at h;obtain⟨rfl,_⟩:j=i/\_:=by simpa using h
   refine⟨0,rfl,p.2,?_,?_⟩
   .rw[f];rfl
   unfold JB;rw[Z3 f];rfl
  rw[Z2 f] at h;obtain⟨n,rfl,x,g,m⟩:=ih (j+1) i u h;refine⟨n+1,oq,x,by simpa using g,?_⟩;unfold JB;rw[Z2 f,m];rfl
structure X3 (T K E:TypeId) (z:Value):Prop where
 map:prog.underlying T=some (.map K E)
 key:prog.underlying K=some .string
 zero:∀w,(zeroValue E).run prog w=.ok z w
 check:∀(b:Bool)(s:ByteArray)(w:World),(Instr.checkKey b 10000 K (.string s)).run prog w=.ok () w
theorem Qa{T K E:TypeId}{z:Value}(M:X3 T K E z){w:World}{mb:Nat}{L:List (ByteArray × Value)}(h:YT w mb L)(k:ByteArray)(c:Bool) :
  (Instr.lookup T (.map (some mb)) (.string k) c).run prog w=.ok (if c then .tuple #[(Xm k L).getD z,.bool (Xm k L).isSome] else (Xm k L).getD z) w:=by
 obtain⟨arr,clock,x,m⟩:=h;have A:(underlying T).run prog w=.ok (.map K E) w:=by rw[run_underlying M.map]
 have y:(underlying K).run prog w=.ok .string w:=by rw[run_underlying M.key]
 have q:(getObj mb).run prog w=.ok (.map arr clock) w:=run_getObj_map (w:=w) mb arr clock x;have j:=M.check arr.isEmpty k w;have f:=Zao k L 0;have g:(Instr.findKey K (.string k) arr.toList).run prog w=.ok (J3 k L 0) w:=by
  unfold Instr.findKey;simp only[Sem.run_bind,y,ZQ];rw[zT k arr.toList L 0 m];rfl
 simp only[Instr.lookup,Sem.run_bind,A,ZQ,q,Sem.run_pure];rw[j];simp only[ZQ];rw[g];simp only[ZQ];rw[<-f]
 cases hr:J3 k L 0 with
 | none=>simp only[Sem.run_bind,M.zero,ZQ,Sem.run_pure];cases c<;>rfl
 | some p=>obtain⟨i,v⟩:=p;simp only[Sem.run_bind,ZQ,Sem.run_pure];cases c<;>rfl
def World.putM(w:World)(mb:Nat)(o:Obj):World:={ w with heap:=w.1.setIfInBounds mb o }
theorem uP(k:ByteArray):Instr.sameBits 10000 (.string k) (.string k)=true:=by
 show Instr.sameBits (9999+1) _ _=true;simp[Instr.sameBits,ZeT]
theorem EK{T K E:TypeId}{z:Value}(M:X3 T K E z){w:World}{mb:Nat}{L:List (ByteArray × Value)}(h:YT w mb L)(k:ByteArray)(v:Value) :
  ∃arr clock,(Instr.mapUpdate T (.map (some mb)) (.string k) v).run prog w=.ok () (World.putM w mb (.map arr clock))/\YT (World.putM w mb (.map arr clock)) mb (JB k v L):=by
 obtain⟨arr,clock,D,C⟩:=h;have O:(underlying T).run prog w=.ok (.map K E) w:=by rw[run_underlying M.map]
 have U:(underlying K).run prog w=.ok .string w:=by rw[run_underlying M.key]
 have J:(getObj mb).run prog w=.ok (.map arr clock) w:=run_getObj_map (w:=w) mb arr clock D;have I:=M.check false k w;have m:(Instr.findKey K (.string k) arr.toList).run prog w=.ok (J3 k L 0) w:=by
  unfold Instr.findKey;simp only[Sem.run_bind,U,ZQ];rw[zT k arr.toList L 0 C];rfl
 have F:=Zb D;have f:∀o,(World.putM w mb o).1[mb]?=some o:=by
  intro o;show(w.1.setIfInBounds mb o)[mb]?=some o;rw[Array.getElem?_setIfInBounds_self_of_lt F]
 cases hr:J3 k L 0 with
 | none =>
  refine⟨arr.push { key:=.string k,val:=v,born:=clock },clock+1,?_,⟨_,_,f _,?_⟩⟩
  .simp only[Instr.mapUpdate,Sem.run_bind,O,ZQ,J];rw[I];simp only[ZQ];rw[m,hr];simp only[ZQ];exact Go.MapKept.run_setObj_map _ D
  rw[ue k v L 0 hr];simp[C]
 | some q =>
  obtain⟨i,u⟩:=q;obtain⟨n,V,x,H,R⟩:=uf k v L 0 i u hr;obtain rfl:i=n:=oq;have A:((arr[i]?).map (·.key)).getD (.string k)=.string k:=by
   have:=Z4 (fun l=>l[i]?) C;simp only[List.getElem?_map,H,Option.map_some] at this
   cases ha:arr[i]? with
   | none=>rfl
   | some e=>simp[ha] at this ⊢;exact this.1
  have G:(Instr.keyThatStays (.string k) (.string k)).run prog w=.ok (.string k) w:=by
   unfold Instr.keyThatStays;rw[uP];rfl
  refine⟨arr.modify i fun e=>{ e with key:=.string k,val:=v },clock,?_,⟨_,_,f _,?_⟩⟩
  .simp only[Instr.mapUpdate,Sem.run_bind,O,ZQ,J];rw[I];simp only[ZQ];rw[m,hr];simp only[ZQ,Sem.run_bind,A];rw[G];simp only[ZQ];exact Go.MapKept.run_setObj_map _ D
  rw[R,Array.toList_modify];apply List.ext_getElem?;intro j;have g:=Z4 (fun l=>l[j]?) C;simp only[List.getElem?_map,List.getElem?_modify] at g ⊢;by_cases y:i=j
  .subst y;rw[H] at g ⊢
   cases ha:arr.toList[i]? with
   | none=>rw[ha] at g;simp at g
   | some e=>simp
  simp only[y,if_false]
  cases ha:arr.toList[j]?<;>cases hb:L[j]?<;>rw[ha,hb] at g<;>simp at g ⊢
  exact g
theorem YT.below{w w':World}{mb:Nat}{L:List (ByteArray × Value)}(h:YT w mb L)(hb:Below w.1.size w w'):YT w' mb L:=by
 obtain⟨arr,clock,f,g⟩:=h;exact⟨arr,clock,(hb.block mb (Zb f)).trans f,g⟩
theorem YT.lt{w:World}{mb:Nat}{L:List (ByteArray × Value)}(h:YT w mb L):mb<w.1.size:=by
 obtain⟨arr,clock,f,g⟩:=h;exact Zb f
theorem YT.new(w:World):YT (w.alloc (.map #[] 0)) w.1.size []:=⟨#[],0,Yx w _,rfl⟩
theorem QG{B:Nat}{a w:World}(h:Below B a w){mb:Nat}(f:B<=mb)(o:Obj):Below B a (World.putM w mb o):=by
 refine h.trans ⟨rfl,rfl,rfl,by simp[World.putM],fun k hk=>?_⟩;show(w.1.setIfInBounds mb o)[k]?=_;rw[Array.getElem?_setIfInBounds_ne oq]
theorem YR{a w:World}{mb:Nat}(h:Upon mb a w)(o:Obj):Upon mb a (World.putM w mb o):=by
 refine h.trans ⟨rfl,rfl,rfl,by simp[World.putM],fun k hk hne=>?_⟩;show(w.1.setIfInBounds mb o)[k]?=_;rw[Array.getElem?_setIfInBounds_ne oq]
theorem Jj{T K E:TypeId}{z:Value}(M:X3 T K E z)(w:World){g:Array Oper}{rest:List Oper}{o:Oper}{a:Act}{Q:Exit->Act->World->Prop}
  (q:o.guard=none)(m x:Operand)(c:Bool)(j:o.op=Op.lookup T m x c)(mb:Nat)(L:List (ByteArray × Value))(k:ByteArray)
  (v:a.eval m=.map (some mb))(y:a.eval x=.string k)(h:YT w mb L)
  (hK:wpList prog g Q rest (a.put o.dst (if c then .tuple #[(Xm k L).getD z,.bool (Xm k L).isSome] else (Xm k L).getD z)) w) :
  wpList prog g Q (o::rest) a w:=by
 refine wpList_plain q fun K' hK'=>?_
 have f:=Qa M h k c;have e:(execOp a.eval o).run prog w=.ok (.value (if c then .tuple #[(Xm k L).getD z,.bool (Xm k L).isSome] else (Xm k L).getD z)) w:=by
  simp[execOp,j,v,y,f]
 unfold Oper.wp;rw[e];exact hK' _ _ hK
theorem Ji{T K E:TypeId}{z:Value}(M:X3 T K E z)(w:World){ops:Array Oper}{rest:List Oper}{o:Oper}{a:Act}{Q:Exit->Act->World->Prop}
  (hg:o.guard=none)(m x:Operand)(hop:o.op=Op.lookup T m x false)(mb:Nat)(L:List (ByteArray × Value))(k:ByteArray)(v:Value)
  (hm:a.eval m=.map (some mb))(hx:a.eval x=.string k)(h:YT w mb L)(hs:(Xm k L).getD z=v)
  (hK:wpList prog ops Q rest (a.put o.dst v) w) :
  wpList prog ops Q (o::rest) a w :=
 Jj M w hg m x false hop mb L k hm hx h (by simpa only [hs,if_false,Bool.false_eq_true] using hK)
theorem XE{T K E:TypeId}{z:Value}(M:X3 T K E z)(w:World){g:Array Oper}{rest:List Oper}{o:Oper}{a:Act}{Q:Exit->Act->World->Prop}
  (y:o.guard=none)(m x v:Operand)(j:o.op=Op.mapUpdate T m x v)(mb:Nat)(L:List (ByteArray × Value))(k:ByteArray)(u:Value)
  (A:a.eval m=.map (some mb))(D:a.eval x=.string k)(C:a.eval v=u)(h:YT w mb L)
  (hK:∀arr clock,YT (World.putM w mb (.map arr clock)) mb (JB k u L)->wpList prog g Q rest (a.put o.dst undef) (World.putM w mb (.map arr clock))) :
  wpList prog g Q (o::rest) a w:=by
 refine wpList_plain y fun K' hK'=>?_
 obtain⟨arr,clock,f,q⟩:=EK M h k u;unfold Oper.wp;simp[execOp,j,A,D,C,f,Result.andThen];exact hK' _ _ (hK arr clock q)
theorem X0{T K E:TypeId}{z:Value}(M:X3 T K E z)(w:World){ops:Array Oper}{rest:List Oper}{o:Oper}{a:Act}{Q:Exit->Act->World->Prop}
  (hg:o.guard=none)(m x:Operand)(hop:o.op=Op.lookup T m x true)(mb:Nat)(L:List (ByteArray × Value))(k:ByteArray)(v:Value)
  (hm:a.eval m=.map (some mb))(hx:a.eval x=.string k)(h:YT w mb L)(hs:Xm k L=some v)
  (hK:wpList prog ops Q rest (a.put o.dst (.tuple #[v,.bool true])) w) :
  wpList prog ops Q (o::rest) a w :=
 Jj M w hg m x true hop mb L k hm hx h (by simpa only [hs,Option.getD,Option.isSome,if_true,if_false,Bool.false_eq_true] using hK)
theorem Xp{T K E:TypeId}{z:Value}(M:X3 T K E z)(w:World){ops:Array Oper}{rest:List Oper}{o:Oper}{a:Act}{Q:Exit->Act->World->Prop}
  (hg:o.guard=none)(m x:Operand)(hop:o.op=Op.lookup T m x true)(mb:Nat)(L:List (ByteArray × Value))(k:ByteArray)
  (hm:a.eval m=.map (some mb))(hx:a.eval x=.string k)(h:YT w mb L)(hs:Xm k L=none)
  (hK:wpList prog ops Q rest (a.put o.dst (.tuple #[z,.bool false])) w) :
  wpList prog ops Q (o::rest) a w :=
 Jj M w hg m x true hop mb L k hm hx h (by simpa only [hs,Option.getD,Option.isSome,if_true,if_false,Bool.false_eq_true] using hK)
theorem Kh{T K E:TypeId}{z:Value}(M:X3 T K E z)(w:World){ops:Array Oper}{rest:List Oper}{o:Oper}{a:Act}{Q:Exit->Act->World->Prop}
  (hg:o.guard=none)(m x:Operand)(hop:o.op=Op.lookup T m x false)(mb:Nat)(L:List (ByteArray × Value))(k:ByteArray)(v:Value)
  (hm:a.eval m=.map (some mb))(hx:a.eval x=.string k)(h:YT w mb L)(hs:Xm k L=some v)
  (hK:wpList prog ops Q rest (a.put o.dst (v)) w) :
  wpList prog ops Q (o::rest) a w :=
 Jj M w hg m x false hop mb L k hm hx h (by simpa only [hs,Option.getD,Option.isSome,if_true,if_false,Bool.false_eq_true] using hK)
theorem Xy:X3 162 9 50 (.agg #[.int .i64 0,.int .i64 0]):=⟨by kernel_rfl,by kernel_rfl,fun w=>by kernel_rfl,fun b s w=>by cases b<;>kernel_rfl⟩
theorem Qh:X3 379 9 3 (.int .i64 0):=⟨by kernel_rfl,by kernel_rfl,fun w=>by kernel_rfl,fun b s w=>by cases b<;>kernel_rfl⟩
theorem xa:X3 252 9 3 (.int .i64 0):=⟨by kernel_rfl,by kernel_rfl,fun w=>by kernel_rfl,fun b s w=>by cases b<;>kernel_rfl⟩
def Qe(w:World)(v:Value):Prop:=∃b o cs t fr,v=.pointer (some ⟨b,o,none⟩)/\w.1[b]?=some (.cells cs t fr)/\w.frozen? ⟨b,o,none⟩=false
theorem Qe.keep{w w':World}{v:Value}(h:Qe w v)(x:∀(b:Nat)(g:Array Value)(t:TypeId)(f:Nat × Nat),w.1[b]?=some (Obj.cells g t f)->∃cs',w'.1[b]?=some (Obj.cells cs' t f)):Qe w' v:=by
 obtain⟨b,o,g,t,f,rfl,j,m⟩:=h;obtain⟨cs',q⟩:=x b g t f j;refine⟨b,o,cs',t,f,rfl,q,?_⟩;obtain⟨lo,hi⟩:=f;simp[World.frozen?,j] at m;simp[World.frozen?,q];exact m
theorem yS(w:World):w.drewN 0=w:=rfl
theorem Zdk{P:Program}{w:World}{x y:Addr}(C:Qe w (.pointer (some x)))(hy:Qe w (.pointer (some y))):∃r n,(sameAddr x y).run P w=.ok r (w.drewN n):=by
 obtain⟨j,I,c1,D,f1,f,z,F⟩:=C;obtain⟨m,J,c2,E,H,g,A,G⟩:=hy;injection f with f;injection f with f;subst f
 injection g with g;injection g with g;subst g
 by_cases hb:j=m
 .subst hb;exact⟨_,0,by rw[yS];simp[sameAddr];rfl⟩
 have v:(j == m)=false:=by simpa using hb
 have s1:w.shape? j=some (D,c1.size):=by simp[World.shape?,z]
 have s2:w.shape? m=some (E,c2.size):=by simp[World.shape?,A]
 simp only[sameAddr,v,Bool.false_eq_true,if_false,Sem.run_bind,run_frozen,ZQ,F,G,Bool.false_and,noView,viewAt,run_shape,s1,s2,Option.isSome,if_true,Sem.run_pure,Sem.run_pure,mayBeOne,stringish];generalize (_||_||_:Bool)=q
 cases q with
 | false=>exact⟨false,0,by rw[yS];simp⟩
 | true =>
  simp only[if_true,Sem.run_bind,run_choose_drew];split
  .exact⟨_,0,by rw[yS];simp;rfl⟩
  exact⟨_,1,by simp;exact⟨rfl,rfl⟩⟩
structure Vw (T K E X:TypeId) (z:Value):Prop where
 map:prog.underlying T=some (.map K E)
 key:prog.underlying K=some (.pointer X)
 size:∀w,∃n,(sizeOf X).run prog w=.ok (n+1) w
 zero:∀w,(zeroValue E).run prog w=.ok z w
 check:∀(b:Bool)(s:OA)(w:World),(Instr.checkKey b 10000 K (.pointer s)).run prog w=.ok () w
theorem ZfN{T K E X:TypeId}{z:Value}(M:Vw T K E X z){w:World}{u v:Value}(j:Qe w u)(q:Qe w v):∃r n,(Op.equal K u v).run prog w=.ok r (w.drewN n):=by
 have f:=j;have g:=q;obtain⟨y,G,c1,I,f1,rfl,D,L⟩:=f;obtain⟨A,H,c2,J,C,rfl,F,O⟩:=g;obtain⟨r,n,h⟩:=Zdk (P:=prog) j q;obtain⟨m,x⟩:=M.size w;refine⟨r,n,?_⟩;obtain⟨d,hd⟩:∃d,Op.maxDepth=d+1:=⟨9999,rfl⟩;unfold Op.equal;rw[hd];simp[Op.equalIn,run_underlying M.key,x,h]
theorem drewN_drewN(w:World)(a b:Nat):(w.drewN a).drewN b=w.drewN (a+b):=by simp[World.drewN,Nat.add_assoc]
theorem Qe.drewN{w:World}{v:Value}(h:Qe w v)(n:Nat):Qe (w.drewN n) v:=h.keep fun b cs t fr hb=>⟨cs,hb⟩
theorem Zd1{T K E X:TypeId}{z:Value}(M:Vw T K E X z)(k:Value):∀(es:List MapEntry)(i:Nat)(w:World),Qe w k->(∀e∈es,Qe w e.key) ->
  ∃r n,(Instr.findAsking K k es i).run prog w=.ok r (w.drewN n)/\∀j v,r=some (j,v)->∃e∈es,e.val=v:=by
 intro es
 induction es with
 | nil=>intro i w _ _;exact⟨none,0,rfl,fun j v h=>(by cases h)⟩
 | cons e es ih =>
  intro i w y x;obtain⟨r,n,h⟩:=ZfN M y (x e (by simp))
  cases r with
  | true=>exact⟨some (i,e.val),n,by simp[Instr.findAsking,h],fun j v hj=>by injection hj with hj;injection hj with _ hj;exact⟨e,by simp,hj⟩⟩
  | false =>
   obtain⟨D,m,g,A⟩:=ih (i+1) (w.drewN n) (y.drewN n) (fun q f=>(x q (by simp[f])).drewN n);rw[drewN_drewN] at g;refine⟨D,n+m,by simp[Instr.findAsking,h,g],fun j v hj=>?_⟩;obtain⟨q,f,C⟩:=A j v hj;exact⟨q,by simp[f],C⟩
theorem gM{T K E X:TypeId}{z:Value}(M:Vw T K E X z)(k:Value)(es:List MapEntry)(w:World)(f:Qe w k)(m:∀e∈es,Qe w e.key) :
  ∃r n,(Instr.findKey K k es).run prog w=.ok r (w.drewN n)/\∀j v,r=some (j,v)->∃e∈es,e.val=v:=by
 have q:(underlying K).run prog w=.ok (.pointer X) w:=by rw[run_underlying M.key]
 unfold Instr.findKey;simp only[Sem.run_bind,q,ZQ];obtain⟨g,x,c1,A,f1,rfl,y,C⟩:=id f
 cases es with
 | nil=>exact⟨none,0,rfl,fun j v h=>(by cases h)⟩
 | cons e es =>
  have:Instr.findNow (.pointer X) (.pointer (some ⟨g,x,none⟩)) (e::es) 0=none:=by unfold Instr.findNow Instr.sameNow;rfl
  rw[this];exact Zd1 M _ _ 0 w f m
def Vv(w:World)(mb:Nat)(K V:Value->Prop):Prop:=∃arr clock,w.1[mb]?=some (.map arr clock)/\∀e∈arr.toList,K e.key/\V e.val
theorem Zax{T K E X:TypeId}{z:Value}(M:Vw T K E X z){w:World}{mb:Nat}{g V:Value->Prop}(h:Vv w mb g V)(f:∀v,g v->Qe w v)(k:Value)(m:Qe w k) :
  ∃u b n,(Instr.lookup T (.map (some mb)) k true).run prog w=.ok (.tuple #[u,.bool b]) (w.drewN n)/\(b=true->V u)/\(b=false->u=z):=by
 obtain⟨arr,clock,D,j⟩:=h;have G:(underlying T).run prog w=.ok (.map K E) w:=by rw[run_underlying M.map]
 have C:(getObj mb).run prog w=.ok (.map arr clock) w:=run_getObj_map (w:=w) mb arr clock D;obtain⟨q,I,c1,L,f1,rfl,J,O⟩:=id m;have A:=M.check arr.isEmpty (some ⟨q,I,none⟩) w;obtain⟨r,n,F,H⟩:=gM M _ arr.toList w m (fun e h=>f _ (j e h).1);simp only[Instr.lookup,Sem.run_bind,G,ZQ,C,Sem.run_pure];rw[A];simp only[ZQ];rw[F];simp only[ZQ]
 cases r with
 | none=>exact⟨z,false,n,by simp only[Sem.run_bind,M.zero,ZQ,Sem.run_pure];rfl,fun h=>(by cases h),fun _=>rfl⟩
 | some p =>
  obtain⟨i,v⟩:=p;obtain⟨e,x,y⟩:=H i v rfl;exact⟨v,true,n,by simp only[Sem.run_bind,ZQ,Sem.run_pure];rfl,fun _=>y▸(j e x).2,fun h=>(by cases h)⟩
theorem Za7{P:Program}(a b:Value)(w:World):∃r n,(Instr.keyThatStays a b).run P w=.ok r (w.drewN n)/\(r=a\/r=b):=by
 unfold Instr.keyThatStays;split
 .exact⟨b,0,rfl,.inr rfl⟩
 simp only[Sem.run_bind,run_choose_drew];split
 .exact⟨b,0,by rw[yS];simp,.inr rfl⟩
 refine⟨_,1,by simp;exact⟨rfl,rfl⟩,?_⟩;split<;>simp
theorem ZcC{T K E X:TypeId}{z:Value}(M:Vw T K E X z){w:World}{mb:Nat}{y V:Value->Prop}(h:Vv w mb y V)(A:∀v,y v->Qe w v)(k:Value)(f:y k)(v:Value)(hv:V v) :
  ∃arr clock n,(Instr.mapUpdate T (.map (some mb)) k v).run prog w=.ok () (World.putM (w.drewN n) mb (.map arr clock))/\Vv (World.putM (w.drewN n) mb (.map arr clock)) mb y V:=by
 obtain⟨arr,clock,H,G⟩:=h;have Z:(underlying T).run prog w=.ok (.map K E) w:=by rw[run_underlying M.map]
 have R:(getObj mb).run prog w=.ok (.map arr clock) w:=run_getObj_map (w:=w) mb arr clock H;have U:=A k f;obtain⟨F,I,c1,t1,f1,rfl,h1,z1⟩:=id U;have O:=M.check false (some ⟨F,I,none⟩) w;obtain⟨r,n,Y,aa⟩:=gM M _ arr.toList w U (fun e h=>A _ (G e h).1);have L:=Zb H;have x:∀(m:Nat) o,(World.putM (w.drewN m) mb o).1[mb]?=some o:=by
  intro m o;show(w.1.setIfInBounds mb o)[mb]?=some o;rw[Array.getElem?_setIfInBounds_self_of_lt L]
 cases r with
 | none =>
  refine⟨arr.push { key:=.pointer (some ⟨F,I,none⟩),val:=v,born:=clock },clock+1,n,?_,⟨_,_,x _ _,?_⟩⟩
  .simp only[Instr.mapUpdate,Sem.run_bind,Z,ZQ,R];rw[O];simp only[ZQ];rw[Y];simp only[ZQ];exact Go.MapKept.run_setObj_map (w:=w.drewN n) _ H
  intro e h;rw[Array.toList_push,List.mem_append] at h;rcases h with h|h
  .exact G e h
  rw[List.mem_singleton.1 h];exact⟨f,hv⟩
 | some q =>
  obtain⟨i,u⟩:=q;obtain⟨kk,m,D,f⟩:=Za7 (P:=prog) (((arr[i]?).map (·.key)).getD (.pointer (some ⟨F,I,none⟩))) (.pointer (some ⟨F,I,none⟩)) (w.drewN n);have J:y kk:=by
   rcases f with rfl|rfl
   .cases ha:arr[i]? with
    | none=>exact f
    | some e=>exact(G e (Array.mem_toList_iff.2 (Array.mem_of_getElem? ha))).1
   exact f
  rw[drewN_drewN] at D;refine⟨arr.modify i fun e=>{ e with key:=kk,val:=v },clock,n+m,?_,⟨_,_,x _ _,?_⟩⟩
  .simp only[Instr.mapUpdate,Sem.run_bind,Z,ZQ,R];rw[O];simp only[ZQ];rw[Y];simp only[ZQ,Sem.run_bind];rw[D];simp only[ZQ];exact Go.MapKept.run_setObj_map (w:=w.drewN (n+m)) _ H
  intro e h;rw[Array.toList_modify] at h;obtain⟨j,g⟩:=List.mem_iff_getElem?.1 h;rw[List.getElem?_modify] at g
  cases ha:arr.toList[j]? with
  | none=>rw[ha] at g;simp at g
  | some e0 =>
   rw[ha] at g;have h0:=G e0 (Yb ha);by_cases C:i=j
   .simp[C] at g;rw[<-g];exact⟨J,hv⟩
   simp[C] at g;rw[<-g];exact h0
theorem Vv.lt{w:World}{mb:Nat}{K V:Value->Prop}(h:Vv w mb K V):mb<w.1.size:=by
 obtain⟨arr,clock,f,g⟩:=h;exact Zb f
theorem Vv.new(w:World)(K V:Value->Prop):Vv (w.alloc (.map #[] 0)) w.1.size K V:=⟨#[],0,Yx w _,fun e h=>by simp at h⟩
theorem Vv.keep{w w':World}{mb:Nat}{K V f:Value->Prop}(h:Vv w mb K V)(hb:w'.1[mb]?=w.1[mb]?)(m:∀v,V v->f v):Vv w' mb K f:=by
 obtain⟨arr,clock,j,g⟩:=h;exact⟨arr,clock,hb.trans j,fun e he=>⟨(g e he).1,m _ (g e he).2⟩⟩
theorem xL{T K E X:TypeId}{z:Value}(M:Vw T K E X z)(w:World){g:Array Oper}{rest:List Oper}{o:Oper}{a:Act}{Q:Exit->Act->World->Prop}
  (D:o.guard=none)(m x:Operand)(q:o.op=Op.lookup T m x true)(mb:Nat)(y V:Value->Prop)(k:Value)
  (G:a.eval m=.map (some mb))(H:a.eval x=k)(h:Vv w mb y V)(j:∀v,y v->Qe w v)(F:Qe w k)
  (hK:∀u b w',(b=true->V u)->(b=false->u=z)->w'.1.size=w.1.size->Below w.1.size w w'->wpList prog g Q rest (a.put o.dst (.tuple #[u,.bool b])) w') :
  wpList prog g Q (o::rest) a w:=by
 refine wpList_plain D fun K3 hK3=>?_
 obtain⟨u,b,n,f,A,C⟩:=Zax M h j k F;have e:(execOp a.eval o).run prog w=.ok (.value (.tuple #[u,.bool b])) (w.drewN n):=by
  simp[execOp,q,G,H,f]
 unfold Oper.wp;rw[e];exact hK3 _ _ (hK u b _ A C rfl (below_drewN (Zg _ _) n))
theorem Gq{T K E X:TypeId}{z:Value}(M:Vw T K E X z)(w:World){g:Array Oper}{rest:List Oper}{o:Oper}{a:Act}{Q:Exit->Act->World->Prop}
  (D:o.guard=none)(m x v:Operand)(y:o.op=Op.mapUpdate T m x v)(mb:Nat)(j V:Value->Prop)(k:Value)(u:Value)
  (G:a.eval m=.map (some mb))(I:a.eval x=k)(H:a.eval v=u)(h:Vv w mb j V)(q:∀v,j v->Qe w v)(F:j k)(C:V u)
  (hK:∀w',Upon mb w w'->w'.1.size=w.1.size->Vv w' mb j V->wpList prog g Q rest (a.put o.dst undef) w') :
  wpList prog g Q (o::rest) a w:=by
 refine wpList_plain D fun K' hK'=>?_
 obtain⟨arr,clock,n,f,A⟩:=ZcC M h q k F u C;unfold Oper.wp;simp[execOp,y,G,I,H,f,Result.andThen];exact hK' _ _ (hK _ (YR ((Upon.refl _ _).drewN n) _) (by simp[World.putM]) A)
theorem KQ:Vw 386 323 398 111 (.agg #[.int .i64 0,.int .i64 0]):=⟨by kernel_rfl,by kernel_rfl,fun w=>⟨5,by kernel_rfl⟩,fun w=>by kernel_rfl,fun b s w=>by cases b<;>kernel_rfl⟩
open Go.RowKit Go.ChangeShapes Go.WideShapes
theorem Qb{n:Nat}(h:n<=maxLen):n<=9223372036854775807:=h
def I64(n:Int):Prop:=-9223372036854775808<=n/\n<=9223372036854775807
theorem Q8{n:Int}(h:(Lit.int .i64 n).wf=true):I64 n:=bounds_i64 h
def Row{α:Type}(P:World->Nat->Nat->α->Prop)(sz:Nat)(w:World)(l:List α)(ad:OA):Prop :=
 l=[]\/∃b o,ad=some ⟨b,o,none⟩/\b<w.1.size/\∀i (h:i<l.length),P w b (o+i*sz) l[i]
def Sta{α:Type}(P:World->Nat->Nat->α->Prop):Prop:=∀(w w':World)(b o:Nat)(x:α),Below w.1.size w w'->b<w.1.size->P w b o x->P w' b o x
theorem Row.below{α:Type}{P:World->Nat->Nat->α->Prop}{sz:Nat}{w w':World}{l:List α}{f:OA}(g:Sta P)(hb:Below w.1.size w w')(h:Row P sz w l f):Row P sz w' l f:=by
 rcases h with h|⟨b,o,e,hlt,h⟩
 .exact .inl h
 exact .inr ⟨b,o,e,Nat.lt_of_lt_of_le hlt hb.size,fun i hi=>g w w' b _ _ hb hlt (h i hi)⟩
theorem Row.at{α:Type}{P:World->Nat->Nat->α->Prop}{sz:Nat}{w:World}{l:List α}{f:OA}(h:Row P sz w l f){i:Nat}(hi:i<l.length) :
  ∃b o,f=some ⟨b,o,none⟩/\b<w.1.size/\P w b (o+i*sz) l[i]:=by
 rcases h with h|⟨b,o,e,hlt,h⟩
 .subst h;simp at hi
 exact⟨b,o,e,hlt,h i hi⟩
def xV(w:World)(b o:Nat)(s:ByteArray):Prop:=w.cell? ⟨b,o,none⟩=some (.string s)/\s.size<=9223372036854775807
theorem intCells:prog.cellsOf 3=1:=by kernel_rfl
theorem QN:prog.cellsOf 2=1:=by kernel_rfl
theorem X8:prog.cellsOf 9=1:=by kernel_rfl
section
variable {H:Type} {enc:TypeId × Value->H} {w:World} {base:Nat} {sp:Nat->Bool} {held:Bool}
theorem Eu{fs:Array Field}{l:List (TypeId × Nat)}(h:fs.toList.map (fun f=>(f.type,f.offset))=l)(i:Nat)(t:TypeId)(o:Nat)(g:l[i]?=some (t,o)):∃f,fs[i]?=some f/\f.type=t/\f.offset=o:=by
 subst h;rw[List.getElem?_map] at g
 cases hf:fs.toList[i]? with
 | none=>rw[hf] at g;cases g
 | some f =>
  rw[hf] at g;simp only[Option.map_some,Option.some.injEq,Prod.mk.injEq] at g;exact⟨f,by simpa using hf,g.1,g.2⟩
theorem one_cell{f:List Value}{o:Nat}{v:Value}(h:(f.drop o).take 1=[v]):f[o]?=some v:=by
 have:=congrArg (fun l=>l[0]?) h;simpa using this
theorem YM{x:List Value}{fs:Array Field}{l:List (TypeId × Nat)}{xs:List (DataW H × List MemPlace)}{n:Nat}(j:fs.toList.map (fun f=>(f.type,f.offset))=l)(g:xs.length=fs.size)
  (C:∀(i:Nat)(f:Field),fs[i]?=some f->DataW.trod enc prog w base sp held n f.type ((x.drop f.offset).take (prog.cellsOf f.type))=xs[i]?)(i:Nat)(q:TypeId)(o m:Nat)(D:l[i]?=some (q,o))(A:prog.cellsOf q=m) :
  ∃y,DataW.trod enc prog w base sp held n q ((x.drop o).take m)=some y:=by
 obtain⟨f,z,rfl,rfl⟩:=Eu j i q o D;have v:=C i f z;rw[A] at v;have hi:i<xs.length:=by rw[g];exact(Array.getElem?_eq_some_iff.1 z).1
 rw[List.getElem?_eq_getElem hi] at v;exact⟨_,v⟩
theorem open_row{α:Type}{P:World->Nat->Nat->α->Prop}{T S:TypeId}{sz:Nat}(hS:prog.underlying S=some (.slice T))(U:prog.cellsOf T=sz)(q:0<sz)
  (L:∀n C x,DataW.trod enc prog w base sp held n T C=some x->∃a:α,∀b o,b<w.1.size->(∀j,j<sz->w.cell? ⟨b,o+j,none⟩=C[j]?)->P w b o a)
  {n:Nat}{C:List Value}{x}(h:DataW.trod enc prog w base sp held n S C=some x):∃(l:List α)(A:OA)(cap:Nat),Row P sz w l A/\l.length<=cap/\cap<=9223372036854775807/\C=[.slice A l.length cap]:=by
 rcases DataW.trod_slice hS h with ⟨rfl,_⟩|⟨A,len,cap,elems,rest,n,rfl,rfl,_,_,M,X,helems,hall,_⟩
 .exact⟨[],none,0,.inl rfl,Nat.le_refl _,Nat.zero_le _,rfl⟩
 have G:cap<=9223372036854775807:=Qb X;by_cases Z:len=0
 .subst Z;exact⟨[],some A,cap,.inl rfl,Nat.zero_le _,G,rfl⟩
 rw[U] at hall;have key:∀i,i<len->∃g,w.cells? base (A.add (i*sz)) sz=some g/\∃y,DataW.trod enc prog w base sp held n T g=some y:=by
  intro i hi;have H:=hall i hi;rw[List.getElem?_eq_getElem (by omega)] at H;obtain⟨g,D,h3⟩:=Option.bind_eq_some_iff.1 H;exact⟨g,D,_,h3⟩
 obtain⟨b,o,V⟩:=A;obtain⟨Y,J,y0,aa⟩:=key 0 (by omega);obtain⟨_,O,f⟩:=World.cells?_some J;have z:V=none:=by
  have:=f 0 q;rw[List.getElem?_eq_getElem (by omega)] at this;simpa [Addr.add] using World.cell?_spot this
 subst z;have hb:b<w.1.size:=by
  have:=f 0 q;rw[List.getElem?_eq_getElem (by omega)] at this;exact World.block_lt_of_cell? _ _ (by simpa [Addr.add] using this)
 have each:∀i,i<len->∃a:α,P w b (o+i*sz) a:=by
  intro i hi;obtain⟨g,D,y,hy⟩:=key i hi;obtain⟨a,I⟩:=L n g y hy;obtain⟨_,_,v⟩:=World.cells?_some D;refine⟨a,I b _ hb fun j hj=>?_⟩;have E:((⟨b,o,none⟩:Addr).add (i*sz)).add j=⟨b,o+i*sz+j,none⟩:=by
   unfold Addr.add;by_cases H:i*sz=0<;>by_cases D:j=0<;>simp[H,D]
  have:=v j hj;rw[E] at this;exact this
 have build:∀m,m<=len->∃l:List α,l.length=m/\∀i (h:i<l.length),P w b (o+i*sz) l[i]:=by
  intro m
  induction m with
  | zero=>intro _;exact⟨[],rfl,fun i h=>absurd h (Nat.not_lt_zero _)⟩
  | succ m ih =>
   intro X;obtain⟨l,M,h⟩:=ih (by omega);obtain⟨a,I⟩:=each m (by omega);refine⟨l++[a],by simp[M],fun i hi=>?_⟩;by_cases F:i<l.length
   .rw[List.getElem_append_left F];exact h i F
   have:i=m:=by simp at hi;omega
   subst this;rw[List.getElem_append_right (by omega)];simpa [M] using I
 obtain⟨l,R,hP⟩:=build len (Nat.le_refl _);exact⟨l,some ⟨b,o,none⟩,cap,.inr ⟨b,o,rfl,hb,hP⟩,by omega,G,by rw[R]⟩
theorem Vd{f l:List Value}{o m j:Nat}(h:(f.drop o).take m=l)(g:j<m):f[o+j]?=l[j]?:=by
 rw[<-h,List.getElem?_take_of_lt g,List.getElem?_drop]
end
def AC(w:World):PL->Nat->Nat->Prop
 | .nil,_,_=>True
 | .cons k nm n d args a tl,b,o=>w.cell? ⟨b,o,none⟩=some (.int .i64 k)/\w.cell? ⟨b,o+1,none⟩=some (.string nm)/\w.cell? ⟨b,o+2,none⟩=some (.int .i64 n) /\
   w.cell? ⟨b,o+3,none⟩=some (.int .i64 d)/\w.cell? ⟨b,o+5,none⟩=some (.int .i64 a)/\(I64 k/\I64 n/\I64 d/\I64 a/\nm.size<=9223372036854775807) /\
   (∃ad cap,w.cell? ⟨b,o+4,none⟩=some (.slice ad args.len cap)/\args.len<=cap/\cap<=9223372036854775807/\(args=.nil\/∃b' o',ad=some ⟨b',o',none⟩/\b'<w.1.size/\AC w args b' o')) /\
   AC w tl b (o+6)
def AS(w:World)(args:PL)(ad:OA):Prop:=args=.nil\/∃b o,ad=some ⟨b,o,none⟩/\b<w.1.size/\AC w args b o
structure AE (w:World) (e:PE) (ad:OA) (cap:Nat):Prop where
 nums:I64 e.k/\I64 e.n/\I64 e.d/\I64 e.a/\e.nm.size<=9223372036854775807
 len:e.args.len<=cap/\cap<=9223372036854775807
 args:AS w e.args ad
theorem AC.below{w w':World}(hb:Below w.1.size w w'):∀(l:PL)(b o:Nat),b<w.1.size->AC w l b o->AC w' l b o:=by
 intro l
 induction l with
 | nil=>intro b o _ _;trivial
 | cons k nm n d args a tl ih1 ih2 =>
  intro b o j h;have f:∀o,w'.cell? ⟨b,o,none⟩=w.cell? ⟨b,o,none⟩:=fun o=>hb.cell (p:=⟨b,o,none⟩) j
  obtain⟨q,v,x,y,A,D,⟨m,cap,z,g,C,hd⟩,ht⟩:=h;refine⟨(f _).trans q,(f _).trans v,(f _).trans x,(f _).trans y,(f _).trans A,D,⟨m,cap,(f _).trans z,g,C,?_⟩,ih2 b _ j ht⟩;rcases hd with hd|⟨b',o',e,hb',hd⟩
  .exact .inl hd
  exact .inr ⟨b',o',e,Zd hb' hb.size,ih1 b' o' hb' hd⟩
theorem AS.below{w w':World}(hb:Below w.1.size w w'){args:PL}{f:OA}(h:AS w args f):AS w' args f:=by
 rcases h with h|⟨b,o,e,hlt,h⟩
 .exact .inl h
 exact .inr ⟨b,o,e,Zd hlt hb.size,h.below hb _ _ _ hlt⟩
theorem AE.below{w w':World}(hb:Below w.1.size w w'){e:PE}{ad:OA}{cap:Nat}(h:AE w e ad cap):AE w' e ad cap:=⟨h.nums,h.len,h.args.below hb⟩
section
variable {H:Type} {enc:TypeId × Value->H} {w:World} {base:Nat} {sp:Nat->Bool} {held:Bool}
theorem X5:(prog.fieldsOf 111).toList.map (fun f=>(f.type,f.offset))=[(3,0),(9,1),(2,2),(2,3),(109,4),(3,5)]:=by kernel_rfl
theorem Uo:prog.underlying 111=some (.struct (prog.fieldsOf 111)):=by kernel_rfl
theorem QH:prog.cellsOf 111=6:=by kernel_rfl
theorem Up:prog.cellsOf 109=1:=by kernel_rfl
theorem QJ{v:List Value}{fs:Array Field}{l:List (TypeId × Nat)}{xs:List (DataW H × List MemPlace)}{n:Nat}(j:fs.toList.map (fun f=>(f.type,f.offset))=l)(g:xs.length=fs.size)
  (A:∀(i:Nat)(f:Field),fs[i]?=some f->DataW.trod enc prog w base sp held n f.type ((v.drop f.offset).take (prog.cellsOf f.type))=xs[i]?)(i:Nat)(m:TypeId)(o:Nat)(C:l[i]?=some (m,o))(z:prog.cellsOf m=1) :
  ∃y,DataW.trod enc prog w base sp held n m ((v.drop o).take 1)=some y:=by
 obtain⟨f,x,rfl,rfl⟩:=Eu j i m o C;have q:=A i f x;rw[z] at q;have hi:i<xs.length:=by rw[g];exact(Zq.1 x).1
 rw[Ze hi] at q;exact⟨_,q⟩
theorem vJ(b o:Nat) :
  ∀(m i:Nat),(∀j,i<=j->j<i+m->∃e ad cap,AE w e ad cap/\w.cell? ⟨b,o+j*6,none⟩=some (.int .i64 e.k)/\w.cell? ⟨b,o+j*6+1,none⟩=some (.string e.nm)/\w.cell? ⟨b,o+j*6+2,none⟩=some (.int .i64 e.n) /\
   w.cell? ⟨b,o+j*6+3,none⟩=some (.int .i64 e.d)/\w.cell? ⟨b,o+j*6+4,none⟩=some (.slice ad e.args.len cap)/\w.cell? ⟨b,o+j*6+5,none⟩=some (.int .i64 e.a)) ->
   ∃l:PL,l.len=m/\AC w l b (o+i*6):=by
 intro m
 induction m with
 | zero=>intro i _;exact⟨.nil,rfl,trivial⟩
 | succ m ih =>
  intro i h;obtain⟨l,v,q⟩:=ih (i+1) (fun j h1 h2=>h j oq oq);obtain⟨e,ad,cap,f,c0,c1,c2,c3,c4,g⟩:=h i (Zc _) oq;refine⟨.cons e.k e.nm e.n e.d e.args e.a l,by simp[PL.len,v],c0,c1,c2,c3,g,f.nums,⟨ad,cap,c4,f.len.1,f.len.2,f.args⟩,?_⟩;rw[show o+i*6+6=o+(i+1)*6 by omega];exact q
theorem ZaD:∀(fuel:Nat),
  (∀cs x,DataW.trod enc prog w base sp held fuel 111 cs=some x->∃e ad cap,AE w e ad cap/\cs=[.int .i64 e.k,.string e.nm,.int .i64 e.n,.int .i64 e.d,.slice ad e.args.len cap,.int .i64 e.a]) /\
  (∀cs x,DataW.trod enc prog w base sp held fuel 109 cs=some x->∃l ad cap,AS w l ad/\l.len<=cap/\cap<=9223372036854775807/\cs=[.slice ad l.len cap]):=by
 intro fuel
 induction fuel using Nat.strongRecOn with
 | _ fuel ih =>
  refine⟨fun cs x h=>?_,fun cs x h=>?_⟩
  .obtain⟨xs,n,rfl,_,G,v,F⟩:=DataW.trod_struct Uo h;rw[QH] at G;obtain⟨y0,I⟩:=QJ X5 v F 0 3 0 rfl intCells;obtain⟨y1,E⟩:=QJ X5 v F 1 9 1 rfl X8;obtain⟨y2,C⟩:=QJ X5 v F 2 2 2 rfl QN;obtain⟨y3,J⟩:=QJ X5 v F 3 2 3 rfl QN;obtain⟨y4,h4⟩:=QJ X5 v F 4 109 4 rfl Up;obtain⟨y5,h5⟩:=QJ X5 v F 5 3 5 rfl intCells;obtain⟨k,Y,_,w0⟩:=DataW.trod_int underlying3 I;obtain⟨nm,Z,_,w1⟩:=DataW.trod_string underlying9 E;obtain⟨m,e2,_,w2⟩:=DataW.trod_int underlying2 C;obtain⟨d,e3,_,w3⟩:=DataW.trod_int underlying2 J;obtain⟨l,ad,cap,hs,O,R,e4⟩:=(ih n oq).2 _ _ h4;obtain⟨a,e5,_,w5⟩:=DataW.trod_int underlying3 h5;refine⟨⟨k,nm,m,d,l,a⟩,ad,cap,⟨⟨Q8 w0,Q8 w2,Q8 w3,Q8 w5,Qb w1⟩,⟨O,R⟩,hs⟩,?_⟩;have g0:=one_cell Y;have g1:=one_cell Z;have g2:=one_cell e2;have g3:=one_cell e3;have g4:=one_cell e4;have g5:=one_cell e5;refine List.ext_getElem? fun i=>?_
   by_cases hi:i<6
   .obtain rfl|rfl|rfl|rfl|rfl|rfl:i=0\/i=1\/i=2\/i=3\/i=4\/i=5:=oq
    .exact g0
    .exact g1
    .exact g2
    .exact g3
    .exact g4
    exact g5
   rw[Yd oq,Yd (by simp;omega)]
  rcases DataW.trod_slice underlying109 h with ⟨rfl,_⟩|⟨ad,len,cap,elems,rest,n,rfl,rfl,_,_,hl,hm,hel,hall,_⟩
  .exact⟨.nil,none,0,.inl rfl,Zc _,Zk _,rfl⟩
  have H:cap<=9223372036854775807:=Qb hm;by_cases I:len=0
  .subst I;exact⟨.nil,some ad,cap,.inl rfl,Zk _,H,rfl⟩
  rw[QH] at hall;have key:∀i,i<len->∃z,w.cells? base (ad.add (i*6)) 6=some z/\∃y,DataW.trod enc prog w base sp held n 111 z=some y:=by
   intro i hi;have E:=hall i hi;rw[Ze oq] at E;obtain⟨z,C,J⟩:=Option.bind_eq_some_iff.1 E;exact⟨z,C,_,J⟩
  obtain⟨b,o,V⟩:=ad;obtain⟨X,M,y0,aa⟩:=key 0 oq;obtain⟨_,T,A⟩:=World.cells?_some M;have D:V=none:=by
   have:=A 0 oq;rw[Ze oq] at this;simpa [Addr.add] using World.cell?_spot this
  subst D;have q:∀j,0<=j->j<0+len->∃e ad cap,AE w e ad cap/\w.cell? ⟨b,o+j*6,none⟩=some (.int .i64 e.k)/\w.cell? ⟨b,o+j*6+1,none⟩=some (.string e.nm)/\w.cell? ⟨b,o+j*6+2,none⟩=some (.int .i64 e.n) /\
    w.cell? ⟨b,o+j*6+3,none⟩=some (.int .i64 e.d)/\w.cell? ⟨b,o+j*6+4,none⟩=some (.slice ad e.args.len cap)/\w.cell? ⟨b,o+j*6+5,none⟩=some (.int .i64 e.a):=by
   intro j _ hj;obtain⟨z,C,y,hy⟩:=key j oq;obtain⟨e,ad,cap,he,rfl⟩:=(ih n oq).1 _ _ hy;obtain⟨_,_,f⟩:=World.cells?_some C;have g:∀i,((⟨b,o,none⟩:Addr).add (j*6)).add i=⟨b,o+j*6+i,none⟩:=by
    intro i;unfold Addr.add;by_cases E:j*6=0<;>by_cases C:i=0<;>simp[E,C]
   refine⟨e,ad,cap,he,?_,?_,?_,?_,?_,?_⟩
   .have:=f 0 oq;rw[g] at this;exact this
   .have:=f 1 oq;rw[g] at this;exact this
   .have:=f 2 oq;rw[g] at this;exact this
   .have:=f 3 oq;rw[g] at this;exact this
   .have:=f 4 oq;rw[g] at this;exact this
   have:=f 5 oq;rw[g] at this;exact this
  obtain⟨l,U,L⟩:=vJ (w:=w) b o len 0 q;have hb:b<w.1.size:=by
   obtain⟨e,_,_,_,hc,_⟩:=q 0 (Zc _) oq;exact World.block_lt_of_cell? _ _ hc
  exact⟨l,some ⟨b,o,none⟩,cap,.inr ⟨b,o,rfl,hb,by simpa using L⟩,oq,H,by rw[U]⟩
end
structure ND where
 nm:ByteArray
 ps:List ByteArray
 bud:Int
 body:PE
 a:Int
structure IN where
 nm:ByteArray
 per:Int
 ph:Int
 a:Int
structure FL where
 nm:ByteArray
 e:PE
 a:Int
structure OU where
 nm:ByteArray
 fl:ByteArray
 dl:Int
 a:Int
structure PG where
 nodes:List ND
 ins:List IN
 flows:List FL
 outs:List OU
def zA(w:World)(b o:Nat)(e:PE):Prop :=
 ∃ad cap,w.cell? ⟨b,o,none⟩=some (.int .i64 e.k)/\w.cell? ⟨b,o+1,none⟩=some (.string e.nm)/\w.cell? ⟨b,o+2,none⟩=some (.int .i64 e.n)/\w.cell? ⟨b,o+3,none⟩=some (.int .i64 e.d) /\
  w.cell? ⟨b,o+4,none⟩=some (.slice ad e.args.len cap)/\w.cell? ⟨b,o+5,none⟩=some (.int .i64 e.a)/\AE w e ad cap
def G8(w:World)(b o:Nat)(x:ND):Prop :=
 w.cell? ⟨b,o,none⟩=some (.string x.nm)/\(∃ad cap,w.cell? ⟨b,o+1,none⟩=some (.slice ad x.ps.length cap)/\x.ps.length<=cap/\cap<=9223372036854775807/\Row xV 1 w x.ps ad)/\w.cell? ⟨b,o+2,none⟩=some (.int .i64 x.bud) /\
  zA w b (o+3) x.body/\w.cell? ⟨b,o+9,none⟩=some (.int .i64 x.a)/\(x.nm.size<=9223372036854775807/\I64 x.bud/\I64 x.a)
def InC(w:World)(b o:Nat)(x:IN):Prop :=
 w.cell? ⟨b,o,none⟩=some (.string x.nm)/\w.cell? ⟨b,o+1,none⟩=some (.int .i64 x.per)/\w.cell? ⟨b,o+2,none⟩=some (.int .i64 x.ph)/\w.cell? ⟨b,o+3,none⟩=some (.int .i64 x.a)/\(x.nm.size<=9223372036854775807/\I64 x.per/\I64 x.ph/\I64 x.a)
def FlC(w:World)(b o:Nat)(x:FL):Prop :=
 w.cell? ⟨b,o,none⟩=some (.string x.nm)/\zA w b (o+1) x.e/\w.cell? ⟨b,o+7,none⟩=some (.int .i64 x.a)/\(x.nm.size<=9223372036854775807/\I64 x.a)
def OuC(w:World)(b o:Nat)(x:OU):Prop :=
 w.cell? ⟨b,o,none⟩=some (.string x.nm)/\w.cell? ⟨b,o+1,none⟩=some (.string x.fl)/\w.cell? ⟨b,o+2,none⟩=some (.int .i64 x.dl)/\w.cell? ⟨b,o+3,none⟩=some (.int .i64 x.a)/\(x.nm.size<=9223372036854775807/\x.fl.size<=9223372036854775807/\I64 x.dl/\I64 x.a)
theorem zA.below{w w':World}{b o:Nat}{e:PE}(hb:Below w.1.size w w')(g:b<w.1.size)(h:zA w b o e):zA w' b o e:=by
 obtain⟨j,cap,m,q,v,x,y,z,A⟩:=h;have f:∀o,w'.cell? ⟨b,o,none⟩=w.cell? ⟨b,o,none⟩:=fun o=>hb.cell (p:=⟨b,o,none⟩) g
 exact⟨j,cap,(f _).trans m,(f _).trans q,(f _).trans v,(f _).trans x,(f _).trans y,(f _).trans z,A.below hb⟩
theorem QT:Sta xV:=fun w w' b o x hb hlt h=>⟨(hb.cell (p:=⟨b,o,none⟩) hlt).trans h.1,h.2⟩
theorem Vk:Sta G8:=fun w w' b o x hb hlt h=>by
 have hc:∀o,w'.cell? ⟨b,o,none⟩=w.cell? ⟨b,o,none⟩:=fun o=>hb.cell (p:=⟨b,o,none⟩) hlt
 obtain⟨h0,⟨ad,cap,h1,h2,h3,h4⟩,h5,h6,h7,h8⟩:=h;exact⟨(hc _).trans h0,⟨ad,cap,(hc _).trans h1,h2,h3,h4.below QT hb⟩,(hc _).trans h5,h6.below hb hlt,(hc _).trans h7,h8⟩
theorem EB:Sta InC:=fun w w' b o x hb hlt h=>by
 have hc:∀o,w'.cell? ⟨b,o,none⟩=w.cell? ⟨b,o,none⟩:=fun o=>hb.cell (p:=⟨b,o,none⟩) hlt
 obtain⟨h0,h1,h2,h3,h4⟩:=h;exact⟨(hc _).trans h0,(hc _).trans h1,(hc _).trans h2,(hc _).trans h3,h4⟩
theorem Vs:Sta FlC:=fun w w' b o x hb hlt h=>by
 have hc:∀o,w'.cell? ⟨b,o,none⟩=w.cell? ⟨b,o,none⟩:=fun o=>hb.cell (p:=⟨b,o,none⟩) hlt
 obtain⟨h0,h1,h2,h3⟩:=h;exact⟨(hc _).trans h0,h1.below hb hlt,(hc _).trans h2,h3⟩
theorem jF:Sta OuC:=fun w w' b o x hb hlt h=>by
 have hc:∀o,w'.cell? ⟨b,o,none⟩=w.cell? ⟨b,o,none⟩:=fun o=>hb.cell (p:=⟨b,o,none⟩) hlt
 obtain⟨h0,h1,h2,h3,h4⟩:=h;exact⟨(hc _).trans h0,(hc _).trans h1,(hc _).trans h2,(hc _).trans h3,h4⟩
structure AP (w:World) (p:PG) (an ai af ao:OA) (cn ci cf co:Nat):Prop where
 nodes:Row G8 10 w p.nodes an
 ins:Row InC 4 w p.ins ai
 flows:Row FlC 8 w p.flows af
 outs:Row OuC 4 w p.outs ao
 caps:(p.nodes.length<=cn/\cn<=9223372036854775807)/\(p.ins.length<=ci/\ci<=9223372036854775807)/\(p.flows.length<=cf/\cf<=9223372036854775807)/\(p.outs.length<=co/\co<=9223372036854775807)
def pv(p:PG)(an ai af ao:OA)(cn ci cf co:Nat):Value:=.agg #[.slice an p.nodes.length cn,.slice ai p.ins.length ci,.slice af p.flows.length cf,.slice ao p.outs.length co]
theorem AP.below{w w':World}{p:PG}{an ai af ao:OA}{cn ci cf co:Nat}(hb:Below w.1.size w w')(h:AP w p an ai af ao cn ci cf co):AP w' p an ai af ao cn ci cf co :=
 ⟨h.nodes.below Vk hb,h.ins.below EB hb,h.flows.below Vs hb,h.outs.below jF hb,h.caps⟩
section
variable {H:Type} {enc:TypeId × Value->H} {w:World} {base:Nat} {sp:Nat->Bool} {held:Bool}
theorem QQ:(prog.fieldsOf 113).toList.map (fun f=>(f.type,f.offset))=[(9,0),(108,1),(2,2),(111,3),(3,9)]:=by kernel_rfl
theorem EQ:prog.underlying 113=some (.struct (prog.fieldsOf 113)):=by kernel_rfl
theorem yh:prog.cellsOf 113=10:=by kernel_rfl
theorem U0:(prog.fieldsOf 153).toList.map (fun f=>(f.type,f.offset))=[(9,0),(2,1),(2,2),(3,3)]:=by kernel_rfl
theorem Zci:prog.underlying 153=some (.struct (prog.fieldsOf 153)):=by kernel_rfl
theorem Zej:prog.cellsOf 153=4:=by kernel_rfl
theorem Ew:(prog.fieldsOf 155).toList.map (fun f=>(f.type,f.offset))=[(9,0),(111,1),(3,7)]:=by kernel_rfl
theorem Zb8:prog.underlying 155=some (.struct (prog.fieldsOf 155)):=by kernel_rfl
theorem Zeh:prog.cellsOf 155=8:=by kernel_rfl
theorem U7:(prog.fieldsOf 157).toList.map (fun f=>(f.type,f.offset))=[(9,0),(9,1),(2,2),(3,3)]:=by kernel_rfl
theorem ZcV:prog.underlying 157=some (.struct (prog.fieldsOf 157)):=by kernel_rfl
theorem ZeB:prog.cellsOf 157=4:=by kernel_rfl
theorem U8:(prog.fieldsOf 27).toList.map (fun f=>(f.type,f.offset))=[(22,0),(23,1),(24,2),(25,3)]:=by kernel_rfl
theorem ZcZ:prog.underlying 27=some (.struct (prog.fieldsOf 27)):=by kernel_rfl
theorem ZeF:prog.cellsOf 27=4:=by kernel_rfl
theorem Zdm:prog.cellsOf 108=1:=by kernel_rfl
theorem Zdn:prog.cellsOf 22=1:=by kernel_rfl
theorem Zdo:prog.cellsOf 23=1:=by kernel_rfl
theorem Zdp:prog.cellsOf 24=1:=by kernel_rfl
theorem Zdq:prog.cellsOf 25=1:=by kernel_rfl
theorem open_strs{n:Nat}{cs:List Value}{x}(h:DataW.trod enc prog w base sp held n 108 cs=some x):∃(l:List ByteArray)(ad:OA)(cap:Nat),Row xV 1 w l ad/\l.length<=cap/\cap<=9223372036854775807/\cs=[.slice ad l.length cap] :=
 open_row underlying108 X8 oq (fun n cs x h=>by
  obtain⟨s,rfl,_,hs⟩:=DataW.trod_string underlying9 h;exact⟨s,fun b o _ hc=>⟨by have:=hc 0 oq;simpa using this,Qb hs⟩⟩) h
theorem EU{g:List Value}{o:Nat}{n:Nat}{y}(h:DataW.trod enc prog w base sp held n 111 ((g.drop o).take 6)=some y) :
  ∃e:PE,∀b p,(∀j,j<6->w.cell? ⟨b,p+j,none⟩=g[o+j]?)->zA w b p e:=by
 obtain⟨e,m,cap,q,f⟩:=(ZaD n).1 _ _ h;refine⟨e,fun b p hc=>⟨m,cap,?_,?_,?_,?_,?_,?_,q⟩⟩
 .exact(hc 0 oq).trans ((Vd f oq).trans rfl)
 .exact(hc 1 oq).trans ((Vd f oq).trans rfl)
 .exact(hc 2 oq).trans ((Vd f oq).trans rfl)
 .exact(hc 3 oq).trans ((Vd f oq).trans rfl)
 .exact(hc 4 oq).trans ((Vd f oq).trans rfl)
 exact(hc 5 oq).trans ((Vd f oq).trans rfl)
theorem ZaE(n:Nat)(y:List Value)(x)(h:DataW.trod enc prog w base sp held n 113 y=some x):∃a:ND,∀b o,b<w.1.size->(∀j,j<10->w.cell? ⟨b,o+j,none⟩=y[j]?)->G8 w b o a:=by
 obtain⟨V,n,rfl,_,z,f,m⟩:=DataW.trod_struct EQ h;obtain⟨X,G⟩:=YM QQ f m 0 9 0 1 rfl X8;obtain⟨Y,H⟩:=YM QQ f m 1 108 1 1 rfl Zdm;obtain⟨Z,I⟩:=YM QQ f m 2 2 2 1 rfl QN;obtain⟨y3,J⟩:=YM QQ f m 3 111 3 6 rfl QH;obtain⟨y4,L⟩:=YM QQ f m 4 3 9 1 rfl intCells;obtain⟨O,C,_,R⟩:=DataW.trod_string underlying9 G;obtain⟨ps,A,cap,M,q,v,D⟩:=open_strs H;obtain⟨bud,E,_,T⟩:=DataW.trod_int underlying2 I;obtain⟨body,g⟩:=EU J;obtain⟨a,F,_,U⟩:=DataW.trod_int underlying3 L;refine⟨⟨O,ps,bud,body,a⟩,fun b o hb hc=>⟨?_,⟨A,cap,?_,q,v,M⟩,?_,g b (o+3) (fun j hj=>by rw[Nat.add_assoc];exact hc (3+j) oq),?_,Qb R,Q8 T,Q8 U⟩⟩
 .exact(hc 0 oq).trans (one_cell C)
 .exact(hc 1 oq).trans (one_cell D)
 .exact(hc 2 oq).trans (one_cell E)
 exact(hc 9 oq).trans (one_cell F)
theorem Zex(n:Nat)(q:List Value)(x)(h:DataW.trod enc prog w base sp held n 153 q=some x):∃a:IN,∀b o,b<w.1.size->(∀j,j<4->w.cell? ⟨b,o+j,none⟩=q[j]?)->InC w b o a:=by
 obtain⟨O,n,rfl,_,v,f,g⟩:=DataW.trod_struct Zci h;obtain⟨R,D⟩:=YM U0 f g 0 9 0 1 rfl X8;obtain⟨T,E⟩:=YM U0 f g 1 2 1 1 rfl QN;obtain⟨U,F⟩:=YM U0 f g 2 2 2 1 rfl QN;obtain⟨V,G⟩:=YM U0 f g 3 3 3 1 rfl intCells;obtain⟨H,y,_,I⟩:=DataW.trod_string underlying9 D;obtain⟨m,z,_,J⟩:=DataW.trod_int underlying2 E;obtain⟨ph,A,_,L⟩:=DataW.trod_int underlying2 F;obtain⟨a,C,_,M⟩:=DataW.trod_int underlying3 G;exact⟨⟨H,m,ph,a⟩,fun b o hb hc=>⟨(hc 0 oq).trans (one_cell y),(hc 1 oq).trans (one_cell z),(hc 2 oq).trans (one_cell A),(hc 3 oq).trans (one_cell C),Qb I,Q8 J,Q8 L,Q8 M⟩⟩
theorem Zew(n:Nat)(m:List Value)(x)(h:DataW.trod enc prog w base sp held n 155 m=some x):∃a:FL,∀b o,b<w.1.size->(∀j,j<8->w.cell? ⟨b,o+j,none⟩=m[j]?)->FlC w b o a:=by
 obtain⟨H,n,rfl,_,q,f,g⟩:=DataW.trod_struct Zb8 h;obtain⟨I,z⟩:=YM Ew f g 0 9 0 1 rfl X8;obtain⟨J,A⟩:=YM Ew f g 1 111 1 6 rfl QH;obtain⟨L,C⟩:=YM Ew f g 2 3 7 1 rfl intCells;obtain⟨E,v,_,F⟩:=DataW.trod_string underlying9 z;obtain⟨e,D⟩:=EU A;obtain⟨a,y,_,G⟩:=DataW.trod_int underlying3 C;exact⟨⟨E,e,a⟩,fun b o hb hc=>⟨(hc 0 oq).trans (one_cell v),D b (o+1) (fun j hj=>by rw[Nat.add_assoc];exact hc (1+j) oq),(hc 7 oq).trans (one_cell y),Qb F,Q8 G⟩⟩
theorem Zey(n:Nat)(m:List Value)(x)(h:DataW.trod enc prog w base sp held n 157 m=some x):∃a:OU,∀b o,b<w.1.size->(∀j,j<4->w.cell? ⟨b,o+j,none⟩=m[j]?)->OuC w b o a:=by
 obtain⟨R,n,rfl,_,q,f,g⟩:=DataW.trod_struct ZcV h;obtain⟨T,E⟩:=YM U7 f g 0 9 0 1 rfl X8;obtain⟨U,F⟩:=YM U7 f g 1 9 1 1 rfl X8;obtain⟨V,G⟩:=YM U7 f g 2 2 2 1 rfl QN;obtain⟨X,H⟩:=YM U7 f g 3 3 3 1 rfl intCells;obtain⟨I,y,_,J⟩:=DataW.trod_string underlying9 E;obtain⟨D,z,_,L⟩:=DataW.trod_string underlying9 F;obtain⟨v,A,_,M⟩:=DataW.trod_int underlying2 G;obtain⟨a,C,_,O⟩:=DataW.trod_int underlying3 H;exact⟨⟨I,D,v,a⟩,fun b o hb hc=>⟨(hc 0 oq).trans (one_cell y),(hc 1 oq).trans (one_cell z),(hc 2 oq).trans (one_cell A),(hc 3 oq).trans (one_cell C),Qb J,Qb L,Q8 M,Q8 O⟩⟩
theorem Zez{n:Nat}{D:List Value}{x}(h:DataW.trod enc prog w base sp held n 27 D=some x) :
  ∃(p:PG)(an m j q:OA)(z y v A:Nat),AP w p an m j q z y v A/\D=[.slice an p.nodes.length z,.slice m p.ins.length y,.slice j p.flows.length v,.slice q p.outs.length A]:=by
 obtain⟨xs,n,rfl,_,g,f,C⟩:=DataW.trod_struct ZcZ h;rw[ZeF] at g;obtain⟨y0,R⟩:=YM U8 f C 0 22 0 1 rfl Zdn;obtain⟨y1,T⟩:=YM U8 f C 1 23 1 1 rfl Zdo;obtain⟨y2,U⟩:=YM U8 f C 2 24 2 1 rfl Zdp;obtain⟨y3,V⟩:=YM U8 f C 3 25 3 1 rfl Zdq;obtain⟨nodes,an,z,rn,Z,n2,G⟩:=open_row underlying22 yh oq ZaE R;obtain⟨ins,m,y,ri,X,Y,F⟩:=open_row underlying23 Zej oq Zex T;obtain⟨flows,j,v,rf,f1,I,E⟩:=open_row underlying24 Zeh oq Zew U;obtain⟨outs,q,A,ro,o1,o2,H⟩:=open_row underlying25 ZeB oq Zey V;refine⟨⟨nodes,ins,flows,outs⟩,an,m,j,q,z,y,v,A,⟨rn,ri,rf,ro,⟨Z,n2⟩,⟨X,Y⟩,⟨f1,I⟩,⟨o1,o2⟩⟩,?_⟩;have J:=one_cell G;have L:=one_cell F;have M:=one_cell E;have O:=one_cell H;refine List.ext_getElem? fun i=>?_
 by_cases hi:i<4
 .obtain rfl|rfl|rfl|rfl:i=0\/i=1\/i=2\/i=3:=oq
  .exact J
  .exact L
  .exact M
  exact O
 rw[Yd oq,Yd (by simp;omega)]
end
def NF(w:World):PL->Nat->Nat->Prop
 | .nil,_,_=>True
 | .cons k nm n d args a tl,b,o=>w.frozen? ⟨b,o,none⟩=false/\(∀b' o' cap,w.cell? ⟨b,o+4,none⟩=some (.slice (some ⟨b',o',none⟩) args.len cap)->NF w args b' o')/\NF w tl b (o+6)
theorem NF.below{w w':World}(hb:Below w.1.size w w'):∀(l:PL)(b o:Nat),b<w.1.size->AC w l b o->NF w l b o->NF w' l b o:=by
 intro l
 induction l with
 | nil=>intro b o _ _ _;trivial
 | cons k nm n d args a tl ih1 ih2 =>
  intro b o g h q;obtain⟨_,_,_,_,_,_,⟨z,cap,j,_,_,hd⟩,ht⟩:=h;obtain⟨v,x,y⟩:=q;refine⟨(hb.frozen (p:=⟨b,o,none⟩) g).trans v,fun b' o' cap' hc=>?_,ih2 b _ g ht y⟩;have f:=(hb.cell (p:=⟨b,o+4,none⟩) g).symm.trans hc;have m:=x b' o' cap' f;rw[j] at f;injection f with f
  injection f with e1 _ _
  rcases hd with rfl|⟨b2,o2,e,hb2,hd⟩
  .trivial
  rw[e1] at e;injection e with e;injection e with e1 e2
  subst e1;subst e2;exact ih1 _ _ hb2 hd m
section
variable {H:Type} {enc:TypeId × Value->H} {w:World} {base:Nat} {sp:Nat->Bool} {held:Bool}
theorem Ev{x:List Value}{fs:Array Field}{l:List (TypeId × Nat)}{xs:List (DataW H × List MemPlace)}{n:Nat}(j:fs.toList.map (fun f=>(f.type,f.offset))=l)(g:xs.length=fs.size)
  (C:∀(i:Nat)(f:Field),fs[i]?=some f->DataW.trod enc prog w base sp held n f.type ((x.drop f.offset).take (prog.cellsOf f.type))=xs[i]?)(i:Nat)(q:TypeId)(o m:Nat)(D:l[i]?=some (q,o))(A:prog.cellsOf q=m) :
  ∃y∈xs,DataW.trod enc prog w base sp held n q ((x.drop o).take m)=some y:=by
 obtain⟨f,z,rfl,rfl⟩:=Eu j i q o D;have v:=C i f z;rw[A] at v;have hi:i<xs.length:=by rw[g];exact(Zq.1 z).1
 rw[Ze hi] at v;exact⟨_,Zi hi,v⟩
theorem uC{xs:List (DataW H × List MemPlace)}(h:w.noneFrozen (xs.flatMap (·.2))){y}(hy:y∈xs):w.noneFrozen y.2 :=
 fun b o hm=>h b o (List.mem_flatMap.2 ⟨y,hy,hm⟩)
theorem vy(b o n i:Nat):((⟨b,o,none⟩:Addr).add n).add i=⟨b,o+n+i,none⟩:=by
 unfold Addr.add;by_cases f:n=0<;>by_cases g:i=0<;>simp[f,g]
theorem Zf5:∀(l:PL)(b o:Nat),AC w l b o->(∀i,i<l.len->w.frozen? ⟨b,o+i*6,none⟩=false) ->
  (∀i,i<l.len->∃n cs y,(∀j,j<6->w.cell? ⟨b,o+i*6+j,none⟩=cs[j]?)/\DataW.trod enc prog w base sp held n 111 cs=some y/\w.noneFrozen y.2)->NF w l b o:=by
 intro l
 induction l with
 | nil=>intro b o _ _ _;trivial
 | cons k nm n d args a tl ih1 ih2 =>
  intro b o E A z;obtain⟨_,_,_,_,_,_,⟨U,cap,J,_,_,hd⟩,ht⟩:=E;refine⟨by have:=A 0 (by simp[PL.len]);simpa using this,fun b' o' cap' hc=>?_,ih2 b (o+6) ht (fun i hi=>?_) (fun i hi=>?_)⟩
  .rw[J] at hc;injection hc with hc
   injection hc with e1 _ e3
   subst e1;rcases hd with rfl|⟨b2,o2,e,hb2,hd⟩
   .trivial
   injection e with e;injection e with e1 e2
   subst e1;subst e2;obtain⟨m,cs,y,g,hy,H⟩:=z 0 (by simp[PL.len]);obtain⟨V,m,rfl,rfl,L,F,T⟩:=DataW.trod_struct Uo hy;obtain⟨X,G,M⟩:=Ev X5 F T 4 109 4 1 rfl Up;have v:=uC H G;have x:=g 4 oq;rw[Nat.zero_mul,Nat.add_zero,J] at x;have D:(cs.drop 4).take 1=[Value.slice (some ⟨b',o',none⟩) args.len cap]:=by
    rw[List.take_one,List.head?_drop,<-x];rfl
   rw[D] at M;rcases DataW.trod_slice underlying109 M with ⟨h,_⟩|⟨a0,len,cp,elems,rest,q,rfl,h,rfl,_,_,_,hl,hall,_⟩
   .simp at h
   simp at h;obtain⟨rfl,rfl,rfl⟩:=h;rw[QH] at hall v;refine ih1 _ _ hd (fun i hi=>?_) (fun i hi=>?_)
   .exact v b' (o'+i*6) (List.mem_append_left _ (MemPlace.mem_row.2 ⟨i*6,oq,rfl⟩))
   have I:=hall i hi;rw[Ze oq] at I;obtain⟨C,O,R⟩:=Option.bind_eq_some_iff.1 I;obtain⟨_,_,f⟩:=World.cells?_some O;refine⟨q,C,_,fun j hj=>?_,R,fun b o hm=>v b o (List.mem_append_right _ (List.mem_flatMap.2 ⟨elems[i],List.mem_append_left _ (Zi _),hm⟩))⟩;have:=f j hj;rw[vy] at this;exact this
  .have:=A (i+1) (by simp[PL.len];omega);rw[show o+6+i*6=o+(i+1)*6 by omega];exact this
  obtain⟨m,cs,y,g,hy,H⟩:=z (i+1) (by simp[PL.len];omega);exact⟨m,cs,y,fun j hj=>by rw[show o+6+i*6+j=o+(i+1)*6+j by omega];exact g j hj,hy,H⟩
def NZ(w:World)(nodes:List ND)(an:OA):Prop:=∀b o,an=some ⟨b,o,none⟩->∀i (h:i<nodes.length),∀b' o' cap,
 w.cell? ⟨b,o+i*10+7,none⟩=some (.slice (some ⟨b',o',none⟩) nodes[i].body.args.len cap)->NF w nodes[i].body.args b' o'
theorem ZcT{f:List ND}{an:OA}{cn n:Nat}{x}(hr:Row G8 10 w f an)(h:DataW.trod enc prog w base sp held n 22 [.slice an f.length cn]=some x)(hz:w.noneFrozen x.2):NZ w f an:=by
 intro b o T i hi b' o' cap hc;subst T;obtain⟨b2,o2,e,hb,v⟩:=hr.at hi;injection e with e;injection e with e1 e2
 subst e1;subst e2;obtain⟨_,_,_,⟨ad,ab,_,_,_,_,A,_,R⟩,_⟩:=v;rw[show o+i*10+3+4=o+i*10+7 by omega,hc] at A;injection A with A
 injection A with A _ h6
 subst A;subst h6;rcases R.args with h0|⟨b3,o3,e,hb3,hac⟩
 .rw[h0];trivial
 injection e with e;injection e with e1 e2
 subst e1;subst e2;rcases DataW.trod_slice underlying22 h with ⟨hcs0,_⟩|⟨a0,len,cp,elems,rest,q,rfl,hcs0,rfl,_,_,_,hl,hall,_⟩
 .simp at hcs0
 simp only[List.cons.injEq,and_true,Value.slice.injEq,Option.some.injEq] at hcs0;obtain⟨J,L,ae⟩:=hcs0;subst J;subst L;rw[yh] at hall hz;have C:=hall i hi;rw[Ze oq] at C;obtain⟨H,M,G⟩:=Option.bind_eq_some_iff.1 C;obtain⟨_,_,g⟩:=World.cells?_some M;have F:w.noneFrozen (elems[i]'oq).2:=fun b o hm=>hz b o (List.mem_append_right _ (List.mem_flatMap.2 ⟨elems[i],List.mem_append_left _ (Zi _),hm⟩))
 generalize elems[i]'oq=y at G F;obtain⟨xs,m,rfl,rfl,ac,X,hf⟩:=DataW.trod_struct EQ G;obtain⟨y3,Y,t3⟩:=Ev QQ X hf 3 111 3 6 rfl QH;have aa:=uC F Y;obtain⟨af,m2,rfl,rfl,V,E,U⟩:=DataW.trod_struct Uo t3;obtain⟨y4,Z,t4⟩:=Ev X5 E U 4 109 4 1 rfl Up;have z:=uC aa Z;have D:=g 7 oq;rw[vy,hc] at D;have O:(((H.drop 3).take 6).drop 4).take 1=[Value.slice (some ⟨b',o',none⟩) f[i].body.args.len cap]:=by
  rw[List.take_one,List.head?_drop,Yp oq,List.getElem?_drop,<-D];rfl
 rw[O] at t4;rcases DataW.trod_slice underlying109 t4 with ⟨h,_⟩|⟨a0,len,cp,elems2,rest2,q2,rfl,h,rfl,_,_,_,hl2,hall2,_⟩
 .simp at h
 simp at h;obtain⟨rfl,rfl,rfl⟩:=h;rw[QH] at hall2 z;refine Zf5 (enc:=enc) (base:=base) (sp:=sp) (held:=held) _ _ _ hac (fun j hj=>?_) (fun j hj=>?_)
 .exact z b' (o'+j*6) (List.mem_append_left _ (MemPlace.mem_row.2 ⟨j*6,oq,rfl⟩))
 have C:=hall2 j hj;rw[Ze oq] at C;obtain⟨I,M,G⟩:=Option.bind_eq_some_iff.1 C;obtain⟨_,_,g⟩:=World.cells?_some M;refine⟨q2,I,_,fun i hi=>?_,G,fun b o hm=>z b o (List.mem_append_right _ (List.mem_flatMap.2 ⟨elems2[j],List.mem_append_left _ (Zi _),hm⟩))⟩;have:=g i hi;rw[vy] at this;exact this
end
theorem NZ.below{w w':World}{f:List ND}{an:OA}(D:Row G8 10 w f an)(hb:Below w.1.size w w')(h:NZ w f an):NZ w' f an:=by
 intro b o v i hi z E cap A;subst v;obtain⟨G,H,e,x,g⟩:=D.at hi;injection e with e;injection e with e1 e2
 subst e1;subst e2;obtain⟨_,_,_,⟨F,y,_,_,_,_,j,_,q⟩,_⟩:=g;have m:=(hb.cell (p:=⟨b,o+i*10+7,none⟩) x).symm.trans A;have C:=h b o rfl i hi z E cap m;rw[show o+i*10+3+4=o+i*10+7 by omega,m] at j;injection j with j
 injection j with j _ h6
 subst j;subst h6;rcases q.args with h0|⟨b3,o3,e,hb3,hac⟩
 .rw[h0];trivial
 injection e with e;injection e with e1 e2
 subst e1;subst e2;exact C.below hb _ _ _ hb3 hac
open Go.RowKit lex
theorem uO(c:UInt8)(w:World):Calls prog 127 #[.int .u8 (c.toNat:Int)] w fun e w'=>e=.returned (.bool (xB c))/\w=w':=by
 unfold xB;generalize (c.toNat:Int)=n;by_cases f:(97:Int)<=n
 .by_cases j:n<=122
  .have E:=hid (show(decide ((97:Int)<=n)&&decide (n<=122))=true by simp;omega);go_enter func127,ntmps127;go_wp2;go_ret;exact⟨by rw[E.o];first|rfl|(simp;omega),rfl⟩
  have E:=hid (show(decide ((97:Int)<=n)&&decide (n<=122))=false by simp;omega);have m:122<n:=oq;clear j;go_enter func127,ntmps127;go_wp2;go_ret;exact⟨by rw[E.o];first|rfl|(simp;omega),rfl⟩
 have E:=hid (show(decide ((97:Int)<=n)&&decide (n<=122))=false by simp;omega);have g:n<97:=oq;clear f;go_enter func127,ntmps127;go_wp2;go_ret;exact⟨by rw[E.o];first|rfl|(simp;omega),rfl⟩
theorem uK(c:UInt8)(w:World):Calls prog 128 #[.int .u8 (c.toNat:Int)] w fun e w'=>e=.returned (.bool (yR c))/\w=w':=by
 unfold yR;generalize (c.toNat:Int)=n;by_cases f:(48:Int)<=n
 .by_cases j:n<=57
  .have E:=hid (show(decide ((48:Int)<=n)&&decide (n<=57))=true by simp;omega);go_enter func128,ntmps128;go_wp2;go_ret;exact⟨by rw[E.o];first|rfl|(simp;omega),rfl⟩
  have E:=hid (show(decide ((48:Int)<=n)&&decide (n<=57))=false by simp;omega);have m:57<n:=oq;clear j;go_enter func128,ntmps128;go_wp2;go_ret;exact⟨by rw[E.o];first|rfl|(simp;omega),rfl⟩
 have E:=hid (show(decide ((48:Int)<=n)&&decide (n<=57))=false by simp;omega);have g:n<48:=oq;clear f;go_enter func128,ntmps128;go_wp2;go_ret;exact⟨by rw[E.o];first|rfl|(simp;omega),rfl⟩
theorem YK{a b:Bool}(h:a=b):Ending.returned (.bool a)=.returned (.bool b):=by rw[h]
def vx:Obj:=.cells #[.string ⟨#[110,111,100,101]⟩,.string ⟨#[98,117,100,103,101,116]⟩,.string ⟨#[105,110,112,117,116]⟩,.string ⟨#[112,101,114,105,111,100]⟩,.string ⟨#[112,104,97,115,101]⟩,.string ⟨#[102,108,111,119]⟩,.string ⟨#[102,98,121]⟩,.string ⟨#[116,97,105,108]⟩,.string ⟨#[111,117,116,112,117,116]⟩,.string ⟨#[100,101,97,100,108,105,110,101]⟩] 9
theorem ZdK(w:World)(j:Nat)(m:j<10):(w.alloc vx).cell? ⟨w.1.size,j,none⟩=some (.string (UA.getD j ByteArray.empty)):=by
 have hb:(w.alloc vx).1[w.1.size]?=some vx:=Yx w vx;have f:=hb;unfold vx at f;have g:=fun o=>Z8 _ w.1.size o _ _ _ f
 unfold vx;rw[g]
 match j,m with
 | 0,_=>rfl
 | 1,_=>rfl
 | 2,_=>rfl
 | 3,_=>rfl
 | 4,_=>rfl
 | 5,_=>rfl
 | 6,_=>rfl
 | 7,_=>rfl
 | 8,_=>rfl
 | 9,_=>rfl
 | j+10,h=>omega
theorem Jh(a b:ByteArray):(a.toList == b.toList)=decide (a=b):=by
 rw[Lib.toList_data,Lib.toList_data];obtain⟨⟨x⟩⟩:=a;obtain⟨⟨y⟩⟩:=b;by_cases h:x=y
 .subst h;simp
 have:¬((⟨⟨x⟩⟩:ByteArray)=⟨⟨y⟩⟩):=by intro e;injection e with e;injection e with e;exact h e
 rw[Z0 this];simpa using h
def yw(s:ByteArray):Bool:=Lib.containsS UA s
theorem ZdI{s:ByteArray}{k:Nat}(f:k<10)(h:UA.getD k ByteArray.empty=s):yw s=true:=by
 refine(Lib.containsS_iff _ _).2 ?_;rw[<-h,Zf,Ze (show k<UA.length from f),Ya];exact Zi _
theorem Zbg{s:ByteArray}(h:∀j,j<10->UA.getD j ByteArray.empty≠s):yw s=false:=by
 cases hb:yw s with
 | false=>rfl
 | true =>
  obtain⟨j,f,g⟩:=Yn ((Lib.containsS_iff _ _).1 hb);refine(h j f ?_).elim;rw[Zf,Ze f,Ya];exact g
theorem ZdJ(s:ByteArray)(w:World):Calls prog 129 #[.string s] w fun e w'=>e=.returned (.bool (yw s))/\Below w.1.size w w':=by
 obtain⟨G,g⟩:=ez (yw s);rw[g];have q:=hid g;clear g;have D:=hid (fun w=>lex.Zbh w);go_enter func129,ntmps129;go_wp2_with (go_at_call 188;(with_reducible refine(D.o _).mono ?_);rintro e F ⟨rfl,rfl⟩);go_loop [4] (fun i=>∃k:Nat,k<=10/\i=.int .i64 (k:Int)/\Hid (∀j,j<k->UA.getD j ByteArray.empty≠s)) (fun i=>10-(intOf i).toNat)
 case atStart=>exact⟨0,oq,rfl,fun j hj=>oq⟩
 obtain⟨k,E,rfl,y⟩:=hrel;by_cases v:k<10
 .have f:=ZdK w k v;unfold vx at f;obtain⟨x,A⟩:=ez (UA.getD k ByteArray.empty);rw[A] at f;have hb:=Jh x s;have C:=hid A;clear A;by_cases m:x=s
  .rw[Z1 m] at hb;have z:=hid m;clear m;go_wp2;go_ret;exact⟨YK (by rw[<-q.o,ZdI v (C.o.trans z.o)]),bq⟩
  rw[Z0 m] at hb;have z:=hid m;clear m;go_wp2;go_round
  case rel=>exact⟨k+1,oq,by go_num,fun j hj=>by by_cases h:j<k;(· exact y.o j h);(· obtain rfl:j=k:=oq;rw[C.o];exact z.o)⟩
  simp[intOf];omega
 go_wp2;go_ret;exact⟨YK (by rw[<-q.o,Zbg (fun j hj=>y.o j oq)]),bq⟩
def okB(first:Bool)(c:UInt8):Bool:=xB c||(!first&&(yR c||(c.toNat:Int) == 95))
def okL:Bool->List UInt8->Bool
 | _,[]=>true
 | first,c::l=>okB first c&&okL false l
def XP(s:ByteArray):Bool:=okL true s.data.toList&&!s.data.toList.isEmpty&&decide (s.size<=100)&&!yw s
theorem drop_byte{s:ByteArray}{k:Nat}(h:k<s.size):s.data.toList.drop k=s[k]::s.data.toList.drop (k+1):=by
 rw[ZO (by simpa using h)];rfl
theorem yg{s:ByteArray}(h:okL true s.data.toList=false):XP s=false:=by unfold XP;rw[h];rfl
theorem Qc(s:ByteArray)(w:World)(Z:s.size<=9223372036854775807):Calls prog 65 #[.string s] w fun e w'=>e=.returned (.bool (XP s))/\Below w.1.size w w':=by
 obtain⟨nb,E⟩:=ez (XP s);rw[E];have g:=hid E;clear E;go_enter func65,ntmps65;go_wp2;go_loop [3] (fun i=>∃k:Nat,k<=s.size/\i=.int .i64 (k:Int)/\Hid (okL true s.data.toList=okL (decide (k=0)) (s.data.toList.drop k))) (fun i=>s.size-(intOf i).toNat)
 case atStart=>exact⟨0,oq,rfl,rfl⟩
 obtain⟨k,Y,rfl,q⟩:=hrel;by_cases U:k<s.size
 .have X:=hid (drop_byte U);have z:=hid (fun w=>uO s[k] w);have F:=hid (fun w=>uK s[k] w);have y:=hid q.o;clear q;have f:=y.o;rw[X.o,okL] at f
  cases h1:xB s[k] with
  | true =>
   rw[h1] at z;have m:=hid (show okL true s.data.toList=okL (decide (k+1=0)) (s.data.toList.drop (k+1)) by rw[f];unfold okB;rw[h1];simp);clear f h1;go_wp2_with (first|(go_at_call 127;with_reducible refine(z.o _).mono ?_;rintro e w' ⟨rfl,rfl⟩));go_round
   case rel=>exact⟨k+1,oq,by go_num,m.o⟩
   simp[intOf];omega
  | false =>
   rw[h1] at z;by_cases G:k=0
   .have m:=hid (show okL true s.data.toList=false by rw[f];unfold okB;rw[h1,Z1 G];simp);have R:((k:Int) == 0)=true:=by rw[beq_iff_eq];omega
    clear f h1 G;go_wp2_with (first|(go_at_call 127;with_reducible refine(z.o _).mono ?_;rintro e w' ⟨rfl,rfl⟩));go_ret;exact⟨YK (by rw[<-g.o,yg m.o]),bq⟩
   have R:((k:Int) == 0)=false:=by rw[ZZ];omega
   cases h2:yR s[k] with
   | true =>
    rw[h2] at F;have m:=hid (show okL true s.data.toList=okL (decide (k+1=0)) (s.data.toList.drop (k+1)) by rw[f];unfold okB;rw[h1,h2,Z0 G];simp);clear f h1 h2;go_wp2_with (first|(go_at_call 127;with_reducible refine(z.o _).mono ?_;rintro e w' ⟨rfl,rfl⟩)|(go_at_call 128;with_reducible refine(F.o _).mono ?_;rintro e w' ⟨rfl,rfl⟩));go_round
    case rel=>exact⟨k+1,oq,by go_num,m.o⟩
    simp[intOf];omega
   | false =>
    rw[h2] at F;by_cases J:(s[k].toNat:Int)=95
    .have j:((s[k].toNat:Int) == 95)=true:=by rw[beq_iff_eq];exact J
     have M:((s[k].toNat:Int) != 95)=false:=by rw[bne,j];rfl
     have m:=hid (show okL true s.data.toList=okL (decide (k+1=0)) (s.data.toList.drop (k+1)) by rw[f];unfold okB;rw[h1,h2,j,Z0 G];simp);clear f h1 h2 J;go_wp2_with (first|(go_at_call 127;with_reducible refine(z.o _).mono ?_;rintro e w' ⟨rfl,rfl⟩)|(go_at_call 128;with_reducible refine(F.o _).mono ?_;rintro e w' ⟨rfl,rfl⟩));go_round
     case rel=>exact⟨k+1,oq,by go_num,m.o⟩
     simp[intOf];omega
    have j:((s[k].toNat:Int) == 95)=false:=by rw[ZZ];exact J
    have M:((s[k].toNat:Int) != 95)=true:=by rw[bne,j];rfl
    have m:=hid (show okL true s.data.toList=false by rw[f];unfold okB;rw[h1,h2,j,Z0 G];simp);clear f h1 h2 J;go_wp2_with (first|(go_at_call 127;with_reducible refine(z.o _).mono ?_;rintro e w' ⟨rfl,rfl⟩)|(go_at_call 128;with_reducible refine(F.o _).mono ?_;rintro e w' ⟨rfl,rfl⟩));go_ret;exact⟨YK (by rw[<-g.o,yg m.o]),bq⟩
 have T:k=s.size:=oq;have x:okL true s.data.toList=true:=by
  rw[q.o,List.drop_eq_nil_of_le (by simp[T])];rfl
 have A:=hid (fun w=>ZdJ s w);have y:=hid x;clear q x;by_cases D:s.data.toList=[]
 .have H:s.toList=[]:=by rw[Lib.toList_data];exact D
  have O:(!s.toList.isEmpty)=false:=by rw[H];rfl
  have L:=hid D;clear D;go_wp2_with (first|(go_at_call 129;with_reducible refine(A.o _).mono ?_;rintro e V ⟨rfl,hb1⟩));go_ret;exact⟨YK (by rw[<-g.o];unfold XP;rw[L.o];simp),bq⟩
 have H:s.toList.isEmpty=false:=by rw[Lib.toList_data];simpa using D
 have O:¬s.toList=[]:=by rw[Lib.toList_data];exact D
 have I:s.data.toList.isEmpty=false:=by simpa using D
 have L:=hid I;clear D I;by_cases v:s.size<=100
 .have C:(s.size:Int)<=100:=oq;go_wp2_with (first|(go_at_call 129;with_reducible refine(A.o _).mono ?_;rintro e V ⟨rfl,hb1⟩));go_ret;exact⟨YK (by rw[<-g.o];unfold XP;rw[y.o,L.o,Z1 v];simp),bq⟩
 have C:(100:Int)<(s.size:Int):=oq;go_wp2_with (first|(go_at_call 129;with_reducible refine(A.o _).mono ?_;rintro e V ⟨rfl,hb1⟩));go_ret;exact⟨YK (by rw[<-g.o];unfold XP;rw[Z0 v];simp),bq⟩
theorem xr{k:IntKind}{a b:Int}(h:a=b):Ending.returned (.int k a)=.returned (.int k b):=by rw[h]
def inB(n lo hi:Int):Bool:=decide (lo<=n)&&decide (n<=hi)
theorem XQ(n lo hi:Int)(w:World):Calls prog 66 #[.int .i64 n,.int .i64 lo,.int .i64 hi] w fun e w'=>e=.returned (.bool (inB n lo hi))/\w=w':=by
 unfold inB;by_cases j:lo<=n
 .by_cases m:n<=hi
  .have E:=hid (show(decide (lo<=n)&&decide (n<=hi))=true by simp;omega);go_enter func66,ntmps66;go_wp2;go_ret;exact⟨YK (by rw[E.o]),rfl⟩
  have E:=hid (show(decide (lo<=n)&&decide (n<=hi))=false by simp;omega);have g:hi<n:=oq;have q:decide (n<=hi)=false:=by simpa using g
  clear m;go_enter func66,ntmps66;go_wp2;go_ret;exact⟨YK (by rw[E.o]),rfl⟩
 have E:=hid (show(decide (lo<=n)&&decide (n<=hi))=false by simp;omega);have f:n<lo:=oq;have q:decide (lo<=n)=false:=by simpa using f
 clear j;go_enter func66,ntmps66;go_wp2;go_ret;exact⟨YK (by rw[E.o]),rfl⟩
def szL:PL->Int->Int->Int
 | .nil,n,_=>n
 | .cons _ _ _ _ args _ tl,n,most=>if n<=most then szL tl (n+szL args 1 (most-n)) most else n
theorem ze:∀(l:PL)(n f:Int),1<=n->n<=f+1->n<=szL l n f/\szL l n f<=f+1:=by
 intro l
 induction l with
 | nil=>intro n f j g;exact⟨Int.le_refl _,g⟩
 | cons k nm n' d args a tl ih1 ih2 =>
  intro n f j g;rw[szL];split
  .rename_i h
   have m:=ih1 1 (f-n) oq oq;have q:=ih2 (n+szL args 1 (f-n)) f oq oq;omega
  omega
def ev(e:PE)(ad:OA)(cap:Nat):Value:=.agg #[.int .i64 e.k,.string e.nm,.int .i64 e.n,.int .i64 e.d,.slice ad e.args.len cap,.int .i64 e.a]
def UG(e:PE):Prop:=∀(w:World)(ad:OA)(cap:Nat)(most:Int),AE w e ad cap->0<=most->most<=1000 ->
 Calls prog 67 #[ev e ad cap,.int .i64 most] w fun x w'=>x=.returned (.int .i64 (szL e.args 1 most))/\Below w.1.size w w'
def Rest(wr:World)(ad:OA)(l rest:PL)(i:Nat):Prop :=
 i+rest.len=l.len/\rest.sz<=l.sz/\(rest=.nil\/∃b o,ad=some ⟨b,o,none⟩/\b<wr.1.size/\AC wr rest b (o+i*6))
theorem Rest.start{w:World}{f:OA}{l:PL}(h:AS w l f):Rest w f l l 0:=by
 refine⟨oq,Zc _,?_⟩;rcases h with h|⟨b,o,e,hb,h⟩
 .exact .inl h
 exact .inr ⟨b,o,e,hb,by simpa using h⟩
theorem Rest.below{w w':World}{g:OA}{l rest:PL}{i:Nat}(h:Rest w g l rest i)(hb:Below w.1.size w w'):Rest w' g l rest i:=by
 obtain⟨j,m,f⟩:=h;refine⟨j,m,?_⟩;rcases f with f|⟨b,o,e,hlt,f⟩
 .exact .inl f
 exact .inr ⟨b,o,e,Zd hlt hb.size,f.below hb _ _ _ hlt⟩
theorem Rest.tail{w:World}{g:OA}{l j args:PL}{k n d a:Int}{nm:ByteArray}{i:Nat}(h:Rest w g l (.cons k nm n d args a j) i):Rest w g l j (i+1):=by
 obtain⟨m,q,f⟩:=h;refine⟨by simp only[PL.len] at m;omega,by simp only[PL.sz] at q;omega,?_⟩;rcases f with f|⟨b,o,e,hlt,f⟩
 .cases f
 obtain⟨_,_,_,_,_,_,_,ht⟩:=f;exact .inr ⟨b,o,e,hlt,by rw[show o+(i+1)*6=o+i*6+6 by omega];exact ht⟩
def ZgU(w:World)(e:PE)(ad:OA)(cap:Nat)(most:Int)(v5 v6:Value)(wr:World):Prop :=
 ∃(i:Nat)(n:Int)(rest:PL),v6=.int .i64 (i:Int)/\v5=.int .i64 n/\Rest wr ad e.args rest i/\1<=n/\n<=most+1/\szL rest n most=szL e.args 1 most /\
  wr.1[w.1.size]?=some (.cells #[.int .i64 e.k,.string e.nm,.int .i64 e.n,.int .i64 e.d,.slice ad e.args.len cap,.int .i64 e.a] 111 (0,0))/\Below w.1.size w wr
theorem ZaW(e:PE)(ih:∀e':PE,e'.args.sz<e.args.sz->UG e'):UG e:=by
 intro w ad cap f x af ag;obtain⟨k,nm,n,d,args,a⟩:=e;have I:=x.len;simp only at I;have M:=hid x;have R:=hid ih;clear x ih;unfold ev;simp only;obtain⟨fin,q⟩:=ez (szL args 1 f);rw[q];have HF:=hid q;clear q;go_enter func67,ntmps67;go_wp2;go_loopw [5,6] (fun v5 v6 wr=>Hid (ZgU w ⟨k,nm,n,d,args,a⟩ ad cap f v5 v6 wr)) (fun _ i _=>args.len-(intOf i).toNat)
 case atStart=>exact⟨0,1,args,rfl,rfl,(Rest.start M.o.args).below bq,oq,oq,rfl,Yx w _,bq⟩
 obtain⟨i,c,rest,rfl,rfl,g,ab,ac,L,j,hbel⟩:=hrel.o;clear hrel;obtain⟨⟨x0,x1,x2,x3,x4,x5⟩,xf⟩:=Xl j;have C:=hid j;have HBEL:=hid hbel;have z:=g.1;simp only at z;have Z:=Zb j;have U:=hid g;have v:=hid L;clear j hbel g L
 cases rest with
 | nil =>
  have H:(i:Int)=(args.len:Int):=by simp only[PL.len] at z;omega
  go_wp2;go_ret;exact⟨xr (by rw[<-HF.o,<-v.o];rfl),HBEL.o⟩
 | cons k1 nm1 n1 d1 args1 a1 tl =>
  have H:(i:Int)<(args.len:Int):=by simp only[PL.len] at z;omega
  by_cases aa:c<=f
  .obtain⟨b,o,rfl,hb,h0,h1,h2,h3,h5,hn,⟨X,D,h4,y,F,G⟩,ht⟩:=U.o.2.2.resolve_left (by intro h;cases h);have J:=U.o.2.1;simp only[PL.sz] at J;have O:=hid (R.o ⟨k1,nm1,n1,d1,args1,a1⟩ (by show args1.sz<args.sz;omega) wr X D (f-c) ⟨hn,⟨y,F⟩,G⟩ oq oq);have Y:=ze args1 1 (f-c) oq oq;have A:=v.o;rw[szL,Z3 aa] at A;have V:=hid A;obtain⟨m2,m⟩:=ez (szL args1 1 (f-c));unfold ev at O;simp only[m] at O;rw[m] at Y;have T:=hid m;clear A m ht hn G;go_wp2_with (go_at_call 67;refine O.o.mono ?_;rintro e w2 ⟨rfl,hb2⟩);go_roundw
   case rel =>
    refine⟨i+1,c+m2,tl,by go_num,rfl,U.o.tail.below hb2,oq,oq,by rw[<-T.o];exact V.o,?_,bq⟩;exact(hb2.block _ Z).trans C.o
   simp[intOf];omega
  have E:f<c:=oq;have ae:decide (c<=f)=false:=by simpa using E
  go_wp2;go_ret;exact⟨xr (by rw[<-HF.o,<-v.o,szL,Z2 oq]),HBEL.o⟩
theorem jX(e:PE):UG e:=by
 suffices h:∀(N:Nat)(e:PE),e.args.sz<N->UG e from h _ e (ZX _)
 intro N
 induction N with
 | zero=>intro e h;omega
 | succ N ih=>intro e h;exact ZaW e (fun e' h'=>ih e' oq)
def dpR:PL->Nat->Int->Int
 | .nil,_,acc=>acc
 | .cons _ _ _ _ args _ tl,m,acc=>dpR tl m (max acc (match m with|0=>0|m+1=>dpR args m 0+1))
def dpE(e:PE)(most:Nat):Int:=match most with|0=>0|m+1=>dpR e.args m 0+1
theorem ZbT:∀(l:PL)(m:Nat)(f:Int),0<=f->f<=m->0<=dpR l m f/\dpR l m f<=m:=by
 intro l
 induction l with
 | nil=>intro m f g j;exact⟨g,j⟩
 | cons k nm n d args a tl ih1 ih2 =>
  intro m f g j
  match m with
  | 0 =>
   rw[dpR];exact ih2 0 _ oq oq
  | m+1 =>
   have q:=ih1 m 0 oq oq;rw[dpR];exact ih2 (m+1) _ oq oq
theorem vX(e:PE)(m:Nat):0<=dpE e m/\dpE e m<=m:=by
 match m with
 | 0=>simp[dpE]
 | m+1=>have:=ZbT e.args m 0 oq oq;simp only[dpE];omega
def Gw(e:PE):Prop:=∀(w:World)(ad:OA)(cap:Nat)(most:Nat),AE w e ad cap->most<=1000 ->
 Calls prog 68 #[ev e ad cap,.int .i64 (most:Int)] w fun x w'=>x=.returned (.int .i64 (dpE e most))/\Below w.1.size w w'
def ZgD(w:World)(e:PE)(ad:OA)(cap:Nat)(m:Nat)(v5 v6:Value)(wr:World):Prop :=
 ∃(i:Nat)(n:Int)(rest:PL),v6=.int .i64 (i:Int)/\v5=.int .i64 n/\Rest wr ad e.args rest i/\0<=n/\n<=m/\dpR rest m n=dpR e.args m 0 /\
  wr.1[w.1.size]?=some (.cells #[.int .i64 e.k,.string e.nm,.int .i64 e.n,.int .i64 e.d,.slice ad e.args.len cap,.int .i64 e.a] 111 (0,0))/\Below w.1.size w wr
theorem ZbR(e:PE)(ih:∀e':PE,e'.args.sz<e.args.sz->Gw e'):Gw e:=by
 intro w ad cap L v hm;obtain⟨k,nm,n,d,args,a⟩:=e;have G:=v.len;simp only at G;have M:=hid v;have R:=hid ih;clear v ih;unfold ev;simp only
 match L,hm with
 | 0,_ =>
  show Calls _ _ #[_,.int .i64 0] _ _;go_enter func68,ntmps68;go_wp2;go_ret;exact⟨rfl,bq⟩
 | m+1,hm =>
  obtain⟨fin,j⟩:=ez (dpR args m 0);have Z:=ZbT args m 0 oq oq;rw[j] at Z;have HG:=hid (show dpE ⟨k,nm,n,d,args,a⟩ (m+1)=fin+1 by rw[<-j];rfl);have HF:=hid j;have aa:(((m+1:Nat):Int) == 0)=false:=by rw[ZZ];omega
  have H:(((m+1:Nat):Int))=(m:Int)+1:=oq;rw[H] at aa;rw[H];clear j;go_enter func68,ntmps68;go_wp2;go_loopw [5,6] (fun v5 v6 wr=>Hid (ZgD w ⟨k,nm,n,d,args,a⟩ ad cap m v5 v6 wr)) (fun _ i _=>args.len-(intOf i).toNat)
  case atStart=>exact⟨0,0,args,rfl,rfl,(Rest.start M.o.args).below bq,oq,oq,rfl,Yx w _,bq⟩
  obtain⟨i,c,rest,rfl,rfl,f,ab,ac,J,g,hbel⟩:=hrel.o;clear hrel;obtain⟨⟨x0,x1,x2,x3,x4,x5⟩,xf⟩:=Xl g;have z:=hid g;have HBEL:=hid hbel;have y:=f.1;simp only at y;have Y:=Zb g;have T:=hid f;have A:=hid J;clear g hbel f J
  cases rest with
  | nil =>
   have F:(i:Int)=(args.len:Int):=by simp only[PL.len] at y;omega
   go_wp2;go_ret;exact⟨xr (by rw[HG.o,<-HF.o,<-A.o];rfl),HBEL.o⟩
  | cons k1 nm1 n1 d1 args1 a1 tl =>
   have F:(i:Int)<(args.len:Int):=by simp only[PL.len] at y;omega
   obtain⟨b,o,rfl,hb,h0,h1,h2,h3,h5,hn,⟨V,C,h4,x,D,E⟩,ht⟩:=T.o.2.2.resolve_left (by intro h;cases h);have I:=T.o.2.1;simp only[PL.sz] at I;have O:=hid (R.o ⟨k1,nm1,n1,d1,args1,a1⟩ (by show args1.sz<args.sz;omega) wr V C m ⟨hn,⟨x,D⟩,E⟩ oq);have X:=vX ⟨k1,nm1,n1,d1,args1,a1⟩ m;obtain⟨m2,q⟩:=ez (dpE ⟨k1,nm1,n1,d1,args1,a1⟩ m);unfold ev at O;simp only[q] at O;rw[q] at X;have U:=hid (show dpR tl m (max c m2)=dpR args m 0 from by rw[<-q];exact A.o);clear q ht hn E;go_wp2_with (go_at_call 68;refine O.o.mono ?_;rintro e w2 ⟨rfl,hb2⟩);go_roundw
   case rel =>
    refine⟨i+1,max c m2,tl,by go_num,(by first|rfl|(refine Z4 (Value.int IntKind.i64) ?_;split<;>omega)),T.o.tail.below hb2,oq,oq,U.o,?_,bq⟩;exact(hb2.block _ Y).trans z.o
   simp[intOf];omega
theorem gB(e:PE):Gw e:=by
 suffices h:∀(N:Nat)(e:PE),e.args.sz<N->Gw e from h _ e (ZX _)
 intro N
 induction N with
 | zero=>intro e h;omega
 | succ N ih=>intro e h;exact ZbR e (fun e' h'=>ih e' oq)
def zv:List ByteArray:=[⟨#[43]⟩,⟨#[45]⟩,⟨#[42]⟩,⟨#[47]⟩,⟨#[37]⟩,⟨#[60]⟩,⟨#[61,61]⟩]
def ZaR:ByteArray:=⟨#[63]⟩
theorem ZfH{s:ByteArray}(h:s≠ZaR):(s.toList == [63])=false:=by
 have:=Jh s ZaR;rw[Z0 h,Lib.toList_data ZaR] at this;exact this
def bdE(k n d:Int)(nm:ByteArray)(len:Nat):Bool :=
 if d≠0 then false
 else if k=11 then XP nm&&decide (len=0)&&decide (n=0)
 else if k=12 then decide (nm=⟨#[]⟩)&&decide (len=0)&&inB n 0 1000000000
 else if k≠13\/n≠0 then false
 else if nm=ZaR then decide (len=3)
 else if Lib.containsS zv nm=true then decide (len=2) else false
def bdR:PL->Bool
 | .nil=>true
 | .cons k nm n d args _ tl=>(bdR args&&bdE k n d nm args.len)&&bdR tl
def Ud(e:PE):Bool:=bdR e.args&&bdE e.k e.n e.d e.nm e.args.len
def UD(e:PE):Prop:=∀(w:World)(ad:OA)(cap:Nat),AE w e ad cap ->
 Calls prog 69 #[ev e ad cap] w fun x w'=>x=.returned (.bool (Ud e))/\Below w.1.size w w'
def Zgz(w:World)(e:PE)(ad:OA)(cap:Nat)(v3:Value)(wr:World):Prop :=
 ∃(i:Nat)(rest:PL),v3=.int .i64 (i:Int)/\Rest wr ad e.args rest i/\bdR rest=bdR e.args /\
  wr.1[w.1.size]?=some (.cells #[.int .i64 e.k,.string e.nm,.int .i64 e.n,.int .i64 e.d,.slice ad e.args.len cap,.int .i64 e.a] 111 (0,0))/\Below w.1.size w wr
theorem Zg8(w:World)(j:Nat)(m:j<7):(w.alloc (Obj.cells #[.string ⟨#[43]⟩,.string ⟨#[45]⟩,.string ⟨#[42]⟩,.string ⟨#[47]⟩,.string ⟨#[37]⟩,.string ⟨#[60]⟩,.string ⟨#[61,61]⟩] 9)).cell? ⟨w.1.size,j,none⟩=some (.string (zv.getD j ByteArray.empty)):=by
 have f:=Yx w (Obj.cells #[.string ⟨#[43]⟩,.string ⟨#[45]⟩,.string ⟨#[42]⟩,.string ⟨#[47]⟩,.string ⟨#[37]⟩,.string ⟨#[60]⟩,.string ⟨#[61,61]⟩] 9);have g:=fun o=>Z8 _ w.1.size o _ _ _ f
 rw[g]
 match j,m with
 | 0,_=>rfl
 | 1,_=>rfl
 | 2,_=>rfl
 | 3,_=>rfl
 | 4,_=>rfl
 | 5,_=>rfl
 | 6,_=>rfl
 | j+7,h=>omega
theorem ZeA{s:ByteArray}{k:Nat}(f:k<7)(h:zv.getD k ByteArray.empty=s):Lib.containsS zv s=true:=by
 refine(Lib.containsS_iff _ _).2 ?_;rw[<-h,Zf,Ze (show k<zv.length from f),Ya];exact Zi _
theorem Zf8{s:ByteArray}(h:∀j,j<7->zv.getD j ByteArray.empty≠s):Lib.containsS zv s=false:=by
 cases hb:Lib.containsS zv s with
 | false=>rfl
 | true =>
  obtain⟨j,f,g⟩:=Yn ((Lib.containsS_iff _ _).1 hb);refine(h j f ?_).elim;rw[Zf,Ze f,Ya];exact g
def ZgP(W:World)(nm:ByteArray)(v5:Value)(wr:World):Prop :=
 ∃j:Nat,j<=7/\v5=.int .i64 (j:Int)/\(∀i,i<j->zv.getD i ByteArray.empty≠nm)/\Below W.1.size W wr
theorem eZ(e:PE)(ih:∀e':PE,e'.args.sz<e.args.sz->UD e'):UD e:=by
 intro w ad cap M;obtain⟨k,F,n,d,args,a⟩:=e;have an:=M.len;have ao:=M.nums.2.2.2.2;simp only at an ao;have aq:=hid M;have ar:=hid ih;clear M ih;unfold ev;simp only;obtain⟨fin,J⟩:=ez (Ud ⟨k,F,n,d,args,a⟩);rw[J];have C:=hid (show(bdR args&&bdE k n d F args.len)=fin from J);clear J;go_enter func69,ntmps69;go_wp2;go_loopw [3] (fun v3 wr=>Hid (Zgz w ⟨k,F,n,d,args,a⟩ ad cap v3 wr)) (fun i _=>args.len-(intOf i).toNat)
 case atStart=>exact⟨0,args,rfl,(Rest.start aq.o.args).below bq,rfl,Yx w _,bq⟩
 obtain⟨i,rest,rfl,E,X,G,hbel⟩:=hrel.o;clear hrel;obtain⟨⟨x0,x1,x2,x3,x4,x5⟩,xf⟩:=Xl G;have af:=hid G;have HBEL:=hid hbel;have R:=E.1;simp only at R;have Z:=Zb G;have ba:=hbel.size;have HR:=hid E;clear G hbel E
 cases rest with
 | cons k1 nm1 n1 d1 args1 a1 tl =>
  have f:=hid X;clear X;have aj:(i:Int)<(args.len:Int):=by simp only[PL.len] at R;omega
  obtain⟨b,o,rfl,hb,h0,h1,h2,h3,h5,hn,⟨au,ah,h4,aa,ai,O⟩,ht⟩:=HR.o.2.2.resolve_left (by intro h;cases h);have ap:=HR.o.2.1;simp only[PL.sz] at ap;have HC:=hid (ar.o ⟨k1,nm1,n1,d1,args1,a1⟩ (by show args1.sz<args.sz;omega) wr au ah ⟨hn,⟨aa,ai⟩,O⟩);unfold ev at HC;simp only at HC
  cases hbb:Ud ⟨k1,nm1,n1,d1,args1,a1⟩ with
  | true =>
   rw[hbb] at HC;have Y:=hid (show bdR tl=bdR args from by
    have h:=f.o;rw[bdR,show(bdR args1&&bdE k1 n1 d1 nm1 args1.len)=true from hbb,Bool.true_and] at h;exact h)
   clear hbb ht hn O;go_wp2_with (go_at_call 69;refine HC.o.mono ?_;rintro e q ⟨rfl,hb2⟩);go_roundw
   case rel=>exact⟨i+1,tl,by go_num,HR.o.tail.below hb2,Y.o,(hb2.block _ Z).trans af.o,bq⟩
   simp[intOf];omega
  | false =>
   rw[hbb] at HC;have Y:=hid (show bdR args=false from by
    have h:=f.o;rw[bdR,show(bdR args1&&bdE k1 n1 d1 nm1 args1.len)=false from hbb,Bool.false_and] at h;exact h.symm)
   clear hbb ht hn O;go_wp2_with (go_at_call 69;refine HC.o.mono ?_;rintro e q ⟨rfl,hb2⟩);go_ret;exact⟨YK (by rw[<-C.o,Y.o];rfl),bq⟩
 | nil =>
  have aj:(i:Int)=(args.len:Int):=by simp only[PL.len] at R;omega
  have f:=hid (show true=bdR args from X);have g:=hid (fun w=>Qc F w ao);have m:=hid (fun w=>XQ n 0 1000000000 w);clear X R;by_cases hd:d=0
  .subst hd;by_cases T:k=11
   .subst T
    cases A:XP F with
    | false =>
     rw[A] at g;go_wp2_with (first|(go_at_call 65;refine(g.o _).mono ?_;rintro e q ⟨rfl,hb2⟩;obtain⟨v,y⟩:=YE hb2)|(go_at_call 66;refine(m.o _).mono ?_;rintro e q ⟨rfl,rfl⟩))
     all_goals (go_ret;exact⟨YK (by rw[<-C.o,<-f.o];simp[bdE,A]),bq⟩)
    | true =>
     rw[A] at g;by_cases z:args.len=0
     .have L:((args.len:Int) == 0)=true:=by rw[beq_iff_eq];omega
      have H:=hid z;clear z;by_cases D:n=0
      .subst D;go_wp2_with (first|(go_at_call 65;refine(g.o _).mono ?_;rintro e q ⟨rfl,hb2⟩;obtain⟨v,y⟩:=YE hb2)|(go_at_call 66;refine(m.o _).mono ?_;rintro e q ⟨rfl,rfl⟩))
       all_goals (go_ret;exact⟨YK (by rw[<-C.o,<-f.o];simp[bdE,A,H.o]),bq⟩)
      have av:(n == 0)=false:=ZZ.2 D;go_wp2_with (first|(go_at_call 65;refine(g.o _).mono ?_;rintro e q ⟨rfl,hb2⟩;obtain⟨v,y⟩:=YE hb2)|(go_at_call 66;refine(m.o _).mono ?_;rintro e q ⟨rfl,rfl⟩))
      all_goals (go_ret;exact⟨YK (by rw[<-C.o,<-f.o];simp[bdE,A,D]),bq⟩)
     have L:((args.len:Int) == 0)=false:=by rw[ZZ];omega
     have H:=hid z;clear z;go_wp2_with (first|(go_at_call 65;refine(g.o _).mono ?_;rintro e q ⟨rfl,hb2⟩;obtain⟨v,y⟩:=YE hb2)|(go_at_call 66;refine(m.o _).mono ?_;rintro e q ⟨rfl,rfl⟩))
     all_goals (go_ret;exact⟨YK (by rw[<-C.o,<-f.o];simp[bdE,A,H.o]),bq⟩)
   have al:(k == 11)=false:=ZZ.2 T;by_cases U:k=12
   .subst U;by_cases I:F=⟨#[]⟩
    .subst I;by_cases z:args.len=0
     .have L:((args.len:Int) == 0)=true:=by rw[beq_iff_eq];omega
      have H:=hid z;clear z;go_wp2_with (first|(go_at_call 65;refine(g.o _).mono ?_;rintro e q ⟨rfl,hb2⟩;obtain⟨v,y⟩:=YE hb2)|(go_at_call 66;refine(m.o _).mono ?_;rintro e q ⟨rfl,rfl⟩))
      all_goals (go_ret;exact⟨YK (by rw[<-C.o,<-f.o];simp[bdE,H.o]),bq⟩)
     have L:((args.len:Int) == 0)=false:=by rw[ZZ];omega
     have H:=hid z;clear z;go_wp2_with (first|(go_at_call 65;refine(g.o _).mono ?_;rintro e q ⟨rfl,hb2⟩;obtain⟨v,y⟩:=YE hb2)|(go_at_call 66;refine(m.o _).mono ?_;rintro e q ⟨rfl,rfl⟩))
     all_goals (go_ret;exact⟨YK (by rw[<-C.o,<-f.o];simp[bdE,H.o]),bq⟩)
    have ab:F.data.toList≠[]:=by
     intro h;apply I;obtain⟨⟨l⟩⟩:=F;simp at h;subst h;rfl
    have ay:F.toList.isEmpty=false:=by rw[Lib.toList_data];simpa using ab
    have az:¬F.toList=[]:=by rw[Lib.toList_data];exact ab
    have HE:=hid I;clear I ab;go_wp2_with (first|(go_at_call 65;refine(g.o _).mono ?_;rintro e q ⟨rfl,hb2⟩;obtain⟨v,y⟩:=YE hb2)|(go_at_call 66;refine(m.o _).mono ?_;rintro e q ⟨rfl,rfl⟩))
    all_goals (go_ret;exact⟨YK (by rw[<-C.o,<-f.o];simp[bdE,HE.o]),bq⟩)
   have am:(k == 12)=false:=ZZ.2 U;by_cases ac:k=13
   .subst ac;clear T U al am;by_cases D:n=0
    .subst D;by_cases hq:F=ZaR
     .subst hq;have aw:(ZaR.toList == [63])=true:=by rw[Lib.toList_data];rfl
      by_cases V:args.len=3
      .have L:((args.len:Int) == 3)=true:=by rw[beq_iff_eq];omega
       have H:=hid V;clear V;go_wp2_with (first|(go_at_call 65;refine(g.o _).mono ?_;rintro e q ⟨rfl,hb2⟩;obtain⟨v,y⟩:=YE hb2)|(go_at_call 66;refine(m.o _).mono ?_;rintro e q ⟨rfl,rfl⟩))
       all_goals (go_ret;exact⟨YK (by rw[<-C.o,<-f.o];simp[bdE,H.o]),bq⟩)
      have L:((args.len:Int) == 3)=false:=by rw[ZZ];omega
      have H:=hid V;clear V;go_wp2_with (first|(go_at_call 65;refine(g.o _).mono ?_;rintro e q ⟨rfl,hb2⟩;obtain⟨v,y⟩:=YE hb2)|(go_at_call 66;refine(m.o _).mono ?_;rintro e q ⟨rfl,rfl⟩))
      all_goals (go_ret;exact⟨YK (by rw[<-C.o,<-f.o];simp[bdE,H.o]),bq⟩)
     have aw:(F.toList == [63])=false:=ZfH hq;have HQ:=hid hq;clear hq;obtain⟨wo,rfl⟩:=ey wr;go_wp2;go_loopw [5] (fun v5 wr2=>Hid (ZgP (wo.alloc (Obj.cells #[.string ⟨#[43]⟩,.string ⟨#[45]⟩,.string ⟨#[42]⟩,.string ⟨#[47]⟩,.string ⟨#[37]⟩,.string ⟨#[60]⟩,.string ⟨#[61,61]⟩] 9)) F v5 wr2)) (fun i _=>7-(intOf i).toNat)
     case atStart=>exact⟨0,oq,rfl,fun j hj=>oq,bq⟩
     obtain⟨j,hj,rfl,A,hb3⟩:=hrel.o;clear hrel;have ag:=hid A;have HB3:=hid hb3;have l3:wo.1.size+1<=wr.1.size:=by have:=hb3.size;simpa using this
     clear A;by_cases ak:j<7
     .have ae:=Zg8 wo j ak;obtain⟨x,hx⟩:=ez (zv.getD j ByteArray.empty);rw[hx] at ae;have c0:=(hb3.cell (p:=⟨wo.1.size,j,none⟩) (by simp)).trans ae;have c1:=(hb3.cell (p:=⟨w.1.size,1,none⟩) (by simp;omega)).trans ((Zn (w:=wo) (a:=⟨w.1.size,1,none⟩) (Z6 _ _ Z)).trans x1);have c4:=(hb3.cell (p:=⟨w.1.size,4,none⟩) (by simp;omega)).trans ((Zn (w:=wo) (a:=⟨w.1.size,4,none⟩) (Z6 _ _ Z)).trans x4);have hb:=Jh x F;have HX:=hid hx;clear hx ae hb3;by_cases I:x=F
      .rw[Z1 I] at hb;have HE:=hid I;clear I;go_wp2;go_region;go_wp2;go_ret;have hbel:=HBEL.o;have hb3:=HB3.o;have e1:((args.len:Int) == 2)=decide (args.len=2):=by rw[Bool.eq_iff_iff];simp;omega
       exact⟨YK (by rw[<-C.o,<-f.o];refine Eq.trans e1 ?_;simp[bdE,HQ.o,ZeA ak (HX.o.trans HE.o)]),bq⟩
      rw[Z0 I] at hb;have HE:=hid I;clear I;go_wp2;go_region;go_wp2;refine⟨?_,by simp[intOf];omega⟩;exact⟨j+1,oq,by go_num,fun i hi=>by by_cases h:i<j;(· exact ag.o i h);(· obtain rfl:i=j:=oq;rw[HX.o];exact HE.o),bq⟩
     clear hb3;go_wp2;go_ret;have hbel:=HBEL.o;have hb3:=HB3.o;exact⟨YK (by rw[<-C.o,<-f.o];simp[bdE,HQ.o,Zf8 (fun j' h=>ag.o j' oq)]),bq⟩
    have av:(n == 0)=false:=ZZ.2 D;go_wp2_with (first|(go_at_call 65;refine(g.o _).mono ?_;rintro e q ⟨rfl,hb2⟩;obtain⟨v,y⟩:=YE hb2)|(go_at_call 66;refine(m.o _).mono ?_;rintro e q ⟨rfl,rfl⟩))
    all_goals (go_ret;exact⟨YK (by rw[<-C.o,<-f.o];simp[bdE,D]),bq⟩)
   have ax:(k == 13)=false:=ZZ.2 ac;go_wp2_with (first|(go_at_call 65;refine(g.o _).mono ?_;rintro e q ⟨rfl,hb2⟩;obtain⟨v,y⟩:=YE hb2)|(go_at_call 66;refine(m.o _).mono ?_;rintro e q ⟨rfl,rfl⟩))
   all_goals (go_ret;exact⟨YK (by rw[<-C.o,<-f.o];simp[bdE,T,U,ac]),bq⟩)
  have O:(d == 0)=false:=ZZ.2 hd;go_wp2_with (first|(go_at_call 65;refine(g.o _).mono ?_;rintro e q ⟨rfl,hb2⟩;obtain⟨v,y⟩:=YE hb2)|(go_at_call 66;refine(m.o _).mono ?_;rintro e q ⟨rfl,rfl⟩))
  all_goals (go_ret;exact⟨YK (by rw[<-C.o,<-f.o];simp[bdE,hd]),bq⟩)
theorem ZbI(e:PE):UD e:=by
 suffices h:∀(N:Nat)(e:PE),e.args.sz<N->UD e from h _ e (ZX _)
 intro N
 induction N with
 | zero=>intro e h;omega
 | succ N ih=>intro e h;exact eZ e (fun e' h'=>ih e' oq)
