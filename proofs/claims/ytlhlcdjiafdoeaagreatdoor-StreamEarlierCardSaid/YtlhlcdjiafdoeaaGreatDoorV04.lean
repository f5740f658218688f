/- Parts of the proof. -/
import Derived.Test.YtlhlcdjiafdoeaaGreatDoorV03
set_option linter.all false
set_option maxRecDepth 100000
set_option maxHeartbeats 16000000
namespace Go.Proofs.YtlhlcdjiafdoeaaGreatDoor.syn
open Go.RowKit
def YJ (w:World) (mb:Nat) (L:List (ByteArray × Value)):Prop :=
 ∃arr clock,w.heap[mb]?=some (.map arr clock)∧arr.toList.map (fun e=>(e.key,e.val))=L.map (fun p=>(Value.string p.1,p.2))
def Ji (k:ByteArray):List (ByteArray × Value)→Nat→Option (Nat × Value)
 | [],_=>none
 | p::L,i=>if k=p.1 then some (i,p.2) else Ji k L (i+1)
def YT (k:ByteArray):List (ByteArray × Value)→Option Value
 | []=>none
 | p::L=>if k=p.1 then some p.2 else YT k L
def QZ (k:ByteArray) (v:Value):List (ByteArray × Value)→List (ByteArray × Value)
 | []=>[(k,v)]
 | p::L=>if k=p.1 then (k,v)::L else p::QZ k v L
theorem Za3 (a b:ByteArray):(a == b)=decide (a=b):=by
 obtain⟨x⟩:=a
 obtain⟨y⟩:=b
 have h1:((⟨x⟩:ByteArray) == ⟨y⟩)=(x == y):=rfl
 rw[h1]
 by_cases h:x=y
 ·subst h;simp
 have h2:¬((⟨x⟩:ByteArray)=⟨y⟩):=by intro e;injection e with e;exact h e
 rw[ZX h2];simpa using h
theorem ZaG (a:ByteArray):(a == a)=true:=by rw[Za3];simp
theorem GV (k:ByteArray):∀(es:List MapEntry) (L:List (ByteArray × Value)) (i:Nat),es.map (fun e=>(e.key,e.val))=L.map (fun p=>(Value.string p.1,p.2)) →
  Instr.findNow .string (.string k) es i=some (Ji k L i):=by
 intro es
 induction es with
 | nil=>intro L i h;cases L with
  | nil=>rfl
  | cons p L=>simp at h
 | cons e es ih =>
  intro L i h
  cases L with
  | nil=>simp at h
  | cons p L =>
   simp only[List.map_cons,List.cons.injEq,Z2] at h
   obtain⟨⟨h1,h2⟩,h3⟩:=h
   unfold Instr.findNow
   rw[h1]
   simp only[Instr.sameNow,Za3,Ji]
   by_cases hk:k=p.1
   ·simp[hk,h2]
   simp[hk,ih L (i+1) h3]
theorem vt (k:ByteArray):∀(L:List (ByteArray × Value)) (i:Nat),(Ji k L i).map (·.2)=YT k L:=by
 intro L
 induction L with
 | nil=>intro i;rfl
 | cons p L ih =>
  intro i
  unfold Ji YT
  by_cases h:k=p.1
  ·rw[Z0 h,Z0 h];rfl
  rw[ZZ h,ZZ h];exact ih (i+1)
theorem qk (k:ByteArray) (v:Value):∀(L:List (ByteArray × Value)) (j:Nat),Ji k L j=none→QZ k v L=L++[(k,v)]:=by
 intro L
 induction L with
 | nil=>intro j _;rfl
 | cons p L ih =>
  intro j h
  unfold Ji at h
  by_cases hk:k=p.1
  ·rw[Z0 hk] at h;cases h
  rw[ZZ hk] at h
  unfold QZ
  rw[ZZ hk,ih (j+1) h];rfl
theorem ql (k:ByteArray) (v:Value):∀(L:List (ByteArray × Value)) (j i:Nat) (u:Value),Ji k L j=some (i,u)→∃n,i=j+n∧∃x,L[n]?=some (k,x)∧QZ k v L=L.modify n (fun _=>(k,v)):=by
 intro L
 induction L with
 | nil=>intro j i u h;cases h
 | cons p L ih =>
  intro j i u h
  unfold Ji at h
  by_cases hk:k=p.1
  ·rw[Z0 hk] at h
   obtain⟨rfl,_⟩:j=i∧_:=by simpa using h
   refine⟨0,rfl,p.2,?_,?_⟩
   ·rw[hk];rfl
   unfold QZ;rw[Z0 hk];rfl
  rw[ZZ hk] at h
  obtain⟨n,rfl,x,h1,h2⟩:=ih (j+1) i u h
  refine⟨n+1,oq,x,by simpa using h1,?_⟩
  unfold QZ;rw[ZZ hk,h2];rfl
structure Xs (T K E:TypeId) (z:Value):Prop where
 map:Tryz.prog.underlying T=some (.map K E)
 key:Tryz.prog.underlying K=some .string
 zero:∀w,(zeroValue E).run Tryz.prog w=.ok z w
 check:∀(b:Bool) (s:ByteArray) (w:World),(Instr.checkKey b 10000 K (.string s)).run Tryz.prog w=.ok () w
theorem Xr {T K E:TypeId} {z:Value} (M:Xs T K E z) {w:World} {mb:Nat} {L:List (ByteArray × Value)} (h:YJ w mb L) (k:ByteArray) (c:Bool) :
  (Instr.lookup T (.map (some mb)) (.string k) c).run Tryz.prog w=.ok (if c then .tuple #[(YT k L).getD z,.bool (YT k L).isSome] else (YT k L).getD z) w:=by
 obtain⟨arr,clock,hh,he⟩:=h
 have hu:(underlying T).run Tryz.prog w=.ok (.map K E) w:=by rw[run_underlying M.map]
 have hk:(underlying K).run Tryz.prog w=.ok .string w:=by rw[run_underlying M.key]
 have hg:(getObj mb).run Tryz.prog w=.ok (.map arr clock) w:=run_getObj_map (w:=w) mb arr clock hh
 have hc:=M.check arr.isEmpty k w
 have hfin:=vt k L 0
 have hfk:(Instr.findKey K (.string k) arr.toList).run Tryz.prog w=.ok (Ji k L 0) w:=by
  unfold Instr.findKey
  simp only[Sem.run_bind,hk,ZO]
  rw[GV k arr.toList L 0 he];rfl
 simp only[Instr.lookup,Sem.run_bind,hu,ZO,hg,Sem.run_pure]
 rw[hc]
 simp only[ZO]
 rw[hfk]
 simp only[ZO]
 rw[←hfin]
 cases hr:Ji k L 0 with
 | none=>simp only[Sem.run_bind,M.zero,ZO,Sem.run_pure];cases c<;>rfl
 | some p=>obtain⟨i,v⟩:=p;simp only[Sem.run_bind,ZO,Sem.run_pure];cases c<;>rfl
def World.putM (w:World) (mb:Nat) (o:Obj):World:={ w with heap:=w.heap.setIfInBounds mb o }
theorem qM (k:ByteArray):Instr.sameBits 10000 (.string k) (.string k)=true:=by
 show Instr.sameBits (9999+1) _ _=true
 simp[Instr.sameBits,ZaG]
theorem V8 {T K E:TypeId} {z:Value} (M:Xs T K E z) {w:World} {mb:Nat} {L:List (ByteArray × Value)} (h:YJ w mb L) (k:ByteArray) (v:Value) :
  ∃arr clock,(Instr.mapUpdate T (.map (some mb)) (.string k) v).run Tryz.prog w=.ok () (World.putM w mb (.map arr clock))∧YJ (World.putM w mb (.map arr clock)) mb (QZ k v L):=by
 obtain⟨arr,clock,hh,he⟩:=h
 have hu:(underlying T).run Tryz.prog w=.ok (.map K E) w:=by rw[run_underlying M.map]
 have hk:(underlying K).run Tryz.prog w=.ok .string w:=by rw[run_underlying M.key]
 have hg:(getObj mb).run Tryz.prog w=.ok (.map arr clock) w:=run_getObj_map (w:=w) mb arr clock hh
 have hc:=M.check false k w
 have hfk:(Instr.findKey K (.string k) arr.toList).run Tryz.prog w=.ok (Ji k L 0) w:=by
  unfold Instr.findKey
  simp only[Sem.run_bind,hk,ZO]
  rw[GV k arr.toList L 0 he];rfl
 have hlt:=Zb hh
 have hnew:∀o,(World.putM w mb o).heap[mb]?=some o:=by
  intro o
  show(w.heap.setIfInBounds mb o)[mb]?=some o
  rw[Array.getElem?_setIfInBounds_self_of_lt hlt]
 cases hr:Ji k L 0 with
 | none =>
  refine⟨arr.push { key:=.string k,val:=v,born:=clock },clock+1,?_,⟨_,_,hnew _,?_⟩⟩
  ·simp only[Instr.mapUpdate,Sem.run_bind,hu,ZO,hg]
   rw[hc]
   simp only[ZO]
   rw[hfk,hr]
   simp only[ZO]
   exact Go.MapKept.run_setObj_map _ hh
  rw[qk k v L 0 hr]
  simp[he]
 | some q =>
  obtain⟨i,u⟩:=q
  obtain⟨n,hn,x,h1,h2⟩:=ql k v L 0 i u hr
  obtain rfl:i=n:=oq
  have hkey:((arr[i]?).map (·.key)).getD (.string k)=.string k:=by
   have:=Z1 (fun l=>l[i]?) he
   simp only[List.getElem?_map,h1,Option.map_some] at this
   cases ha:arr[i]? with
   | none=>rfl
   | some e=>simp[ha] at this ⊢;exact this.1
  have hst:(Instr.keyThatStays (.string k) (.string k)).run Tryz.prog w=.ok (.string k) w:=by
   unfold Instr.keyThatStays;rw[qM];rfl
  refine⟨arr.modify i fun e=>{ e with key:=.string k,val:=v },clock,?_,⟨_,_,hnew _,?_⟩⟩
  ·simp only[Instr.mapUpdate,Sem.run_bind,hu,ZO,hg]
   rw[hc]
   simp only[ZO]
   rw[hfk,hr]
   simp only[ZO,Sem.run_bind,hkey]
   rw[hst]
   simp only[ZO]
   exact Go.MapKept.run_setObj_map _ hh
  rw[h2,Array.toList_modify]
  apply List.ext_getElem?
  intro j
  have hj:=Z1 (fun l=>l[j]?) he
  simp only[List.getElem?_map,List.getElem?_modify] at hj ⊢
  by_cases hij:i=j
  ·subst hij
   rw[h1] at hj ⊢
   cases ha:arr.toList[i]? with
   | none=>rw[ha] at hj;simp at hj
   | some e=>simp
  simp only[hij,if_false]
  cases ha:arr.toList[j]?<;>cases hb:L[j]?<;>rw[ha,hb] at hj<;>simp at hj ⊢
  exact hj
theorem YJ.below {w w':World} {mb:Nat} {L:List (ByteArray × Value)} (h:YJ w mb L) (hb:Below w.heap.size w w'):YJ w' mb L:=by
 obtain⟨arr,clock,h1,h2⟩:=h
 exact⟨arr,clock,(hb.block mb (Zb h1)).trans h1,h2⟩
theorem YJ.lt {w:World} {mb:Nat} {L:List (ByteArray × Value)} (h:YJ w mb L):mb<w.heap.size:=by
 obtain⟨arr,clock,h1,h2⟩:=h
 exact Zb h1
theorem YJ.new (w:World):YJ (w.alloc (.map #[] 0)) w.heap.size []:=⟨#[],0,Yt w _,rfl⟩
theorem XX {B:Nat} {a w:World} (h:Below B a w) {mb:Nat} (hm:B≤mb) (o:Obj):Below B a (World.putM w mb o):=by
 refine h.trans ⟨rfl,rfl,rfl,by simp[World.putM],fun k hk=>?_⟩
 show(w.heap.setIfInBounds mb o)[k]?=_
 rw[Array.getElem?_setIfInBounds_ne oq]
theorem YI {a w:World} {mb:Nat} (h:Upon mb a w) (o:Obj):Upon mb a (World.putM w mb o):=by
 refine h.trans ⟨rfl,rfl,rfl,by simp[World.putM],fun k hk hne=>?_⟩
 show(w.heap.setIfInBounds mb o)[k]?=_
 rw[Array.getElem?_setIfInBounds_ne oq]
theorem QN {T K E:TypeId} {z:Value} (M:Xs T K E z) (w:World) {ops:Array Oper} {rest:List Oper} {o:Oper} {a:Act} {Q:Exit→Act→World→Prop}
  (hg:o.guard=none) (m x:Operand) (c:Bool) (hop:o.op=Op.lookup T m x c) (mb:Nat) (L:List (ByteArray × Value)) (k:ByteArray)
  (hm:a.eval m=.map (some mb)) (hx:a.eval x=.string k) (h:YJ w mb L)
  (hK:wpList Tryz.prog ops Q rest (a.put o.dst (if c then .tuple #[(YT k L).getD z,.bool (YT k L).isSome] else (YT k L).getD z)) w) :
  wpList Tryz.prog ops Q (o::rest) a w:=by
 refine wpList_plain hg fun K' hK'=>?_
 have hrun:=Xr M h k c
 have e:(execOp a.eval o).run Tryz.prog w=.ok (.value (if c then .tuple #[(YT k L).getD z,.bool (YT k L).isSome] else (YT k L).getD z)) w:=by
  simp[execOp,hop,hm,hx,hrun]
 unfold Oper.wp
 rw[e]
 exact hK' _ _ hK
theorem Qi {T K E:TypeId} {z:Value} (M:Xs T K E z) (w:World) {ops:Array Oper} {rest:List Oper} {o:Oper} {a:Act} {Q:Exit→Act→World→Prop}
  (hg:o.guard=none) (m x:Operand) (hop:o.op=Op.lookup T m x false) (mb:Nat) (L:List (ByteArray × Value)) (k:ByteArray) (v:Value)
  (hm:a.eval m=.map (some mb)) (hx:a.eval x=.string k) (h:YJ w mb L) (hs:(YT k L).getD z=v)
  (hK:wpList Tryz.prog ops Q rest (a.put o.dst v) w) :
  wpList Tryz.prog ops Q (o::rest) a w :=
 QN M w hg m x false hop mb L k hm hx h (by simpa only [hs,if_false,Bool.false_eq_true] using hK)
theorem Xe {T K E:TypeId} {z:Value} (M:Xs T K E z) (w:World) {ops:Array Oper} {rest:List Oper} {o:Oper} {a:Act} {Q:Exit→Act→World→Prop}
  (hg:o.guard=none) (m x v:Operand) (hop:o.op=Op.mapUpdate T m x v) (mb:Nat) (L:List (ByteArray × Value)) (k:ByteArray) (u:Value)
  (hm:a.eval m=.map (some mb)) (hx:a.eval x=.string k) (hv:a.eval v=u) (h:YJ w mb L)
  (hK:∀arr clock,YJ (World.putM w mb (.map arr clock)) mb (QZ k u L)→wpList Tryz.prog ops Q rest (a.put o.dst undef) (World.putM w mb (.map arr clock))) :
  wpList Tryz.prog ops Q (o::rest) a w:=by
 refine wpList_plain hg fun K' hK'=>?_
 obtain⟨arr,clock,hrun,h1⟩:=V8 M h k u
 unfold Oper.wp
 simp[execOp,hop,hm,hx,hv,hrun,Result.andThen]
 exact hK' _ _ (hK arr clock h1)
theorem Xy {T K E:TypeId} {z:Value} (M:Xs T K E z) (w:World) {ops:Array Oper} {rest:List Oper} {o:Oper} {a:Act} {Q:Exit→Act→World→Prop}
  (hg:o.guard=none) (m x:Operand) (hop:o.op=Op.lookup T m x true) (mb:Nat) (L:List (ByteArray × Value)) (k:ByteArray) (v:Value)
  (hm:a.eval m=.map (some mb)) (hx:a.eval x=.string k) (h:YJ w mb L) (hs:YT k L=some v)
  (hK:wpList Tryz.prog ops Q rest (a.put o.dst (.tuple #[v,.bool true])) w) :
  wpList Tryz.prog ops Q (o::rest) a w :=
 QN M w hg m x true hop mb L k hm hx h (by simpa only [hs,Option.getD,Option.isSome,if_true,if_false,Bool.false_eq_true] using hK)
theorem Y4 {T K E:TypeId} {z:Value} (M:Xs T K E z) (w:World) {ops:Array Oper} {rest:List Oper} {o:Oper} {a:Act} {Q:Exit→Act→World→Prop}
  (hg:o.guard=none) (m x:Operand) (hop:o.op=Op.lookup T m x true) (mb:Nat) (L:List (ByteArray × Value)) (k:ByteArray)
  (hm:a.eval m=.map (some mb)) (hx:a.eval x=.string k) (h:YJ w mb L) (hs:YT k L=none)
  (hK:wpList Tryz.prog ops Q rest (a.put o.dst (.tuple #[z,.bool false])) w) :
  wpList Tryz.prog ops Q (o::rest) a w :=
 QN M w hg m x true hop mb L k hm hx h (by simpa only [hs,Option.getD,Option.isSome,if_true,if_false,Bool.false_eq_true] using hK)
theorem Ul {T K E:TypeId} {z:Value} (M:Xs T K E z) (w:World) {ops:Array Oper} {rest:List Oper} {o:Oper} {a:Act} {Q:Exit→Act→World→Prop}
  (hg:o.guard=none) (m x:Operand) (hop:o.op=Op.lookup T m x false) (mb:Nat) (L:List (ByteArray × Value)) (k:ByteArray) (v:Value)
  (hm:a.eval m=.map (some mb)) (hx:a.eval x=.string k) (h:YJ w mb L) (hs:YT k L=some v)
  (hK:wpList Tryz.prog ops Q rest (a.put o.dst (v)) w) :
  wpList Tryz.prog ops Q (o::rest) a w :=
 QN M w hg m x false hop mb L k hm hx h (by simpa only [hs,Option.getD,Option.isSome,if_true,if_false,Bool.false_eq_true] using hK)
theorem Xc:Xs 111 9 50 (.agg #[.int .i64 0,.int .i64 0]):=⟨by kernel_rfl,by kernel_rfl,fun w=>by kernel_rfl,fun b s w=>by cases b<;>kernel_rfl⟩
theorem XU:Xs 257 9 3 (.int .i64 0):=⟨by kernel_rfl,by kernel_rfl,fun w=>by kernel_rfl,fun b s w=>by cases b<;>kernel_rfl⟩
theorem E4:Xs 159 9 3 (.int .i64 0):=⟨by kernel_rfl,by kernel_rfl,fun w=>by kernel_rfl,fun b s w=>by cases b<;>kernel_rfl⟩
def XM (w:World) (v:Value):Prop:=∃b o cs t fr,v=.pointer (some ⟨b,o,none⟩)∧w.heap[b]?=some (.cells cs t fr)∧w.frozen? ⟨b,o,none⟩=false
theorem XM.keep {w w':World} {v:Value} (h:XM w v) (hk:∀(b:Nat) (cs:Array Value) (t:TypeId) (fr:Nat × Nat),w.heap[b]?=some (Obj.cells cs t fr)→∃cs',w'.heap[b]?=some (Obj.cells cs' t fr)):XM w' v:=by
 obtain⟨b,o,cs,t,fr,rfl,h1,h2⟩:=h
 obtain⟨cs',h3⟩:=hk b cs t fr h1
 refine⟨b,o,cs',t,fr,rfl,h3,?_⟩
 obtain⟨lo,hi⟩:=fr
 simp[World.frozen?,h1] at h2
 simp[World.frozen?,h3]
 exact h2
theorem EP (w:World):w.drewN 0=w:=rfl
theorem gC {P:Program} {w:World} {x y:Addr} (hx:XM w (.pointer (some x))) (hy:XM w (.pointer (some y))):∃r n,(sameAddr x y).run P w=.ok r (w.drewN n):=by
 obtain⟨b1,o1,c1,t1,f1,e1,h1,z1⟩:=hx
 obtain⟨b2,o2,c2,t2,f2,e2,h2,z2⟩:=hy
 injection e1 with e1;injection e1 with e1;subst e1
 injection e2 with e2;injection e2 with e2;subst e2
 by_cases hb:b1=b2
 ·subst hb
  exact⟨_,0,by rw[EP];simp[sameAddr];rfl⟩
 have hb':(b1 == b2)=false:=by simpa using hb
 have s1:w.shape? b1=some (t1,c1.size):=by simp[World.shape?,h1]
 have s2:w.shape? b2=some (t2,c2.size):=by simp[World.shape?,h2]
 simp only[sameAddr,hb',Bool.false_eq_true,if_false,Sem.run_bind,run_frozen,ZO,z1,z2,Bool.false_and,noView,viewAt,run_shape,s1,s2,Option.isSome,if_true,Sem.run_pure,Sem.run_pure,mayBeOne,stringish]
 generalize (_||_||_:Bool)=q
 cases q with
 | false=>exact⟨false,0,by rw[EP];simp⟩
 | true =>
  simp only[if_true,Sem.run_bind,run_choose_drew]
  split
  ·exact⟨_,0,by rw[EP];simp;rfl⟩
  exact⟨_,1,by simp;exact⟨rfl,rfl⟩⟩
structure XR (T K E X:TypeId) (z:Value):Prop where
 map:Tryz.prog.underlying T=some (.map K E)
 key:Tryz.prog.underlying K=some (.pointer X)
 size:∀w,∃n,(sizeOf X).run Tryz.prog w=.ok (n+1) w
 zero:∀w,(zeroValue E).run Tryz.prog w=.ok z w
 check:∀(b:Bool) (s:Option Addr) (w:World),(Instr.checkKey b 10000 K (.pointer s)).run Tryz.prog w=.ok () w
theorem Zbm {T K E X:TypeId} {z:Value} (M:XR T K E X z) {w:World} {u v:Value} (hu:XM w u) (hv:XM w v):∃r n,(Op.equal K u v).run Tryz.prog w=.ok r (w.drewN n):=by
 have hu':=hu
 have hv':=hv
 obtain⟨b1,o1,c1,t1,f1,rfl,h1,z1⟩:=hu'
 obtain⟨b2,o2,c2,t2,f2,rfl,h2,z2⟩:=hv'
 obtain⟨r,n,h⟩:=gC (P:=Tryz.prog) hu hv
 obtain⟨m,hz⟩:=M.size w
 refine⟨r,n,?_⟩
 obtain⟨d,hd⟩:∃d,Op.maxDepth=d+1:=⟨9999,rfl⟩
 unfold Op.equal
 rw[hd]
 simp[Op.equalIn,run_underlying M.key,hz,h]
theorem drewN_drewN (w:World) (a b:Nat):(w.drewN a).drewN b=w.drewN (a+b):=by simp[World.drewN,Nat.add_assoc]
theorem XM.drewN {w:World} {v:Value} (h:XM w v) (n:Nat):XM (w.drewN n) v:=h.keep fun b cs t fr hb=>⟨cs,hb⟩
theorem eJ {T K E X:TypeId} {z:Value} (M:XR T K E X z) (k:Value):∀(es:List MapEntry) (i:Nat) (w:World),XM w k→(∀e∈es,XM w e.key) →
  ∃r n,(Instr.findAsking K k es i).run Tryz.prog w=.ok r (w.drewN n)∧∀j v,r=some (j,v)→∃e∈es,e.val=v:=by
 intro es
 induction es with
 | nil=>intro i w _ _;exact⟨none,0,rfl,fun j v h=>(by cases h)⟩
 | cons e es ih =>
  intro i w hk he
  obtain⟨r,n,h⟩:=Zbm M hk (he e (by simp))
  cases r with
  | true=>exact⟨some (i,e.val),n,by simp[Instr.findAsking,h],fun j v hj=>by injection hj with hj;injection hj with _ hj;exact⟨e,by simp,hj⟩⟩
  | false =>
   obtain⟨r2,m,h2,h3⟩:=ih (i+1) (w.drewN n) (hk.drewN n) (fun q hq=>(he q (by simp[hq])).drewN n)
   rw[drewN_drewN] at h2
   refine⟨r2,n+m,by simp[Instr.findAsking,h,h2],fun j v hj=>?_⟩
   obtain⟨q,hq,hv⟩:=h3 j v hj
   exact⟨q,by simp[hq],hv⟩
theorem jz {T K E X:TypeId} {z:Value} (M:XR T K E X z) (k:Value) (es:List MapEntry) (w:World) (hk:XM w k) (he:∀e∈es,XM w e.key) :
  ∃r n,(Instr.findKey K k es).run Tryz.prog w=.ok r (w.drewN n)∧∀j v,r=some (j,v)→∃e∈es,e.val=v:=by
 have hu:(underlying K).run Tryz.prog w=.ok (.pointer X) w:=by rw[run_underlying M.key]
 unfold Instr.findKey
 simp only[Sem.run_bind,hu,ZO]
 obtain⟨b1,o1,c1,t1,f1,rfl,h1,z1⟩:=id hk
 cases es with
 | nil=>exact⟨none,0,rfl,fun j v h=>(by cases h)⟩
 | cons e es =>
  have:Instr.findNow (.pointer X) (.pointer (some ⟨b1,o1,none⟩)) (e::es) 0=none:=by unfold Instr.findNow Instr.sameNow;rfl
  rw[this]
  exact eJ M _ _ 0 w hk he
def JM (w:World) (mb:Nat) (K V:Value→Prop):Prop:=∃arr clock,w.heap[mb]?=some (.map arr clock)∧∀e∈arr.toList,K e.key∧V e.val
theorem vF {T K E X:TypeId} {z:Value} (M:XR T K E X z) {w:World} {mb:Nat} {K' V:Value→Prop} (h:JM w mb K' V) (hK':∀v,K' v→XM w v) (k:Value) (hk:XM w k) :
  ∃u b n,(Instr.lookup T (.map (some mb)) k true).run Tryz.prog w=.ok (.tuple #[u,.bool b]) (w.drewN n)∧(b=true→V u)∧(b=false→u=z):=by
 obtain⟨arr,clock,hh,he⟩:=h
 have hu:(underlying T).run Tryz.prog w=.ok (.map K E) w:=by rw[run_underlying M.map]
 have hg:(getObj mb).run Tryz.prog w=.ok (.map arr clock) w:=run_getObj_map (w:=w) mb arr clock hh
 obtain⟨b1,o1,c1,t1,f1,rfl,h1,z1⟩:=id hk
 have hc:=M.check arr.isEmpty (some ⟨b1,o1,none⟩) w
 obtain⟨r,n,hr,hv⟩:=jz M _ arr.toList w hk (fun e h=>hK' _ (he e h).1)
 simp only[Instr.lookup,Sem.run_bind,hu,ZO,hg,Sem.run_pure]
 rw[hc]
 simp only[ZO]
 rw[hr]
 simp only[ZO]
 cases r with
 | none=>exact⟨z,false,n,by simp only[Sem.run_bind,M.zero,ZO,Sem.run_pure];rfl,fun h=>(by cases h),fun _=>rfl⟩
 | some p =>
  obtain⟨i,v⟩:=p
  obtain⟨e,h2,h3⟩:=hv i v rfl
  exact⟨v,true,n,by simp only[Sem.run_bind,ZO,Sem.run_pure];rfl,fun _=>h3▸(he e h2).2,fun h=>(by cases h)⟩
theorem Ek {P:Program} (a b:Value) (w:World):∃r n,(Instr.keyThatStays a b).run P w=.ok r (w.drewN n)∧(r=a∨r=b):=by
 unfold Instr.keyThatStays
 split
 ·exact⟨b,0,rfl,.inr rfl⟩
 simp only[Sem.run_bind,run_choose_drew]
 split
 ·exact⟨b,0,by rw[EP];simp,.inr rfl⟩
 refine⟨_,1,by simp;exact⟨rfl,rfl⟩,?_⟩
 split<;>simp
theorem kN {T K E X:TypeId} {z:Value} (M:XR T K E X z) {w:World} {mb:Nat} {K' V:Value→Prop} (h:JM w mb K' V) (hK':∀v,K' v→XM w v) (k:Value) (hkk:K' k) (v:Value) (hv:V v) :
  ∃arr clock n,(Instr.mapUpdate T (.map (some mb)) k v).run Tryz.prog w=.ok () (World.putM (w.drewN n) mb (.map arr clock))∧JM (World.putM (w.drewN n) mb (.map arr clock)) mb K' V:=by
 obtain⟨arr,clock,hh,he⟩:=h
 have hu:(underlying T).run Tryz.prog w=.ok (.map K E) w:=by rw[run_underlying M.map]
 have hg:(getObj mb).run Tryz.prog w=.ok (.map arr clock) w:=run_getObj_map (w:=w) mb arr clock hh
 have hk:=hK' k hkk
 obtain⟨b1,o1,c1,t1,f1,rfl,h1,z1⟩:=id hk
 have hc:=M.check false (some ⟨b1,o1,none⟩) w
 obtain⟨r,n,hr,hrv⟩:=jz M _ arr.toList w hk (fun e h=>hK' _ (he e h).1)
 have hlt:=Zb hh
 have hnew:∀(m:Nat) o,(World.putM (w.drewN m) mb o).heap[mb]?=some o:=by
  intro m o
  show(w.heap.setIfInBounds mb o)[mb]?=some o
  rw[Array.getElem?_setIfInBounds_self_of_lt hlt]
 cases r with
 | none =>
  refine⟨arr.push { key:=.pointer (some ⟨b1,o1,none⟩),val:=v,born:=clock },clock+1,n,?_,⟨_,_,hnew _ _,?_⟩⟩
  ·simp only[Instr.mapUpdate,Sem.run_bind,hu,ZO,hg]
   rw[hc]
   simp only[ZO]
   rw[hr]
   simp only[ZO]
   exact Go.MapKept.run_setObj_map (w:=w.drewN n) _ hh
  intro e h
  rw[Array.toList_push,List.mem_append] at h
  rcases h with h|h
  ·exact he e h
  rw[List.mem_singleton.1 h]
  exact⟨hkk,hv⟩
 | some q =>
  obtain⟨i,u⟩:=q
  obtain⟨kk,m,hst,hkk⟩:=Ek (P:=Tryz.prog) (((arr[i]?).map (·.key)).getD (.pointer (some ⟨b1,o1,none⟩))) (.pointer (some ⟨b1,o1,none⟩)) (w.drewN n)
  have hkp:K' kk:=by
   rcases hkk with rfl|rfl
   ·cases ha:arr[i]? with
    | none=>exact hkk
    | some e=>exact(he e (Array.mem_toList_iff.2 (Array.mem_of_getElem? ha))).1
   exact hkk
  rw[drewN_drewN] at hst
  refine⟨arr.modify i fun e=>{ e with key:=kk,val:=v },clock,n+m,?_,⟨_,_,hnew _ _,?_⟩⟩
  ·simp only[Instr.mapUpdate,Sem.run_bind,hu,ZO,hg]
   rw[hc]
   simp only[ZO]
   rw[hr]
   simp only[ZO,Sem.run_bind]
   rw[hst]
   simp only[ZO]
   exact Go.MapKept.run_setObj_map (w:=w.drewN (n+m)) _ hh
  intro e h
  rw[Array.toList_modify] at h
  obtain⟨j,hj⟩:=List.mem_iff_getElem?.1 h
  rw[List.getElem?_modify] at hj
  cases ha:arr.toList[j]? with
  | none=>rw[ha] at hj;simp at hj
  | some e0 =>
   rw[ha] at hj
   have h0:=he e0 (Z8 ha)
   by_cases hij:i=j
   ·simp[hij] at hj
    rw[←hj]
    exact⟨hkp,hv⟩
   simp[hij] at hj
   rw[←hj]
   exact h0
theorem JM.lt {w:World} {mb:Nat} {K V:Value→Prop} (h:JM w mb K V):mb<w.heap.size:=by
 obtain⟨arr,clock,h1,h2⟩:=h
 exact Zb h1
theorem JM.new (w:World) (K V:Value→Prop):JM (w.alloc (.map #[] 0)) w.heap.size K V:=⟨#[],0,Yt w _,fun e h=>by simp at h⟩
theorem JM.keep {w w':World} {mb:Nat} {K V V':Value→Prop} (h:JM w mb K V) (hb:w'.heap[mb]?=w.heap[mb]?) (hV:∀v,V v→V' v):JM w' mb K V':=by
 obtain⟨arr,clock,h1,h2⟩:=h
 exact⟨arr,clock,hb.trans h1,fun e he=>⟨(h2 e he).1,hV _ (h2 e he).2⟩⟩
theorem zm {T K E X:TypeId} {z:Value} (M:XR T K E X z) (w:World) {ops:Array Oper} {rest:List Oper} {o:Oper} {a:Act} {Q:Exit→Act→World→Prop}
  (hg:o.guard=none) (m x:Operand) (hop:o.op=Op.lookup T m x true) (mb:Nat) (K' V:Value→Prop) (k:Value)
  (hm:a.eval m=.map (some mb)) (hx:a.eval x=k) (h:JM w mb K' V) (hK':∀v,K' v→XM w v) (hk:XM w k)
  (hK:∀u b w',(b=true→V u)→(b=false→u=z)→w'.heap.size=w.heap.size→Below w.heap.size w w'→wpList Tryz.prog ops Q rest (a.put o.dst (.tuple #[u,.bool b])) w') :
  wpList Tryz.prog ops Q (o::rest) a w:=by
 refine wpList_plain hg fun K3 hK3=>?_
 obtain⟨u,b,n,hrun,h1,h2⟩:=vF M h hK' k hk
 have e:(execOp a.eval o).run Tryz.prog w=.ok (.value (.tuple #[u,.bool b])) (w.drewN n):=by
  simp[execOp,hop,hm,hx,hrun]
 unfold Oper.wp
 rw[e]
 exact hK3 _ _ (hK u b _ h1 h2 rfl (below_drewN (Zg _ _) n))
theorem UU {T K E X:TypeId} {z:Value} (M:XR T K E X z) (w:World) {ops:Array Oper} {rest:List Oper} {o:Oper} {a:Act} {Q:Exit→Act→World→Prop}
  (hg:o.guard=none) (m x v:Operand) (hop:o.op=Op.mapUpdate T m x v) (mb:Nat) (K2 V:Value→Prop) (k:Value) (u:Value)
  (hm:a.eval m=.map (some mb)) (hx:a.eval x=k) (hv:a.eval v=u) (h:JM w mb K2 V) (hK2:∀v,K2 v→XM w v) (hk:K2 k) (hV:V u)
  (hK:∀w',Upon mb w w'→w'.heap.size=w.heap.size→JM w' mb K2 V→wpList Tryz.prog ops Q rest (a.put o.dst undef) w') :
  wpList Tryz.prog ops Q (o::rest) a w:=by
 refine wpList_plain hg fun K' hK'=>?_
 obtain⟨arr,clock,n,hrun,h1⟩:=kN M h hK2 k hk u hV
 unfold Oper.wp
 simp[execOp,hop,hm,hx,hv,hrun,Result.andThen]
 exact hK' _ _ (hK _ (YI ((Upon.refl _ _).drewN n) _) (by simp[World.putM]) h1)
theorem Uz:XR 268 251 286 92 (.agg #[.int .i64 0,.int .i64 0]):=⟨by kernel_rfl,by kernel_rfl,fun w=>⟨5,by kernel_rfl⟩,fun w=>by kernel_rfl,fun b s w=>by cases b<;>kernel_rfl⟩
open Go.RowKit Go.ChangeShapes Go.WideShapes
theorem XI {n:Nat} (h:n≤maxLen):n≤9223372036854775807:=h
def I64 (n:Int):Prop:=-9223372036854775808≤n∧n≤9223372036854775807
theorem Qq {n:Int} (h:(Lit.int .i64 n).wf=true):I64 n:=bounds_i64 h
def Row {α:Type} (P:World→Nat→Nat→α→Prop) (sz:Nat) (w:World) (l:List α) (ad:Option Addr):Prop :=
 l=[]∨∃b o,ad=some ⟨b,o,none⟩∧b<w.heap.size∧∀i (h:i<l.length),P w b (o+i*sz) l[i]
def Sta {α:Type} (P:World→Nat→Nat→α→Prop):Prop:=∀(w w':World) (b o:Nat) (x:α),Below w.heap.size w w'→b<w.heap.size→P w b o x→P w' b o x
theorem Row.below {α:Type} {P:World→Nat→Nat→α→Prop} {sz:Nat} {w w':World} {l:List α} {ad:Option Addr} (hP:Sta P) (hb:Below w.heap.size w w') (h:Row P sz w l ad):Row P sz w' l ad:=by
 rcases h with h|⟨b,o,e,hlt,h⟩
 ·exact .inl h
 exact .inr ⟨b,o,e,Nat.lt_of_lt_of_le hlt hb.size,fun i hi=>hP w w' b _ _ hb hlt (h i hi)⟩
theorem Row.at {α:Type} {P:World→Nat→Nat→α→Prop} {sz:Nat} {w:World} {l:List α} {ad:Option Addr} (h:Row P sz w l ad) {i:Nat} (hi:i<l.length) :
  ∃b o,ad=some ⟨b,o,none⟩∧b<w.heap.size∧P w b (o+i*sz) l[i]:=by
 rcases h with h|⟨b,o,e,hlt,h⟩
 ·subst h;simp at hi
 exact⟨b,o,e,hlt,h i hi⟩
def zu (w:World) (b o:Nat) (s:ByteArray):Prop:=w.cell? ⟨b,o,none⟩=some (.string s)∧s.size≤9223372036854775807
theorem intCells:Tryz.prog.cellsOf 3=1:=by kernel_rfl
theorem Qr:Tryz.prog.cellsOf 2=1:=by kernel_rfl
theorem XF:Tryz.prog.cellsOf 9=1:=by kernel_rfl
section
variable {H:Type} {enc:TypeId × Value→H} {w:World} {base:Nat} {sp:Nat→Bool} {held:Bool}
theorem KG {fs:Array Field} {l:List (TypeId × Nat)} (h:fs.toList.map (fun f=>(f.type,f.offset))=l) (i:Nat) (t:TypeId) (o:Nat) (hl:l[i]?=some (t,o)):∃f,fs[i]?=some f∧f.type=t∧f.offset=o:=by
 subst h
 rw[List.getElem?_map] at hl
 cases hf:fs.toList[i]? with
 | none=>rw[hf] at hl;cases hl
 | some f =>
  rw[hf] at hl
  simp only[Option.map_some,Option.some.injEq,Prod.mk.injEq] at hl
  exact⟨f,by simpa using hf,hl.1,hl.2⟩
theorem one_cell {cs:List Value} {o:Nat} {v:Value} (h:(cs.drop o).take 1=[v]):cs[o]?=some v:=by
 have:=congrArg (fun l=>l[0]?) h
 simpa using this
theorem YE {cs:List Value} {fs:Array Field} {l:List (TypeId × Nat)} {xs:List (DataW H × List MemPlace)} {n:Nat} (hmap:fs.toList.map (fun f=>(f.type,f.offset))=l) (hlen:xs.length=fs.size)
  (hf:∀(i:Nat) (f:Field),fs[i]?=some f→DataW.trod enc Tryz.prog w base sp held n f.type ((cs.drop f.offset).take (Tryz.prog.cellsOf f.type))=xs[i]?) (i:Nat) (ft:TypeId) (o m:Nat) (hl:l[i]?=some (ft,o)) (hc:Tryz.prog.cellsOf ft=m) :
  ∃y,DataW.trod enc Tryz.prog w base sp held n ft ((cs.drop o).take m)=some y:=by
 obtain⟨f,h1,rfl,rfl⟩:=KG hmap i ft o hl
 have h2:=hf i f h1
 rw[hc] at h2
 have hi:i<xs.length:=by rw[hlen];exact(Array.getElem?_eq_some_iff.1 h1).1
 rw[List.getElem?_eq_getElem hi] at h2
 exact⟨_,h2⟩
theorem open_row {α:Type} {P:World→Nat→Nat→α→Prop} {T S:TypeId} {sz:Nat} (hS:Tryz.prog.underlying S=some (.slice T)) (hsz:Tryz.prog.cellsOf T=sz) (hpos:0<sz)
  (hel:∀n cs x,DataW.trod enc Tryz.prog w base sp held n T cs=some x→∃a:α,∀b o,b<w.heap.size→(∀j,j<sz→w.cell? ⟨b,o+j,none⟩=cs[j]?)→P w b o a)
  {n:Nat} {cs:List Value} {x} (h:DataW.trod enc Tryz.prog w base sp held n S cs=some x):∃(l:List α) (ad:Option Addr) (cap:Nat),Row P sz w l ad∧l.length≤cap∧cap≤9223372036854775807∧cs=[.slice ad l.length cap]:=by
 rcases DataW.trod_slice hS h with ⟨rfl,_⟩|⟨ad,len,cap,elems,rest,n,rfl,rfl,_,_,hl,hm,helems,hall,_⟩
 ·exact⟨[],none,0,.inl rfl,Nat.le_refl _,Nat.zero_le _,rfl⟩
 have hm':cap≤9223372036854775807:=XI hm
 by_cases h0:len=0
 ·subst h0;exact⟨[],some ad,cap,.inl rfl,Nat.zero_le _,hm',rfl⟩
 rw[hsz] at hall
 have key:∀i,i<len→∃cs',w.cells? base (ad.add (i*sz)) sz=some cs'∧∃y,DataW.trod enc Tryz.prog w base sp held n T cs'=some y:=by
  intro i hi
  have h1:=hall i hi
  rw[List.getElem?_eq_getElem (by omega)] at h1
  obtain⟨cs',h2,h3⟩:=Option.bind_eq_some_iff.1 h1
  exact⟨cs',h2,_,h3⟩
 obtain⟨b,o,spt⟩:=ad
 obtain⟨cs0,hc0,y0,hy0⟩:=key 0 (by omega)
 obtain⟨_,hlen0,hcell0⟩:=World.cells?_some hc0
 have hspot:spt=none:=by
  have:=hcell0 0 hpos
  rw[List.getElem?_eq_getElem (by omega)] at this
  simpa [Addr.add] using World.cell?_spot this
 subst hspot
 have hb:b<w.heap.size:=by
  have:=hcell0 0 hpos
  rw[List.getElem?_eq_getElem (by omega)] at this
  exact World.block_lt_of_cell? _ _ (by simpa [Addr.add] using this)
 have each:∀i,i<len→∃a:α,P w b (o+i*sz) a:=by
  intro i hi
  obtain⟨cs',h2,y,hy⟩:=key i hi
  obtain⟨a,ha⟩:=hel n cs' y hy
  obtain⟨_,_,hcell⟩:=World.cells?_some h2
  refine⟨a,ha b _ hb fun j hj=>?_⟩
  have hadd:((⟨b,o,none⟩:Addr).add (i*sz)).add j=⟨b,o+i*sz+j,none⟩:=by
   unfold Addr.add;by_cases h1:i*sz=0<;>by_cases h2:j=0<;>simp[h1,h2]
  have:=hcell j hj
  rw[hadd] at this;exact this
 have build:∀m,m≤len→∃l:List α,l.length=m∧∀i (h:i<l.length),P w b (o+i*sz) l[i]:=by
  intro m
  induction m with
  | zero=>intro _;exact⟨[],rfl,fun i h=>absurd h (Nat.not_lt_zero _)⟩
  | succ m ih =>
   intro hm
   obtain⟨l,hl,h⟩:=ih (by omega)
   obtain⟨a,ha⟩:=each m (by omega)
   refine⟨l++[a],by simp[hl],fun i hi=>?_⟩
   by_cases him:i<l.length
   ·rw[List.getElem_append_left him];exact h i him
   have:i=m:=by simp at hi;omega
   subst this
   rw[List.getElem_append_right (by omega)]
   simpa [hl] using ha
 obtain⟨l,hll,hP⟩:=build len (Nat.le_refl _)
 exact⟨l,some ⟨b,o,none⟩,cap,.inr ⟨b,o,rfl,hb,hP⟩,by omega,hm',by rw[hll]⟩
theorem Jn {cs l:List Value} {o m j:Nat} (h:(cs.drop o).take m=l) (hj:j<m):cs[o+j]?=l[j]?:=by
 rw[←h,List.getElem?_take_of_lt hj,List.getElem?_drop]
end
def AC (w:World):PL→Nat→Nat→Prop
 | .nil,_,_=>True
 | .cons k nm n d args a tl,b,o=>w.cell? ⟨b,o,none⟩=some (.int .i64 k)∧w.cell? ⟨b,o+1,none⟩=some (.string nm)∧w.cell? ⟨b,o+2,none⟩=some (.int .i64 n) ∧
   w.cell? ⟨b,o+3,none⟩=some (.int .i64 d)∧w.cell? ⟨b,o+5,none⟩=some (.int .i64 a)∧(I64 k∧I64 n∧I64 d∧I64 a∧nm.size≤9223372036854775807) ∧
   (∃ad cap,w.cell? ⟨b,o+4,none⟩=some (.slice ad args.len cap)∧args.len≤cap∧cap≤9223372036854775807∧(args=.nil∨∃b' o',ad=some ⟨b',o',none⟩∧b'<w.heap.size∧AC w args b' o')) ∧
   AC w tl b (o+6)
def AS (w:World) (args:PL) (ad:Option Addr):Prop:=args=.nil∨∃b o,ad=some ⟨b,o,none⟩∧b<w.heap.size∧AC w args b o
structure AE (w:World) (e:PE) (ad:Option Addr) (cap:Nat):Prop where
 nums:I64 e.k∧I64 e.n∧I64 e.d∧I64 e.a∧e.nm.size≤9223372036854775807
 len:e.args.len≤cap∧cap≤9223372036854775807
 args:AS w e.args ad
theorem AC.below {w w':World} (hb:Below w.heap.size w w'):∀(l:PL) (b o:Nat),b<w.heap.size→AC w l b o→AC w' l b o:=by
 intro l
 induction l with
 | nil=>intro b o _ _;trivial
 | cons k nm n d args a tl ih1 ih2 =>
  intro b o hlt h
  have hc:∀o,w'.cell? ⟨b,o,none⟩=w.cell? ⟨b,o,none⟩:=fun o=>hb.cell (p:=⟨b,o,none⟩) hlt
  obtain⟨h0,h1,h2,h3,h5,hn,⟨ad,cap,h4,hcap,hm,hd⟩,ht⟩:=h
  refine⟨(hc _).trans h0,(hc _).trans h1,(hc _).trans h2,(hc _).trans h3,(hc _).trans h5,hn,⟨ad,cap,(hc _).trans h4,hcap,hm,?_⟩,ih2 b _ hlt ht⟩
  rcases hd with hd|⟨b',o',e,hb',hd⟩
  ·exact .inl hd
  exact .inr ⟨b',o',e,Zd hb' hb.size,ih1 b' o' hb' hd⟩
theorem AS.below {w w':World} (hb:Below w.heap.size w w') {args:PL} {ad:Option Addr} (h:AS w args ad):AS w' args ad:=by
 rcases h with h|⟨b,o,e,hlt,h⟩
 ·exact .inl h
 exact .inr ⟨b,o,e,Zd hlt hb.size,h.below hb _ _ _ hlt⟩
theorem AE.below {w w':World} (hb:Below w.heap.size w w') {e:PE} {ad:Option Addr} {cap:Nat} (h:AE w e ad cap):AE w' e ad cap:=⟨h.nums,h.len,h.args.below hb⟩
section
variable {H:Type} {enc:TypeId × Value→H} {w:World} {base:Nat} {sp:Nat→Bool} {held:Bool}
theorem XC:(Tryz.prog.fieldsOf 92).toList.map (fun f=>(f.type,f.offset))=[(3,0),(9,1),(2,2),(2,3),(90,4),(3,5)]:=by kernel_rfl
theorem Vu:Tryz.prog.underlying 92=some (.struct (Tryz.prog.fieldsOf 92)):=by kernel_rfl
theorem Qn:Tryz.prog.cellsOf 92=6:=by kernel_rfl
theorem Vv:Tryz.prog.cellsOf 90=1:=by kernel_rfl
theorem Qp {cs:List Value} {fs:Array Field} {l:List (TypeId × Nat)} {xs:List (DataW H × List MemPlace)} {n:Nat} (hmap:fs.toList.map (fun f=>(f.type,f.offset))=l) (hlen:xs.length=fs.size)
  (hf:∀(i:Nat) (f:Field),fs[i]?=some f→DataW.trod enc Tryz.prog w base sp held n f.type ((cs.drop f.offset).take (Tryz.prog.cellsOf f.type))=xs[i]?) (i:Nat) (ft:TypeId) (o:Nat) (hl:l[i]?=some (ft,o)) (hc:Tryz.prog.cellsOf ft=1) :
  ∃y,DataW.trod enc Tryz.prog w base sp held n ft ((cs.drop o).take 1)=some y:=by
 obtain⟨f,h1,rfl,rfl⟩:=KG hmap i ft o hl
 have h2:=hf i f h1
 rw[hc] at h2
 have hi:i<xs.length:=by rw[hlen];exact(Zq.1 h1).1
 rw[Ze hi] at h2
 exact⟨_,h2⟩
theorem xO (b o:Nat) :
  ∀(m i:Nat),(∀j,i≤j→j<i+m→∃e ad cap,AE w e ad cap∧w.cell? ⟨b,o+j*6,none⟩=some (.int .i64 e.k)∧w.cell? ⟨b,o+j*6+1,none⟩=some (.string e.nm)∧w.cell? ⟨b,o+j*6+2,none⟩=some (.int .i64 e.n) ∧
   w.cell? ⟨b,o+j*6+3,none⟩=some (.int .i64 e.d)∧w.cell? ⟨b,o+j*6+4,none⟩=some (.slice ad e.args.len cap)∧w.cell? ⟨b,o+j*6+5,none⟩=some (.int .i64 e.a)) →
   ∃l:PL,l.len=m∧AC w l b (o+i*6):=by
 intro m
 induction m with
 | zero=>intro i _;exact⟨.nil,rfl,trivial⟩
 | succ m ih =>
  intro i h
  obtain⟨l,hl,hc⟩:=ih (i+1) (fun j h1 h2=>h j oq oq)
  obtain⟨e,ad,cap,he,c0,c1,c2,c3,c4,c5⟩:=h i (Zc _) oq
  refine⟨.cons e.k e.nm e.n e.d e.args e.a l,by simp[PL.len,hl],c0,c1,c2,c3,c5,he.nums,⟨ad,cap,c4,he.len.1,he.len.2,he.args⟩,?_⟩
  rw[show o+i*6+6=o+(i+1)*6 by omega];exact hc
theorem vO:∀(fuel:Nat),
  (∀cs x,DataW.trod enc Tryz.prog w base sp held fuel 92 cs=some x→∃e ad cap,AE w e ad cap∧cs=[.int .i64 e.k,.string e.nm,.int .i64 e.n,.int .i64 e.d,.slice ad e.args.len cap,.int .i64 e.a]) ∧
  (∀cs x,DataW.trod enc Tryz.prog w base sp held fuel 90 cs=some x→∃l ad cap,AS w l ad∧l.len≤cap∧cap≤9223372036854775807∧cs=[.slice ad l.len cap]):=by
 intro fuel
 induction fuel using Nat.strongRecOn with
 | _ fuel ih =>
  refine⟨fun cs x h=>?_,fun cs x h=>?_⟩
  ·obtain⟨xs,n,rfl,_,hlen,hxl,hf⟩:=DataW.trod_struct Vu h
   rw[Qn] at hlen
   obtain⟨y0,h0⟩:=Qp XC hxl hf 0 3 0 rfl intCells
   obtain⟨y1,h1⟩:=Qp XC hxl hf 1 9 1 rfl XF
   obtain⟨y2,h2⟩:=Qp XC hxl hf 2 2 2 rfl Qr
   obtain⟨y3,h3⟩:=Qp XC hxl hf 3 2 3 rfl Qr
   obtain⟨y4,h4⟩:=Qp XC hxl hf 4 90 4 rfl Vv
   obtain⟨y5,h5⟩:=Qp XC hxl hf 5 3 5 rfl intCells
   obtain⟨k,e0,_,w0⟩:=DataW.trod_int Tryz.underlying3 h0
   obtain⟨nm,e1,_,w1⟩:=DataW.trod_string Tryz.underlying9 h1
   obtain⟨m,e2,_,w2⟩:=DataW.trod_int Tryz.underlying2 h2
   obtain⟨d,e3,_,w3⟩:=DataW.trod_int Tryz.underlying2 h3
   obtain⟨l,ad,cap,hs,hl1,hl2,e4⟩:=(ih n oq).2 _ _ h4
   obtain⟨a,e5,_,w5⟩:=DataW.trod_int Tryz.underlying3 h5
   refine⟨⟨k,nm,m,d,l,a⟩,ad,cap,⟨⟨Qq w0,Qq w2,Qq w3,Qq w5,XI w1⟩,⟨hl1,hl2⟩,hs⟩,?_⟩
   have g0:=one_cell e0
   have g1:=one_cell e1
   have g2:=one_cell e2
   have g3:=one_cell e3
   have g4:=one_cell e4
   have g5:=one_cell e5
   refine List.ext_getElem? fun i=>?_
   by_cases hi:i<6
   ·obtain rfl|rfl|rfl|rfl|rfl|rfl:i=0∨i=1∨i=2∨i=3∨i=4∨i=5:=oq
    ·exact g0
    ·exact g1
    ·exact g2
    ·exact g3
    ·exact g4
    exact g5
   rw[Ya oq,Ya (by simp;omega)]
  rcases DataW.trod_slice Tryz.underlying90 h with ⟨rfl,_⟩|⟨ad,len,cap,elems,rest,n,rfl,rfl,_,_,hl,hm,hel,hall,_⟩
  ·exact⟨.nil,none,0,.inl rfl,Zc _,Zk _,rfl⟩
  have hm':cap≤9223372036854775807:=XI hm
  by_cases h0:len=0
  ·subst h0;exact⟨.nil,some ad,cap,.inl rfl,Zk _,hm',rfl⟩
  rw[Qn] at hall
  have key:∀i,i<len→∃cs',w.cells? base (ad.add (i*6)) 6=some cs'∧∃y,DataW.trod enc Tryz.prog w base sp held n 92 cs'=some y:=by
   intro i hi
   have h1:=hall i hi
   rw[Ze oq] at h1
   obtain⟨cs',h2,h3⟩:=Option.bind_eq_some_iff.1 h1
   exact⟨cs',h2,_,h3⟩
  obtain⟨b,o,spt⟩:=ad
  obtain⟨cs0,hc0,y0,hy0⟩:=key 0 oq
  obtain⟨_,hlen0,hcell0⟩:=World.cells?_some hc0
  have hspot:spt=none:=by
   have:=hcell0 0 oq
   rw[Ze oq] at this
   simpa [Addr.add] using World.cell?_spot this
  subst hspot
  have hcells:∀j,0≤j→j<0+len→∃e ad cap,AE w e ad cap∧w.cell? ⟨b,o+j*6,none⟩=some (.int .i64 e.k)∧w.cell? ⟨b,o+j*6+1,none⟩=some (.string e.nm)∧w.cell? ⟨b,o+j*6+2,none⟩=some (.int .i64 e.n) ∧
    w.cell? ⟨b,o+j*6+3,none⟩=some (.int .i64 e.d)∧w.cell? ⟨b,o+j*6+4,none⟩=some (.slice ad e.args.len cap)∧w.cell? ⟨b,o+j*6+5,none⟩=some (.int .i64 e.a):=by
   intro j _ hj
   obtain⟨cs',h2,y,hy⟩:=key j oq
   obtain⟨e,ad,cap,he,rfl⟩:=(ih n oq).1 _ _ hy
   obtain⟨_,_,hcell⟩:=World.cells?_some h2
   have hadd:∀i,((⟨b,o,none⟩:Addr).add (j*6)).add i=⟨b,o+j*6+i,none⟩:=by
    intro i;unfold Addr.add;by_cases h1:j*6=0<;>by_cases h2:i=0<;>simp[h1,h2]
   refine⟨e,ad,cap,he,?_,?_,?_,?_,?_,?_⟩
   ·have:=hcell 0 oq;rw[hadd] at this;exact this
   ·have:=hcell 1 oq;rw[hadd] at this;exact this
   ·have:=hcell 2 oq;rw[hadd] at this;exact this
   ·have:=hcell 3 oq;rw[hadd] at this;exact this
   ·have:=hcell 4 oq;rw[hadd] at this;exact this
   have:=hcell 5 oq;rw[hadd] at this;exact this
  obtain⟨l,hll,hac⟩:=xO (w:=w) b o len 0 hcells
  have hb:b<w.heap.size:=by
   obtain⟨e,_,_,_,hc,_⟩:=hcells 0 (Zc _) oq
   exact World.block_lt_of_cell? _ _ hc
  exact⟨l,some ⟨b,o,none⟩,cap,.inr ⟨b,o,rfl,hb,by simpa using hac⟩,oq,hm',by rw[hll]⟩
end
structure ND where
 nm:ByteArray
 ps:List ByteArray
 bud:Int
 body:PE
 a:Int
structure IN where
 nm:ByteArray
 per:Int
 ph:Int
 a:Int
structure FL where
 nm:ByteArray
 e:PE
 a:Int
structure OU where
 nm:ByteArray
 fl:ByteArray
 dl:Int
 a:Int
structure PG where
 nodes:List ND
 ins:List IN
 flows:List FL
 outs:List OU
def GJ (w:World) (b o:Nat) (e:PE):Prop :=
 ∃ad cap,w.cell? ⟨b,o,none⟩=some (.int .i64 e.k)∧w.cell? ⟨b,o+1,none⟩=some (.string e.nm)∧w.cell? ⟨b,o+2,none⟩=some (.int .i64 e.n)∧w.cell? ⟨b,o+3,none⟩=some (.int .i64 e.d) ∧
  w.cell? ⟨b,o+4,none⟩=some (.slice ad e.args.len cap)∧w.cell? ⟨b,o+5,none⟩=some (.int .i64 e.a)∧AE w e ad cap
def Kk (w:World) (b o:Nat) (x:ND):Prop :=
 w.cell? ⟨b,o,none⟩=some (.string x.nm)∧(∃ad cap,w.cell? ⟨b,o+1,none⟩=some (.slice ad x.ps.length cap)∧x.ps.length≤cap∧cap≤9223372036854775807∧Row zu 1 w x.ps ad)∧w.cell? ⟨b,o+2,none⟩=some (.int .i64 x.bud) ∧
  GJ w b (o+3) x.body∧w.cell? ⟨b,o+9,none⟩=some (.int .i64 x.a)∧(x.nm.size≤9223372036854775807∧I64 x.bud∧I64 x.a)
def InC (w:World) (b o:Nat) (x:IN):Prop :=
 w.cell? ⟨b,o,none⟩=some (.string x.nm)∧w.cell? ⟨b,o+1,none⟩=some (.int .i64 x.per)∧w.cell? ⟨b,o+2,none⟩=some (.int .i64 x.ph)∧w.cell? ⟨b,o+3,none⟩=some (.int .i64 x.a)∧(x.nm.size≤9223372036854775807∧I64 x.per∧I64 x.ph∧I64 x.a)
def FlC (w:World) (b o:Nat) (x:FL):Prop :=
 w.cell? ⟨b,o,none⟩=some (.string x.nm)∧GJ w b (o+1) x.e∧w.cell? ⟨b,o+7,none⟩=some (.int .i64 x.a)∧(x.nm.size≤9223372036854775807∧I64 x.a)
def OuC (w:World) (b o:Nat) (x:OU):Prop :=
 w.cell? ⟨b,o,none⟩=some (.string x.nm)∧w.cell? ⟨b,o+1,none⟩=some (.string x.fl)∧w.cell? ⟨b,o+2,none⟩=some (.int .i64 x.dl)∧w.cell? ⟨b,o+3,none⟩=some (.int .i64 x.a)∧(x.nm.size≤9223372036854775807∧x.fl.size≤9223372036854775807∧I64 x.dl∧I64 x.a)
theorem GJ.below {w w':World} {b o:Nat} {e:PE} (hb:Below w.heap.size w w') (hlt:b<w.heap.size) (h:GJ w b o e):GJ w' b o e:=by
 obtain⟨ad,cap,h0,h1,h2,h3,h4,h5,h6⟩:=h
 have hc:∀o,w'.cell? ⟨b,o,none⟩=w.cell? ⟨b,o,none⟩:=fun o=>hb.cell (p:=⟨b,o,none⟩) hlt
 exact⟨ad,cap,(hc _).trans h0,(hc _).trans h1,(hc _).trans h2,(hc _).trans h3,(hc _).trans h4,(hc _).trans h5,h6.below hb⟩
theorem Qu:Sta zu:=fun w w' b o x hb hlt h=>⟨(hb.cell (p:=⟨b,o,none⟩) hlt).trans h.1,h.2⟩
theorem Jw:Sta Kk:=fun w w' b o x hb hlt h=>by
 have hc:∀o,w'.cell? ⟨b,o,none⟩=w.cell? ⟨b,o,none⟩:=fun o=>hb.cell (p:=⟨b,o,none⟩) hlt
 obtain⟨h0,⟨ad,cap,h1,h2,h3,h4⟩,h5,h6,h7,h8⟩:=h
 exact⟨(hc _).trans h0,⟨ad,cap,(hc _).trans h1,h2,h3,h4.below Qu hb⟩,(hc _).trans h5,h6.below hb hlt,(hc _).trans h7,h8⟩
theorem KM:Sta InC:=fun w w' b o x hb hlt h=>by
 have hc:∀o,w'.cell? ⟨b,o,none⟩=w.cell? ⟨b,o,none⟩:=fun o=>hb.cell (p:=⟨b,o,none⟩) hlt
 obtain⟨h0,h1,h2,h3,h4⟩:=h
 exact⟨(hc _).trans h0,(hc _).trans h1,(hc _).trans h2,(hc _).trans h3,h4⟩
theorem JI:Sta FlC:=fun w w' b o x hb hlt h=>by
 have hc:∀o,w'.cell? ⟨b,o,none⟩=w.cell? ⟨b,o,none⟩:=fun o=>hb.cell (p:=⟨b,o,none⟩) hlt
 obtain⟨h0,h1,h2,h3⟩:=h
 exact⟨(hc _).trans h0,h1.below hb hlt,(hc _).trans h2,h3⟩
theorem yH:Sta OuC:=fun w w' b o x hb hlt h=>by
 have hc:∀o,w'.cell? ⟨b,o,none⟩=w.cell? ⟨b,o,none⟩:=fun o=>hb.cell (p:=⟨b,o,none⟩) hlt
 obtain⟨h0,h1,h2,h3,h4⟩:=h
 exact⟨(hc _).trans h0,(hc _).trans h1,(hc _).trans h2,(hc _).trans h3,h4⟩
structure AP (w:World) (p:PG) (an ai af ao:Option Addr) (cn ci cf co:Nat):Prop where
 nodes:Row Kk 10 w p.nodes an
 ins:Row InC 4 w p.ins ai
 flows:Row FlC 8 w p.flows af
 outs:Row OuC 4 w p.outs ao
 caps:(p.nodes.length≤cn∧cn≤9223372036854775807)∧(p.ins.length≤ci∧ci≤9223372036854775807)∧(p.flows.length≤cf∧cf≤9223372036854775807)∧(p.outs.length≤co∧co≤9223372036854775807)
def pv (p:PG) (an ai af ao:Option Addr) (cn ci cf co:Nat):Value:=.agg #[.slice an p.nodes.length cn,.slice ai p.ins.length ci,.slice af p.flows.length cf,.slice ao p.outs.length co]
theorem AP.below {w w':World} {p:PG} {an ai af ao:Option Addr} {cn ci cf co:Nat} (hb:Below w.heap.size w w') (h:AP w p an ai af ao cn ci cf co):AP w' p an ai af ao cn ci cf co :=
 ⟨h.nodes.below Jw hb,h.ins.below KM hb,h.flows.below JI hb,h.outs.below yH hb,h.caps⟩
section
variable {H:Type} {enc:TypeId × Value→H} {w:World} {base:Nat} {sp:Nat→Bool} {held:Bool}
theorem Qt:(Tryz.prog.fieldsOf 94).toList.map (fun f=>(f.type,f.offset))=[(9,0),(89,1),(2,2),(92,3),(3,9)]:=by kernel_rfl
theorem K6:Tryz.prog.underlying 94=some (.struct (Tryz.prog.fieldsOf 94)):=by kernel_rfl
theorem Eb:Tryz.prog.cellsOf 94=10:=by kernel_rfl
theorem V6:(Tryz.prog.fieldsOf 102).toList.map (fun f=>(f.type,f.offset))=[(9,0),(2,1),(2,2),(3,3)]:=by kernel_rfl
theorem kF:Tryz.prog.underlying 102=some (.struct (Tryz.prog.fieldsOf 102)):=by kernel_rfl
theorem eZ:Tryz.prog.cellsOf 102=4:=by kernel_rfl
theorem KI:(Tryz.prog.fieldsOf 104).toList.map (fun f=>(f.type,f.offset))=[(9,0),(92,1),(3,7)]:=by kernel_rfl
theorem kx:Tryz.prog.underlying 104=some (.struct (Tryz.prog.fieldsOf 104)):=by kernel_rfl
theorem eY:Tryz.prog.cellsOf 104=8:=by kernel_rfl
theorem Ue:(Tryz.prog.fieldsOf 106).toList.map (fun f=>(f.type,f.offset))=[(9,0),(9,1),(2,2),(3,3)]:=by kernel_rfl
theorem gj:Tryz.prog.underlying 106=some (.struct (Tryz.prog.fieldsOf 106)):=by kernel_rfl
theorem Zap:Tryz.prog.cellsOf 106=4:=by kernel_rfl
theorem Uf:(Tryz.prog.fieldsOf 27).toList.map (fun f=>(f.type,f.offset))=[(22,0),(23,1),(24,2),(25,3)]:=by kernel_rfl
theorem gl:Tryz.prog.underlying 27=some (.struct (Tryz.prog.fieldsOf 27)):=by kernel_rfl
theorem Zat:Tryz.prog.cellsOf 27=4:=by kernel_rfl
theorem gH:Tryz.prog.cellsOf 89=1:=by kernel_rfl
theorem gI:Tryz.prog.cellsOf 22=1:=by kernel_rfl
theorem gJ:Tryz.prog.cellsOf 23=1:=by kernel_rfl
theorem gK:Tryz.prog.cellsOf 24=1:=by kernel_rfl
theorem gL:Tryz.prog.cellsOf 25=1:=by kernel_rfl
theorem open_strs {n:Nat} {cs:List Value} {x} (h:DataW.trod enc Tryz.prog w base sp held n 89 cs=some x):∃(l:List ByteArray) (ad:Option Addr) (cap:Nat),Row zu 1 w l ad∧l.length≤cap∧cap≤9223372036854775807∧cs=[.slice ad l.length cap] :=
 open_row Tryz.underlying89 XF oq (fun n cs x h=>by
  obtain⟨s,rfl,_,hs⟩:=DataW.trod_string Tryz.underlying9 h
  exact⟨s,fun b o _ hc=>⟨by have:=hc 0 oq;simpa using this,XI hs⟩⟩) h
theorem K9 {cs:List Value} {o:Nat} {n:Nat} {y} (h:DataW.trod enc Tryz.prog w base sp held n 92 ((cs.drop o).take 6)=some y) :
  ∃e:PE,∀b p,(∀j,j<6→w.cell? ⟨b,p+j,none⟩=cs[o+j]?)→GJ w b p e:=by
 obtain⟨e,ad,cap,he,hcs⟩:=(vO n).1 _ _ h
 refine⟨e,fun b p hc=>⟨ad,cap,?_,?_,?_,?_,?_,?_,he⟩⟩
 ·exact(hc 0 oq).trans ((Jn hcs oq).trans rfl)
 ·exact(hc 1 oq).trans ((Jn hcs oq).trans rfl)
 ·exact(hc 2 oq).trans ((Jn hcs oq).trans rfl)
 ·exact(hc 3 oq).trans ((Jn hcs oq).trans rfl)
 ·exact(hc 4 oq).trans ((Jn hcs oq).trans rfl)
 exact(hc 5 oq).trans ((Jn hcs oq).trans rfl)
theorem vP (n:Nat) (cs:List Value) (x) (h:DataW.trod enc Tryz.prog w base sp held n 94 cs=some x):∃a:ND,∀b o,b<w.heap.size→(∀j,j<10→w.cell? ⟨b,o+j,none⟩=cs[j]?)→Kk w b o a:=by
 obtain⟨xs,n,rfl,_,hlen,hxl,hf⟩:=DataW.trod_struct K6 h
 obtain⟨y0,h0⟩:=YE Qt hxl hf 0 9 0 1 rfl XF
 obtain⟨y1,h1⟩:=YE Qt hxl hf 1 89 1 1 rfl gH
 obtain⟨y2,h2⟩:=YE Qt hxl hf 2 2 2 1 rfl Qr
 obtain⟨y3,h3⟩:=YE Qt hxl hf 3 92 3 6 rfl Qn
 obtain⟨y4,h4⟩:=YE Qt hxl hf 4 3 9 1 rfl intCells
 obtain⟨nm,e0,_,w0⟩:=DataW.trod_string Tryz.underlying9 h0
 obtain⟨ps,ad,cap,hr,hp1,hp2,e1⟩:=open_strs h1
 obtain⟨bud,e2,_,w2⟩:=DataW.trod_int Tryz.underlying2 h2
 obtain⟨body,hbody⟩:=K9 h3
 obtain⟨a,e4,_,w4⟩:=DataW.trod_int Tryz.underlying3 h4
 refine⟨⟨nm,ps,bud,body,a⟩,fun b o hb hc=>⟨?_,⟨ad,cap,?_,hp1,hp2,hr⟩,?_,hbody b (o+3) (fun j hj=>by rw[Nat.add_assoc];exact hc (3+j) oq),?_,XI w0,Qq w2,Qq w4⟩⟩
 ·exact(hc 0 oq).trans (one_cell e0)
 ·exact(hc 1 oq).trans (one_cell e1)
 ·exact(hc 2 oq).trans (one_cell e2)
 exact(hc 9 oq).trans (one_cell e4)
theorem Zak (n:Nat) (cs:List Value) (x) (h:DataW.trod enc Tryz.prog w base sp held n 102 cs=some x):∃a:IN,∀b o,b<w.heap.size→(∀j,j<4→w.cell? ⟨b,o+j,none⟩=cs[j]?)→InC w b o a:=by
 obtain⟨xs,n,rfl,_,hlen,hxl,hf⟩:=DataW.trod_struct kF h
 obtain⟨y0,h0⟩:=YE V6 hxl hf 0 9 0 1 rfl XF
 obtain⟨y1,h1⟩:=YE V6 hxl hf 1 2 1 1 rfl Qr
 obtain⟨y2,h2⟩:=YE V6 hxl hf 2 2 2 1 rfl Qr
 obtain⟨y3,h3⟩:=YE V6 hxl hf 3 3 3 1 rfl intCells
 obtain⟨nm,e0,_,w0⟩:=DataW.trod_string Tryz.underlying9 h0
 obtain⟨per,e1,_,w1⟩:=DataW.trod_int Tryz.underlying2 h1
 obtain⟨ph,e2,_,w2⟩:=DataW.trod_int Tryz.underlying2 h2
 obtain⟨a,e3,_,w3⟩:=DataW.trod_int Tryz.underlying3 h3
 exact⟨⟨nm,per,ph,a⟩,fun b o hb hc=>⟨(hc 0 oq).trans (one_cell e0),(hc 1 oq).trans (one_cell e1),(hc 2 oq).trans (one_cell e2),(hc 3 oq).trans (one_cell e3),XI w0,Qq w1,Qq w2,Qq w3⟩⟩
theorem Zaj (n:Nat) (cs:List Value) (x) (h:DataW.trod enc Tryz.prog w base sp held n 104 cs=some x):∃a:FL,∀b o,b<w.heap.size→(∀j,j<8→w.cell? ⟨b,o+j,none⟩=cs[j]?)→FlC w b o a:=by
 obtain⟨xs,n,rfl,_,hlen,hxl,hf⟩:=DataW.trod_struct kx h
 obtain⟨y0,h0⟩:=YE KI hxl hf 0 9 0 1 rfl XF
 obtain⟨y1,h1⟩:=YE KI hxl hf 1 92 1 6 rfl Qn
 obtain⟨y2,h2⟩:=YE KI hxl hf 2 3 7 1 rfl intCells
 obtain⟨nm,e0,_,w0⟩:=DataW.trod_string Tryz.underlying9 h0
 obtain⟨e,he⟩:=K9 h1
 obtain⟨a,e2,_,w2⟩:=DataW.trod_int Tryz.underlying3 h2
 exact⟨⟨nm,e,a⟩,fun b o hb hc=>⟨(hc 0 oq).trans (one_cell e0),he b (o+1) (fun j hj=>by rw[Nat.add_assoc];exact hc (1+j) oq),(hc 7 oq).trans (one_cell e2),XI w0,Qq w2⟩⟩
theorem Zal (n:Nat) (cs:List Value) (x) (h:DataW.trod enc Tryz.prog w base sp held n 106 cs=some x):∃a:OU,∀b o,b<w.heap.size→(∀j,j<4→w.cell? ⟨b,o+j,none⟩=cs[j]?)→OuC w b o a:=by
 obtain⟨xs,n,rfl,_,hlen,hxl,hf⟩:=DataW.trod_struct gj h
 obtain⟨y0,h0⟩:=YE Ue hxl hf 0 9 0 1 rfl XF
 obtain⟨y1,h1⟩:=YE Ue hxl hf 1 9 1 1 rfl XF
 obtain⟨y2,h2⟩:=YE Ue hxl hf 2 2 2 1 rfl Qr
 obtain⟨y3,h3⟩:=YE Ue hxl hf 3 3 3 1 rfl intCells
 obtain⟨nm,e0,_,w0⟩:=DataW.trod_string Tryz.underlying9 h0
 obtain⟨fl,e1,_,w1⟩:=DataW.trod_string Tryz.underlying9 h1
 obtain⟨dl,e2,_,w2⟩:=DataW.trod_int Tryz.underlying2 h2
 obtain⟨a,e3,_,w3⟩:=DataW.trod_int Tryz.underlying3 h3
 exact⟨⟨nm,fl,dl,a⟩,fun b o hb hc=>⟨(hc 0 oq).trans (one_cell e0),(hc 1 oq).trans (one_cell e1),(hc 2 oq).trans (one_cell e2),(hc 3 oq).trans (one_cell e3),XI w0,XI w1,Qq w2,Qq w3⟩⟩
theorem Zam {n:Nat} {cs:List Value} {x} (h:DataW.trod enc Tryz.prog w base sp held n 27 cs=some x) :
  ∃(p:PG) (an ai af ao:Option Addr) (cn ci cf co:Nat),AP w p an ai af ao cn ci cf co∧cs=[.slice an p.nodes.length cn,.slice ai p.ins.length ci,.slice af p.flows.length cf,.slice ao p.outs.length co]:=by
 obtain⟨xs,n,rfl,_,hlen,hxl,hf⟩:=DataW.trod_struct gl h
 rw[Zat] at hlen
 obtain⟨y0,h0⟩:=YE Uf hxl hf 0 22 0 1 rfl gI
 obtain⟨y1,h1⟩:=YE Uf hxl hf 1 23 1 1 rfl gJ
 obtain⟨y2,h2⟩:=YE Uf hxl hf 2 24 2 1 rfl gK
 obtain⟨y3,h3⟩:=YE Uf hxl hf 3 25 3 1 rfl gL
 obtain⟨nodes,an,cn,rn,n1,n2,en⟩:=open_row Tryz.underlying22 Eb oq vP h0
 obtain⟨ins,ai,ci,ri,i1,i2,ei⟩:=open_row Tryz.underlying23 eZ oq Zak h1
 obtain⟨flows,af,cf,rf,f1,f2,ef⟩:=open_row Tryz.underlying24 eY oq Zaj h2
 obtain⟨outs,ao,co,ro,o1,o2,eo⟩:=open_row Tryz.underlying25 Zap oq Zal h3
 refine⟨⟨nodes,ins,flows,outs⟩,an,ai,af,ao,cn,ci,cf,co,⟨rn,ri,rf,ro,⟨n1,n2⟩,⟨i1,i2⟩,⟨f1,f2⟩,⟨o1,o2⟩⟩,?_⟩
 have g0:=one_cell en
 have g1:=one_cell ei
 have g2:=one_cell ef
 have g3:=one_cell eo
 refine List.ext_getElem? fun i=>?_
 by_cases hi:i<4
 ·obtain rfl|rfl|rfl|rfl:i=0∨i=1∨i=2∨i=3:=oq
  ·exact g0
  ·exact g1
  ·exact g2
  exact g3
 rw[Ya oq,Ya (by simp;omega)]
end
def NF (w:World):PL→Nat→Nat→Prop
 | .nil,_,_=>True
 | .cons k nm n d args a tl,b,o=>w.frozen? ⟨b,o,none⟩=false∧(∀b' o' cap,w.cell? ⟨b,o+4,none⟩=some (.slice (some ⟨b',o',none⟩) args.len cap)→NF w args b' o')∧NF w tl b (o+6)
theorem NF.below {w w':World} (hb:Below w.heap.size w w'):∀(l:PL) (b o:Nat),b<w.heap.size→AC w l b o→NF w l b o→NF w' l b o:=by
 intro l
 induction l with
 | nil=>intro b o _ _ _;trivial
 | cons k nm n d args a tl ih1 ih2 =>
  intro b o hlt h hn
  obtain⟨_,_,_,_,_,_,⟨ad,cap,h4,_,_,hd⟩,ht⟩:=h
  obtain⟨n0,n1,n2⟩:=hn
  refine⟨(hb.frozen (p:=⟨b,o,none⟩) hlt).trans n0,fun b' o' cap' hc=>?_,ih2 b _ hlt ht n2⟩
  have hc':=(hb.cell (p:=⟨b,o+4,none⟩) hlt).symm.trans hc
  have h5:=n1 b' o' cap' hc'
  rw[h4] at hc'
  injection hc' with hc'
  injection hc' with e1 _ _
  rcases hd with rfl|⟨b2,o2,e,hb2,hd⟩
  ·trivial
  rw[e1] at e
  injection e with e;injection e with e1 e2
  subst e1;subst e2
  exact ih1 _ _ hb2 hd h5
theorem NF.drop {w:World}:∀(l:PL) (b o:Nat),NF w l b o→True:=fun _ _ _ _=>trivial
section
variable {H:Type} {enc:TypeId × Value→H} {w:World} {base:Nat} {sp:Nat→Bool} {held:Bool}
theorem KH {cs:List Value} {fs:Array Field} {l:List (TypeId × Nat)} {xs:List (DataW H × List MemPlace)} {n:Nat} (hmap:fs.toList.map (fun f=>(f.type,f.offset))=l) (hlen:xs.length=fs.size)
  (hf:∀(i:Nat) (f:Field),fs[i]?=some f→DataW.trod enc Tryz.prog w base sp held n f.type ((cs.drop f.offset).take (Tryz.prog.cellsOf f.type))=xs[i]?) (i:Nat) (ft:TypeId) (o m:Nat) (hl:l[i]?=some (ft,o)) (hc:Tryz.prog.cellsOf ft=m) :
  ∃y∈xs,DataW.trod enc Tryz.prog w base sp held n ft ((cs.drop o).take m)=some y:=by
 obtain⟨f,h1,rfl,rfl⟩:=KG hmap i ft o hl
 have h2:=hf i f h1
 rw[hc] at h2
 have hi:i<xs.length:=by rw[hlen];exact(Zq.1 h1).1
 rw[Ze hi] at h2
 exact⟨_,Zi hi,h2⟩
theorem qy {xs:List (DataW H × List MemPlace)} (h:w.noneFrozen (xs.flatMap (·.2))) {y} (hy:y∈xs):w.noneFrozen y.2 :=
 fun b o hm=>h b o (List.mem_flatMap.2 ⟨y,hy,hm⟩)
theorem xE (b o n i:Nat):((⟨b,o,none⟩:Addr).add n).add i=⟨b,o+n+i,none⟩:=by
 unfold Addr.add;by_cases h1:n=0<;>by_cases h2:i=0<;>simp[h1,h2]
theorem Zbx:∀(l:PL) (b o:Nat),AC w l b o→(∀i,i<l.len→w.frozen? ⟨b,o+i*6,none⟩=false) →
  (∀i,i<l.len→∃n cs y,(∀j,j<6→w.cell? ⟨b,o+i*6+j,none⟩=cs[j]?)∧DataW.trod enc Tryz.prog w base sp held n 92 cs=some y∧w.noneFrozen y.2)→NF w l b o:=by
 intro l
 induction l with
 | nil=>intro b o _ _ _;trivial
 | cons k nm n d args a tl ih1 ih2 =>
  intro b o hac hfz hel
  obtain⟨_,_,_,_,_,_,⟨ad,cap,h4,_,_,hd⟩,ht⟩:=hac
  refine⟨by have:=hfz 0 (by simp[PL.len]);simpa using this,fun b' o' cap' hc=>?_,ih2 b (o+6) ht (fun i hi=>?_) (fun i hi=>?_)⟩
  ·rw[h4] at hc
   injection hc with hc
   injection hc with e1 _ e3
   subst e1
   rcases hd with rfl|⟨b2,o2,e,hb2,hd⟩
   ·trivial
   injection e with e;injection e with e1 e2
   subst e1;subst e2
   obtain⟨m,cs,y,hcs,hy,hz⟩:=hel 0 (by simp[PL.len])
   obtain⟨xs,m,rfl,rfl,hlen,hxl,hf⟩:=DataW.trod_struct Vu hy
   obtain⟨y4,hy4,t4⟩:=KH XC hxl hf 4 90 4 1 rfl Vv
   have hz4:=qy hz hy4
   have hc4:=hcs 4 oq
   rw[Nat.zero_mul,Nat.add_zero,h4] at hc4
   have h41:(cs.drop 4).take 1=[Value.slice (some ⟨b',o',none⟩) args.len cap]:=by
    rw[List.take_one,List.head?_drop,←hc4];rfl
   rw[h41] at t4
   rcases DataW.trod_slice Tryz.underlying90 t4 with ⟨h,_⟩|⟨a0,len,cp,elems,rest,q,rfl,h,rfl,_,_,_,hl,hall,_⟩
   ·simp at h
   simp at h
   obtain⟨rfl,rfl,rfl⟩:=h
   rw[Qn] at hall hz4
   refine ih1 _ _ hd (fun i hi=>?_) (fun i hi=>?_)
   ·exact hz4 b' (o'+i*6) (List.mem_append_left _ (MemPlace.mem_row.2 ⟨i*6,oq,rfl⟩))
   have h1:=hall i hi
   rw[Ze oq] at h1
   obtain⟨cs',h2,h3⟩:=Option.bind_eq_some_iff.1 h1
   obtain⟨_,_,hcell⟩:=World.cells?_some h2
   refine⟨q,cs',_,fun j hj=>?_,h3,fun b o hm=>hz4 b o (List.mem_append_right _ (List.mem_flatMap.2 ⟨elems[i],List.mem_append_left _ (Zi _),hm⟩))⟩
   have:=hcell j hj
   rw[xE] at this;exact this
  ·have:=hfz (i+1) (by simp[PL.len];omega)
   rw[show o+6+i*6=o+(i+1)*6 by omega];exact this
  obtain⟨m,cs,y,hcs,hy,hz⟩:=hel (i+1) (by simp[PL.len];omega)
  exact⟨m,cs,y,fun j hj=>by rw[show o+6+i*6+j=o+(i+1)*6+j by omega];exact hcs j hj,hy,hz⟩
def NZ (w:World) (nodes:List ND) (an:Option Addr):Prop:=∀b o,an=some ⟨b,o,none⟩→∀i (h:i<nodes.length),∀b' o' cap,
 w.cell? ⟨b,o+i*10+7,none⟩=some (.slice (some ⟨b',o',none⟩) nodes[i].body.args.len cap)→NF w nodes[i].body.args b' o'
theorem ge {nodes:List ND} {an:Option Addr} {cn n:Nat} {x} (hr:Row Kk 10 w nodes an) (h:DataW.trod enc Tryz.prog w base sp held n 22 [.slice an nodes.length cn]=some x) (hz:w.noneFrozen x.2):NZ w nodes an:=by
 intro b o han i hi b' o' cap hc
 subst han
 obtain⟨b2,o2,e,hb,hnode⟩:=hr.at hi
 injection e with e;injection e with e1 e2
 subst e1;subst e2
 obtain⟨_,_,_,⟨ad,cap2,_,_,_,_,h4,_,hae⟩,_⟩:=hnode
 rw[show o+i*10+3+4=o+i*10+7 by omega,hc] at h4
 injection h4 with h4
 injection h4 with h4 _ h6
 subst h4;subst h6
 rcases hae.args with h0|⟨b3,o3,e,hb3,hac⟩
 ·rw[h0];trivial
 injection e with e;injection e with e1 e2
 subst e1;subst e2
 rcases DataW.trod_slice Tryz.underlying22 h with ⟨hcs0,_⟩|⟨a0,len,cp,elems,rest,q,rfl,hcs0,rfl,_,_,_,hl,hall,_⟩
 ·simp at hcs0
 simp only[List.cons.injEq,and_true,Value.slice.injEq,Option.some.injEq] at hcs0
 obtain⟨h01,h02,h03⟩:=hcs0
 subst h01
 subst h02
 rw[Eb] at hall hz
 have h1:=hall i hi
 rw[Ze oq] at h1
 obtain⟨cs',h2,h3⟩:=Option.bind_eq_some_iff.1 h1
 obtain⟨_,_,hcell⟩:=World.cells?_some h2
 have hz1:w.noneFrozen (elems[i]'oq).2:=fun b o hm=>hz b o (List.mem_append_right _ (List.mem_flatMap.2 ⟨elems[i],List.mem_append_left _ (Zi _),hm⟩))
 generalize elems[i]'oq=y at h3 hz1
 obtain⟨xs,m,rfl,rfl,hlen,hxl,hf⟩:=DataW.trod_struct K6 h3
 obtain⟨y3,hy3,t3⟩:=KH Qt hxl hf 3 92 3 6 rfl Qn
 have hz3:=qy hz1 hy3
 obtain⟨xs2,m2,rfl,rfl,hlen2,hxl2,hf2⟩:=DataW.trod_struct Vu t3
 obtain⟨y4,hy4,t4⟩:=KH XC hxl2 hf2 4 90 4 1 rfl Vv
 have hz4:=qy hz3 hy4
 have hc7:=hcell 7 oq
 rw[xE,hc] at hc7
 have h41:(((cs'.drop 3).take 6).drop 4).take 1=[Value.slice (some ⟨b',o',none⟩) nodes[i].body.args.len cap]:=by
  rw[List.take_one,List.head?_drop,Yl oq,List.getElem?_drop,←hc7];rfl
 rw[h41] at t4
 rcases DataW.trod_slice Tryz.underlying90 t4 with ⟨h,_⟩|⟨a0,len,cp,elems2,rest2,q2,rfl,h,rfl,_,_,_,hl2,hall2,_⟩
 ·simp at h
 simp at h
 obtain⟨rfl,rfl,rfl⟩:=h
 rw[Qn] at hall2 hz4
 refine Zbx (enc:=enc) (base:=base) (sp:=sp) (held:=held) _ _ _ hac (fun j hj=>?_) (fun j hj=>?_)
 ·exact hz4 b' (o'+j*6) (List.mem_append_left _ (MemPlace.mem_row.2 ⟨j*6,oq,rfl⟩))
 have h1:=hall2 j hj
 rw[Ze oq] at h1
 obtain⟨cs2,h2,h3⟩:=Option.bind_eq_some_iff.1 h1
 obtain⟨_,_,hcell⟩:=World.cells?_some h2
 refine⟨q2,cs2,_,fun i hi=>?_,h3,fun b o hm=>hz4 b o (List.mem_append_right _ (List.mem_flatMap.2 ⟨elems2[j],List.mem_append_left _ (Zi _),hm⟩))⟩
 have:=hcell i hi
 rw[xE] at this;exact this
end
theorem NZ.below {w w':World} {nodes:List ND} {an:Option Addr} (hr:Row Kk 10 w nodes an) (hb:Below w.heap.size w w') (h:NZ w nodes an):NZ w' nodes an:=by
 intro b o han i hi b' o' cap hc
 subst han
 obtain⟨b2,o2,e,hlt,hnode⟩:=hr.at hi
 injection e with e;injection e with e1 e2
 subst e1;subst e2
 obtain⟨_,_,_,⟨ad,cap2,_,_,_,_,h4,_,hae⟩,_⟩:=hnode
 have hc':=(hb.cell (p:=⟨b,o+i*10+7,none⟩) hlt).symm.trans hc
 have hn:=h b o rfl i hi b' o' cap hc'
 rw[show o+i*10+3+4=o+i*10+7 by omega,hc'] at h4
 injection h4 with h4
 injection h4 with h4 _ h6
 subst h4;subst h6
 rcases hae.args with h0|⟨b3,o3,e,hb3,hac⟩
 ·rw[h0];trivial
 injection e with e;injection e with e1 e2
 subst e1;subst e2
 exact hn.below hb _ _ _ hb3 hac
open Go.RowKit lex
theorem qL (c:UInt8) (w:World):Calls Tryz.prog 64 #[.int .u8 (c.toNat:Int)] w fun e w'=>e=.returned (.bool (zg c))∧w=w':=by
 unfold zg
 generalize (c.toNat:Int)=n
 by_cases h1:(97:Int)≤n
 ·by_cases h2:n≤122
  ·have E:=hid (show(decide ((97:Int)≤n)&&decide (n≤122))=true by simp;omega)
   go_enter Tryz.func64,Tryz.ntmps64
   go_wp2
   go_ret
   exact⟨by rw[E.out];first|rfl|(simp;omega),rfl⟩
  have E:=hid (show(decide ((97:Int)≤n)&&decide (n≤122))=false by simp;omega)
  have h2':122<n:=oq
  clear h2
  go_enter Tryz.func64,Tryz.ntmps64
  go_wp2
  go_ret
  exact⟨by rw[E.out];first|rfl|(simp;omega),rfl⟩
 have E:=hid (show(decide ((97:Int)≤n)&&decide (n≤122))=false by simp;omega)
 have h1':n<97:=oq
 clear h1
 go_enter Tryz.func64,Tryz.ntmps64
 go_wp2
 go_ret
 exact⟨by rw[E.out];first|rfl|(simp;omega),rfl⟩
theorem qJ (c:UInt8) (w:World):Calls Tryz.prog 65 #[.int .u8 (c.toNat:Int)] w fun e w'=>e=.returned (.bool (EO c))∧w=w':=by
 unfold EO
 generalize (c.toNat:Int)=n
 by_cases h1:(48:Int)≤n
 ·by_cases h2:n≤57
  ·have E:=hid (show(decide ((48:Int)≤n)&&decide (n≤57))=true by simp;omega)
   go_enter Tryz.func65,Tryz.ntmps65
   go_wp2
   go_ret
   exact⟨by rw[E.out];first|rfl|(simp;omega),rfl⟩
  have E:=hid (show(decide ((48:Int)≤n)&&decide (n≤57))=false by simp;omega)
  have h2':57<n:=oq
  clear h2
  go_enter Tryz.func65,Tryz.ntmps65
  go_wp2
  go_ret
  exact⟨by rw[E.out];first|rfl|(simp;omega),rfl⟩
 have E:=hid (show(decide ((48:Int)≤n)&&decide (n≤57))=false by simp;omega)
 have h1':n<48:=oq
 clear h1
 go_enter Tryz.func65,Tryz.ntmps65
 go_wp2
 go_ret
 exact⟨by rw[E.out];first|rfl|(simp;omega),rfl⟩
theorem Yz {a b:Bool} (h:a=b):Ending.returned (.bool a)=.returned (.bool b):=by rw[h]
def xD:Obj:=.cells #[.string ⟨#[110,111,100,101]⟩,.string ⟨#[98,117,100,103,101,116]⟩,.string ⟨#[105,110,112,117,116]⟩,.string ⟨#[112,101,114,105,111,100]⟩,.string ⟨#[112,104,97,115,101]⟩,.string ⟨#[102,108,111,119]⟩,.string ⟨#[102,98,121]⟩,.string ⟨#[116,97,105,108]⟩,.string ⟨#[111,117,116,112,117,116]⟩,.string ⟨#[100,101,97,100,108,105,110,101]⟩] 9
theorem ep (w:World) (j:Nat) (hj:j<10):(w.alloc xD).cell? ⟨w.heap.size,j,none⟩=some (.string (VH.getD j ByteArray.empty)):=by
 have hb:(w.alloc xD).heap[w.heap.size]?=some xD:=Yt w xD
 have hb':=hb
 unfold xD at hb'
 have hcw:=fun o=>Z5 _ w.heap.size o _ _ _ hb'
 unfold xD
 rw[hcw]
 match j,hj with
 | 0,_=>rfl
 | 1,_=>rfl
 | 2,_=>rfl
 | 3,_=>rfl
 | 4,_=>rfl
 | 5,_=>rfl
 | 6,_=>rfl
 | 7,_=>rfl
 | 8,_=>rfl
 | 9,_=>rfl
 | j+10,h=>omega
theorem QL (a b:ByteArray):(a.toList == b.toList)=decide (a=b):=by
 rw[Lib.toList_data,Lib.toList_data]
 obtain⟨⟨x⟩⟩:=a
 obtain⟨⟨y⟩⟩:=b
 by_cases h:x=y
 ·subst h;simp
 have:¬((⟨⟨x⟩⟩:ByteArray)=⟨⟨y⟩⟩):=by intro e;injection e with e;injection e with e;exact h e
 rw[ZX this];simpa using h
def Eu (s:ByteArray):Bool:=Lib.containsS VH s
theorem ej {s:ByteArray} {k:Nat} (hk:k<10) (h:VH.getD k ByteArray.empty=s):Eu s=true:=by
 refine(Lib.containsS_iff _ _).2 ?_
 rw[←h,Zf,Ze (show k<VH.length from hk),Z7]
 exact Zi _
theorem uA {s:ByteArray} (h:∀j,j<10→VH.getD j ByteArray.empty≠s):Eu s=false:=by
 cases hb:Eu s with
 | false=>rfl
 | true =>
  obtain⟨j,hj,he⟩:=Yj ((Lib.containsS_iff _ _).1 hb)
  refine(h j hj ?_).elim
  rw[Zf,Ze hj,Z7];exact he
theorem em (s:ByteArray) (w:World):Calls Tryz.prog 66 #[.string s] w fun e w'=>e=.returned (.bool (Eu s))∧Below w.heap.size w w':=by
 obtain⟨wb,hwb⟩:∃b,Eu s=b:=⟨_,rfl⟩
 rw[hwb]
 have HWB:=hid hwb
 clear hwb
 have HW:=hid (fun w=>lex.uB w)
 go_enter Tryz.func66,Tryz.ntmps66
 go_wp2_with (go_at_call 111;(with_reducible refine(HW.out _).mono ?_);rintro e w1 ⟨rfl,rfl⟩)
 go_loop [4] (fun i=>∃k:Nat,k≤10∧i=.int .i64 (k:Int)∧Hid (∀j,j<k→VH.getD j ByteArray.empty≠s)) (fun i=>10-(intOf i).toNat)
 case atStart=>exact⟨0,oq,rfl,fun j hj=>oq⟩
 obtain⟨k,hk,rfl,hno⟩:=hrel
 by_cases hlt:k<10
 ·have hcell:=ep w k hlt
  unfold xD at hcell
  obtain⟨x,hx⟩:∃x,VH.getD k ByteArray.empty=x:=⟨_,rfl⟩
  rw[hx] at hcell
  have hb:=QL x s
  have HX:=hid hx
  clear hx
  by_cases he:x=s
  ·rw[ZY he] at hb
   have HE:=hid he
   clear he
   go_wp2
   go_ret
   exact⟨Yz (by rw[←HWB.out,ej hlt (HX.out.trans HE.out)]),bq⟩
  rw[ZX he] at hb
  have HE:=hid he
  clear he
  go_wp2
  go_round
  case rel=>exact⟨k+1,oq,by go_num,fun j hj=>by by_cases h:j<k;(· exact hno.out j h);(· obtain rfl:j=k:=oq;rw[HX.out];exact HE.out)⟩
  simp[intOf];omega
 go_wp2
 go_ret
 exact⟨Yz (by rw[←HWB.out,uA (fun j hj=>hno.out j oq)]),bq⟩
def okB (first:Bool) (c:UInt8):Bool:=zg c||(!first&&(EO c||(c.toNat:Int) == 95))
def okL:Bool→List UInt8→Bool
 | _,[]=>true
 | first,c::l=>okB first c&&okL false l
def Xp (s:ByteArray):Bool:=okL true s.data.toList&&!s.data.toList.isEmpty&&decide (s.size≤100)&&!Eu s
theorem drop_byte {s:ByteArray} {k:Nat} (h:k<s.size):s.data.toList.drop k=s[k]::s.data.toList.drop (k+1):=by
 rw[ZM (by simpa using h)];rfl
theorem G9 {s:ByteArray} (h:okL true s.data.toList=false):Xp s=false:=by unfold Xp;rw[h];rfl
theorem XJ (s:ByteArray) (w:World) (hs:s.size≤9223372036854775807):Calls Tryz.prog 30 #[.string s] w fun e w'=>e=.returned (.bool (Xp s))∧Below w.heap.size w w':=by
 obtain⟨nb,hnb⟩:∃b,Xp s=b:=⟨_,rfl⟩
 rw[hnb]
 have HNB:=hid hnb
 clear hnb
 go_enter Tryz.func30,Tryz.ntmps30
 go_wp2
 go_loop [3] (fun i=>∃k:Nat,k≤s.size∧i=.int .i64 (k:Int)∧Hid (okL true s.data.toList=okL (decide (k=0)) (s.data.toList.drop k))) (fun i=>s.size-(intOf i).toNat)
 case atStart=>exact⟨0,oq,rfl,rfl⟩
 obtain⟨k,hk,rfl,hok⟩:=hrel
 by_cases hlt:k<s.size
 ·have HD:=hid (drop_byte hlt)
  have HS:=hid (fun w=>qL s[k] w)
  have HG:=hid (fun w=>qJ s[k] w)
  have HOK:=hid hok.out
  clear hok
  have hOK:=HOK.out
  rw[HD.out,okL] at hOK
  cases h1:zg s[k] with
  | true =>
   rw[h1] at HS
   have HN:=hid (show okL true s.data.toList=okL (decide (k+1=0)) (s.data.toList.drop (k+1)) by rw[hOK];unfold okB;rw[h1];simp)
   clear hOK h1
   go_wp2_with (first|(go_at_call 64;with_reducible refine(HS.out _).mono ?_;rintro e w' ⟨rfl,rfl⟩))
   go_round
   case rel=>exact⟨k+1,oq,by go_num,HN.out⟩
   simp[intOf];omega
  | false =>
   rw[h1] at HS
   by_cases h0:k=0
   ·have HN:=hid (show okL true s.data.toList=false by rw[hOK];unfold okB;rw[h1,ZY h0];simp)
    have hk0:((k:Int) == 0)=true:=by rw[beq_iff_eq];omega
    clear hOK h1 h0
    go_wp2_with (first|(go_at_call 64;with_reducible refine(HS.out _).mono ?_;rintro e w' ⟨rfl,rfl⟩))
    go_ret
    exact⟨Yz (by rw[←HNB.out,G9 HN.out]),bq⟩
   have hk0:((k:Int) == 0)=false:=by rw[ZW];omega
   cases h2:EO s[k] with
   | true =>
    rw[h2] at HG
    have HN:=hid (show okL true s.data.toList=okL (decide (k+1=0)) (s.data.toList.drop (k+1)) by rw[hOK];unfold okB;rw[h1,h2,ZX h0];simp)
    clear hOK h1 h2
    go_wp2_with (first|(go_at_call 64;with_reducible refine(HS.out _).mono ?_;rintro e w' ⟨rfl,rfl⟩)|(go_at_call 65;with_reducible refine(HG.out _).mono ?_;rintro e w' ⟨rfl,rfl⟩))
    go_round
    case rel=>exact⟨k+1,oq,by go_num,HN.out⟩
    simp[intOf];omega
   | false =>
    rw[h2] at HG
    by_cases h3:(s[k].toNat:Int)=95
    ·have h3':((s[k].toNat:Int) == 95)=true:=by rw[beq_iff_eq];exact h3
     have h4':((s[k].toNat:Int) != 95)=false:=by rw[bne,h3'];rfl
     have HN:=hid (show okL true s.data.toList=okL (decide (k+1=0)) (s.data.toList.drop (k+1)) by rw[hOK];unfold okB;rw[h1,h2,h3',ZX h0];simp)
     clear hOK h1 h2 h3
     go_wp2_with (first|(go_at_call 64;with_reducible refine(HS.out _).mono ?_;rintro e w' ⟨rfl,rfl⟩)|(go_at_call 65;with_reducible refine(HG.out _).mono ?_;rintro e w' ⟨rfl,rfl⟩))
     go_round
     case rel=>exact⟨k+1,oq,by go_num,HN.out⟩
     simp[intOf];omega
    have h3':((s[k].toNat:Int) == 95)=false:=by rw[ZW];exact h3
    have h4':((s[k].toNat:Int) != 95)=true:=by rw[bne,h3'];rfl
    have HN:=hid (show okL true s.data.toList=false by rw[hOK];unfold okB;rw[h1,h2,h3',ZX h0];simp)
    clear hOK h1 h2 h3
    go_wp2_with (first|(go_at_call 64;with_reducible refine(HS.out _).mono ?_;rintro e w' ⟨rfl,rfl⟩)|(go_at_call 65;with_reducible refine(HG.out _).mono ?_;rintro e w' ⟨rfl,rfl⟩))
    go_ret
    exact⟨Yz (by rw[←HNB.out,G9 HN.out]),bq⟩
 have hke:k=s.size:=oq
 have hok1:okL true s.data.toList=true:=by
  rw[hok.out,List.drop_eq_nil_of_le (by simp[hke])];rfl
 have HWd:=hid (fun w=>em s w)
 have HOK:=hid hok1
 clear hok hok1
 by_cases he:s.data.toList=[]
 ·have he1:s.toList=[]:=by rw[Lib.toList_data];exact he
  have he2:(!s.toList.isEmpty)=false:=by rw[he1];rfl
  have HE:=hid he
  clear he
  go_wp2_with (first|(go_at_call 66;with_reducible refine(HWd.out _).mono ?_;rintro e w1 ⟨rfl,hb1⟩))
  go_ret
  exact⟨Yz (by rw[←HNB.out];unfold Xp;rw[HE.out];simp),bq⟩
 have he1:s.toList.isEmpty=false:=by rw[Lib.toList_data];simpa using he
 have he2:¬s.toList=[]:=by rw[Lib.toList_data];exact he
 have he3:s.data.toList.isEmpty=false:=by simpa using he
 have HE:=hid he3
 clear he he3
 by_cases h100:s.size≤100
 ·have h100':(s.size:Int)≤100:=oq
  go_wp2_with (first|(go_at_call 66;with_reducible refine(HWd.out _).mono ?_;rintro e w1 ⟨rfl,hb1⟩))
  go_ret
  exact⟨Yz (by rw[←HNB.out];unfold Xp;rw[HOK.out,HE.out,ZY h100];simp),bq⟩
 have h100':(100:Int)<(s.size:Int):=oq
 go_wp2_with (first|(go_at_call 66;with_reducible refine(HWd.out _).mono ?_;rintro e w1 ⟨rfl,hb1⟩))
 go_ret
 exact⟨Yz (by rw[←HNB.out];unfold Xp;rw[ZX h100];simp),bq⟩
theorem Kc {k:IntKind} {a b:Int} (h:a=b):Ending.returned (.int k a)=.returned (.int k b):=by rw[h]
def inB (n lo hi:Int):Bool:=decide (lo≤n)&&decide (n≤hi)
theorem Xq (n lo hi:Int) (w:World):Calls Tryz.prog 31 #[.int .i64 n,.int .i64 lo,.int .i64 hi] w fun e w'=>e=.returned (.bool (inB n lo hi))∧w=w':=by
 unfold inB
 by_cases h1:lo≤n
 ·by_cases h2:n≤hi
  ·have E:=hid (show(decide (lo≤n)&&decide (n≤hi))=true by simp;omega)
   go_enter Tryz.func31,Tryz.ntmps31
   go_wp2
   go_ret
   exact⟨Yz (by rw[E.out]),rfl⟩
  have E:=hid (show(decide (lo≤n)&&decide (n≤hi))=false by simp;omega)
  have h2':hi<n:=oq
  have h3:decide (n≤hi)=false:=by simpa using h2'
  clear h2
  go_enter Tryz.func31,Tryz.ntmps31
  go_wp2
  go_ret
  exact⟨Yz (by rw[E.out]),rfl⟩
 have E:=hid (show(decide (lo≤n)&&decide (n≤hi))=false by simp;omega)
 have h1':n<lo:=oq
 have h3:decide (lo≤n)=false:=by simpa using h1'
 clear h1
 go_enter Tryz.func31,Tryz.ntmps31
 go_wp2
 go_ret
 exact⟨Yz (by rw[E.out]),rfl⟩
def szL:PL→Int→Int→Int
 | .nil,n,_=>n
 | .cons _ _ _ _ args _ tl,n,most=>if n≤most then szL tl (n+szL args 1 (most-n)) most else n
theorem Gw:∀(l:PL) (n most:Int),1≤n→n≤most+1→n≤szL l n most∧szL l n most≤most+1:=by
 intro l
 induction l with
 | nil=>intro n most h1 h2;exact⟨Int.le_refl _,h2⟩
 | cons k nm n' d args a tl ih1 ih2 =>
  intro n most h1 h2
  rw[szL]
  split
  ·rename_i h
   have h3:=ih1 1 (most-n) oq oq
   have h4:=ih2 (n+szL args 1 (most-n)) most oq oq
   omega
  omega
def ev (e:PE) (ad:Option Addr) (cap:Nat):Value:=.agg #[.int .i64 e.k,.string e.nm,.int .i64 e.n,.int .i64 e.d,.slice ad e.args.len cap,.int .i64 e.a]
def VM (e:PE):Prop:=∀(w:World) (ad:Option Addr) (cap:Nat) (most:Int),AE w e ad cap→0≤most→most≤1000 →
 Calls Tryz.prog 32 #[ev e ad cap,.int .i64 most] w fun x w'=>x=.returned (.int .i64 (szL e.args 1 most))∧Below w.heap.size w w'
def Rest (wr:World) (ad:Option Addr) (l rest:PL) (i:Nat):Prop :=
 i+rest.len=l.len∧rest.sz≤l.sz∧(rest=.nil∨∃b o,ad=some ⟨b,o,none⟩∧b<wr.heap.size∧AC wr rest b (o+i*6))
theorem Rest.start {w:World} {ad:Option Addr} {l:PL} (h:AS w l ad):Rest w ad l l 0:=by
 refine⟨oq,Zc _,?_⟩
 rcases h with h|⟨b,o,e,hb,h⟩
 ·exact .inl h
 exact .inr ⟨b,o,e,hb,by simpa using h⟩
theorem Rest.below {w w':World} {ad:Option Addr} {l rest:PL} {i:Nat} (h:Rest w ad l rest i) (hb:Below w.heap.size w w'):Rest w' ad l rest i:=by
 obtain⟨h1,h2,h3⟩:=h
 refine⟨h1,h2,?_⟩
 rcases h3 with h3|⟨b,o,e,hlt,h3⟩
 ·exact .inl h3
 exact .inr ⟨b,o,e,Zd hlt hb.size,h3.below hb _ _ _ hlt⟩
theorem Rest.tail {w:World} {ad:Option Addr} {l tl args:PL} {k n d a:Int} {nm:ByteArray} {i:Nat} (h:Rest w ad l (.cons k nm n d args a tl) i):Rest w ad l tl (i+1):=by
 obtain⟨h1,h2,h3⟩:=h
 refine⟨by simp only[PL.len] at h1;omega,by simp only[PL.sz] at h2;omega,?_⟩
 rcases h3 with h3|⟨b,o,e,hlt,h3⟩
 ·cases h3
 obtain⟨_,_,_,_,_,_,_,ht⟩:=h3
 exact .inr ⟨b,o,e,hlt,by rw[show o+(i+1)*6=o+i*6+6 by omega];exact ht⟩
def Zco (w:World) (e:PE) (ad:Option Addr) (cap:Nat) (most:Int) (v5 v6:Value) (wr:World):Prop :=
 ∃(i:Nat) (n:Int) (rest:PL),v6=.int .i64 (i:Int)∧v5=.int .i64 n∧Rest wr ad e.args rest i∧1≤n∧n≤most+1∧szL rest n most=szL e.args 1 most ∧
  wr.heap[w.heap.size]?=some (.cells #[.int .i64 e.k,.string e.nm,.int .i64 e.n,.int .i64 e.d,.slice ad e.args.len cap,.int .i64 e.a] 92 (0,0))∧Below w.heap.size w wr
theorem uh (e:PE) (ih:∀e':PE,e'.args.sz<e.args.sz→VM e'):VM e:=by
 intro w ad cap most hae hm1 hm2
 obtain⟨k,nm,n,d,args,a⟩:=e
 have hlen:=hae.len
 simp only at hlen
 have HAE:=hid hae
 have HIH:=hid ih
 clear hae ih
 unfold ev
 simp only
 obtain⟨fin,hfin⟩:∃fin,szL args 1 most=fin:=⟨_,rfl⟩
 rw[hfin]
 have HF:=hid hfin
 clear hfin
 go_enter Tryz.func32,Tryz.ntmps32
 go_wp2
 go_loopw [5,6] (fun v5 v6 wr=>Hid (Zco w ⟨k,nm,n,d,args,a⟩ ad cap most v5 v6 wr)) (fun _ i _=>args.len-(intOf i).toNat)
 case atStart=>exact⟨0,1,args,rfl,rfl,(Rest.start HAE.out.args).below bq,oq,oq,rfl,Yt w _,bq⟩
 obtain⟨i,c,rest,rfl,rfl,hrest,hc1,hc2,hsz,hbox,hbel⟩:=hrel.out
 clear hrel
 obtain⟨⟨x0,x1,x2,x3,x4,x5⟩,xf⟩:=Y0 hbox
 have HBOX:=hid hbox
 have HBEL:=hid hbel
 have hil:=hrest.1
 simp only at hil
 have hbl:=Zb hbox
 have HR:=hid hrest
 have HSZ:=hid hsz
 clear hbox hbel hrest hsz
 cases rest with
 | nil =>
  have hil':(i:Int)=(args.len:Int):=by simp only[PL.len] at hil;omega
  go_wp2
  go_ret
  exact⟨Kc (by rw[←HF.out,←HSZ.out];rfl),HBEL.out⟩
 | cons k1 nm1 n1 d1 args1 a1 tl =>
  have hil':(i:Int)<(args.len:Int):=by simp only[PL.len] at hil;omega
  by_cases hcm:c≤most
  ·obtain⟨b,o,rfl,hb,h0,h1,h2,h3,h5,hn,⟨ad1,cap1,h4,hcap1,hcm1,hd1⟩,ht⟩:=HR.out.2.2.resolve_left (by intro h;cases h)
   have hsub:=HR.out.2.1
   simp only[PL.sz] at hsub
   have HC:=hid (HIH.out ⟨k1,nm1,n1,d1,args1,a1⟩ (by show args1.sz<args.sz;omega) wr ad1 cap1 (most-c) ⟨hn,⟨hcap1,hcm1⟩,hd1⟩ oq oq)
   have hbd:=Gw args1 1 (most-c) oq oq
   have hs2:=HSZ.out
   rw[szL,Z0 hcm] at hs2
   have HS2:=hid hs2
   obtain⟨m2,hm2'⟩:∃m2,szL args1 1 (most-c)=m2:=⟨_,rfl⟩
   unfold ev at HC
   simp only[hm2'] at HC
   rw[hm2'] at hbd
   have HM2:=hid hm2'
   clear hs2 hm2' ht hn hd1
   go_wp2_with (go_at_call 32;refine HC.out.mono ?_;rintro e w2 ⟨rfl,hb2⟩)
   go_roundw
   case rel =>
    refine⟨i+1,c+m2,tl,by go_num,rfl,HR.out.tail.below hb2,oq,oq,by rw[←HM2.out];exact HS2.out,?_,bq⟩
    exact(hb2.block _ hbl).trans HBOX.out
   simp[intOf];omega
  have hcm':most<c:=oq
  have hcd:decide (c≤most)=false:=by simpa using hcm'
  go_wp2
  go_ret
  exact⟨Kc (by rw[←HF.out,←HSZ.out,szL,ZZ oq]),HBEL.out⟩
theorem Gq (e:PE):VM e:=by
 suffices h:∀(N:Nat) (e:PE),e.args.sz<N→VM e from h _ e (ZU _)
 intro N
 induction N with
 | zero=>intro e h;omega
 | succ N ih=>intro e h;exact uh e (fun e' h'=>ih e' oq)
def dpR:PL→Nat→Int→Int
 | .nil,_,acc=>acc
 | .cons _ _ _ _ args _ tl,m,acc=>dpR tl m (max acc (match m with|0=>0|m+1=>dpR args m 0+1))
def dpE (e:PE) (most:Nat):Int:=match most with|0=>0|m+1=>dpR e.args m 0+1
theorem ke:∀(l:PL) (m:Nat) (acc:Int),0≤acc→acc≤m→0≤dpR l m acc∧dpR l m acc≤m:=by
 intro l
 induction l with
 | nil=>intro m acc h1 h2;exact⟨h1,h2⟩
 | cons k nm n d args a tl ih1 ih2 =>
  intro m acc h1 h2
  match m with
  | 0 =>
   rw[dpR]
   exact ih2 0 _ oq oq
  | m+1 =>
   have h3:=ih1 m 0 oq oq
   rw[dpR]
   exact ih2 (m+1) _ oq oq
theorem qb (e:PE) (m:Nat):0≤dpE e m∧dpE e m≤m:=by
 match m with
 | 0=>simp[dpE]
 | m+1=>have:=ke e.args m 0 oq oq;simp only[dpE];omega
def U3 (e:PE):Prop:=∀(w:World) (ad:Option Addr) (cap:Nat) (most:Nat),AE w e ad cap→most≤1000 →
 Calls Tryz.prog 33 #[ev e ad cap,.int .i64 (most:Int)] w fun x w'=>x=.returned (.int .i64 (dpE e most))∧Below w.heap.size w w'
def Zb8 (w:World) (e:PE) (ad:Option Addr) (cap:Nat) (m:Nat) (v5 v6:Value) (wr:World):Prop :=
 ∃(i:Nat) (n:Int) (rest:PL),v6=.int .i64 (i:Int)∧v5=.int .i64 n∧Rest wr ad e.args rest i∧0≤n∧n≤m∧dpR rest m n=dpR e.args m 0 ∧
  wr.heap[w.heap.size]?=some (.cells #[.int .i64 e.k,.string e.nm,.int .i64 e.n,.int .i64 e.d,.slice ad e.args.len cap,.int .i64 e.a] 92 (0,0))∧Below w.heap.size w wr
theorem uZ (e:PE) (ih:∀e':PE,e'.args.sz<e.args.sz→U3 e'):U3 e:=by
 intro w ad cap most hae hm
 obtain⟨k,nm,n,d,args,a⟩:=e
 have hlen:=hae.len
 simp only at hlen
 have HAE:=hid hae
 have HIH:=hid ih
 clear hae ih
 unfold ev
 simp only
 match most,hm with
 | 0,_ =>
  show Calls _ _ #[_,.int .i64 0] _ _
  go_enter Tryz.func33,Tryz.ntmps33
  go_wp2
  go_ret
  exact⟨rfl,bq⟩
 | m+1,hm =>
  obtain⟨fin,hfin⟩:∃fin,dpR args m 0=fin:=⟨_,rfl⟩
  have hfb:=ke args m 0 oq oq
  rw[hfin] at hfb
  have HG:=hid (show dpE ⟨k,nm,n,d,args,a⟩ (m+1)=fin+1 by rw[←hfin];rfl)
  have HF:=hid hfin
  have hm0:(((m+1:Nat):Int) == 0)=false:=by rw[ZW];omega
  have hm1:(((m+1:Nat):Int))=(m:Int)+1:=oq
  rw[hm1] at hm0
  rw[hm1]
  clear hfin
  go_enter Tryz.func33,Tryz.ntmps33
  go_wp2
  go_loopw [5,6] (fun v5 v6 wr=>Hid (Zb8 w ⟨k,nm,n,d,args,a⟩ ad cap m v5 v6 wr)) (fun _ i _=>args.len-(intOf i).toNat)
  case atStart=>exact⟨0,0,args,rfl,rfl,(Rest.start HAE.out.args).below bq,oq,oq,rfl,Yt w _,bq⟩
  obtain⟨i,c,rest,rfl,rfl,hrest,hc1,hc2,hsz,hbox,hbel⟩:=hrel.out
  clear hrel
  obtain⟨⟨x0,x1,x2,x3,x4,x5⟩,xf⟩:=Y0 hbox
  have HBOX:=hid hbox
  have HBEL:=hid hbel
  have hil:=hrest.1
  simp only at hil
  have hbl:=Zb hbox
  have HR:=hid hrest
  have HSZ:=hid hsz
  clear hbox hbel hrest hsz
  cases rest with
  | nil =>
   have hil':(i:Int)=(args.len:Int):=by simp only[PL.len] at hil;omega
   go_wp2
   go_ret
   exact⟨Kc (by rw[HG.out,←HF.out,←HSZ.out];rfl),HBEL.out⟩
  | cons k1 nm1 n1 d1 args1 a1 tl =>
   have hil':(i:Int)<(args.len:Int):=by simp only[PL.len] at hil;omega
   obtain⟨b,o,rfl,hb,h0,h1,h2,h3,h5,hn,⟨ad1,cap1,h4,hcap1,hcm1,hd1⟩,ht⟩:=HR.out.2.2.resolve_left (by intro h;cases h)
   have hsub:=HR.out.2.1
   simp only[PL.sz] at hsub
   have HC:=hid (HIH.out ⟨k1,nm1,n1,d1,args1,a1⟩ (by show args1.sz<args.sz;omega) wr ad1 cap1 m ⟨hn,⟨hcap1,hcm1⟩,hd1⟩ oq)
   have hbd:=qb ⟨k1,nm1,n1,d1,args1,a1⟩ m
   obtain⟨m2,hm2'⟩:∃m2,dpE ⟨k1,nm1,n1,d1,args1,a1⟩ m=m2:=⟨_,rfl⟩
   unfold ev at HC
   simp only[hm2'] at HC
   rw[hm2'] at hbd
   have HS2:=hid (show dpR tl m (max c m2)=dpR args m 0 from by rw[←hm2'];exact HSZ.out)
   clear hm2' ht hn hd1
   go_wp2_with (go_at_call 33;refine HC.out.mono ?_;rintro e w2 ⟨rfl,hb2⟩)
   go_roundw
   case rel =>
    refine⟨i+1,max c m2,tl,by go_num,(by first|rfl|(refine Z1 (Value.int IntKind.i64) ?_;split<;>omega)),HR.out.tail.below hb2,oq,oq,HS2.out,?_,bq⟩
    exact(hb2.block _ hbl).trans HBOX.out
   simp[intOf];omega
theorem jr (e:PE):U3 e:=by
 suffices h:∀(N:Nat) (e:PE),e.args.sz<N→U3 e from h _ e (ZU _)
 intro N
 induction N with
 | zero=>intro e h;omega
 | succ N ih=>intro e h;exact uZ e (fun e' h'=>ih e' oq)
def GF:List ByteArray:=[⟨#[43]⟩,⟨#[45]⟩,⟨#[42]⟩,⟨#[47]⟩,⟨#[37]⟩,⟨#[60]⟩,⟨#[61,61]⟩]
def ue:ByteArray:=⟨#[63]⟩
theorem Zbh {s:ByteArray} (h:s≠ue):(s.toList == [63])=false:=by
 have:=QL s ue
 rw[ZX h,Lib.toList_data ue] at this
 exact this
def bdE (k n d:Int) (nm:ByteArray) (len:Nat):Bool :=
 if d≠0 then false
 else if k=11 then Xp nm&&decide (len=0)&&decide (n=0)
 else if k=12 then decide (nm=⟨#[]⟩)&&decide (len=0)&&inB n 0 1000000000
 else if k≠13∨n≠0 then false
 else if nm=ue then decide (len=3)
 else if Lib.containsS GF nm=true then decide (len=2) else false
def bdR:PL→Bool
 | .nil=>true
 | .cons k nm n d args _ tl=>(bdR args&&bdE k n d nm args.len)&&bdR tl
def JG (e:PE):Bool:=bdR e.args&&bdE e.k e.n e.d e.nm e.args.len
def VK (e:PE):Prop:=∀(w:World) (ad:Option Addr) (cap:Nat),AE w e ad cap →
 Calls Tryz.prog 34 #[ev e ad cap] w fun x w'=>x=.returned (.bool (JG e))∧Below w.heap.size w w'
def Zb5 (w:World) (e:PE) (ad:Option Addr) (cap:Nat) (v3:Value) (wr:World):Prop :=
 ∃(i:Nat) (rest:PL),v3=.int .i64 (i:Int)∧Rest wr ad e.args rest i∧bdR rest=bdR e.args ∧
  wr.heap[w.heap.size]?=some (.cells #[.int .i64 e.k,.string e.nm,.int .i64 e.n,.int .i64 e.d,.slice ad e.args.len cap,.int .i64 e.a] 92 (0,0))∧Below w.heap.size w wr
theorem ZcI (w:World) (j:Nat) (hj:j<7):(w.alloc (Obj.cells #[.string ⟨#[43]⟩,.string ⟨#[45]⟩,.string ⟨#[42]⟩,.string ⟨#[47]⟩,.string ⟨#[37]⟩,.string ⟨#[60]⟩,.string ⟨#[61,61]⟩] 9)).cell? ⟨w.heap.size,j,none⟩=some (.string (GF.getD j ByteArray.empty)):=by
 have hb':=Yt w (Obj.cells #[.string ⟨#[43]⟩,.string ⟨#[45]⟩,.string ⟨#[42]⟩,.string ⟨#[47]⟩,.string ⟨#[37]⟩,.string ⟨#[60]⟩,.string ⟨#[61,61]⟩] 9)
 have hcw:=fun o=>Z5 _ w.heap.size o _ _ _ hb'
 rw[hcw]
 match j,hj with
 | 0,_=>rfl
 | 1,_=>rfl
 | 2,_=>rfl
 | 3,_=>rfl
 | 4,_=>rfl
 | 5,_=>rfl
 | 6,_=>rfl
 | j+7,h=>omega
theorem Zan {s:ByteArray} {k:Nat} (hk:k<7) (h:GF.getD k ByteArray.empty=s):Lib.containsS GF s=true:=by
 refine(Lib.containsS_iff _ _).2 ?_
 rw[←h,Zf,Ze (show k<GF.length from hk),Z7]
 exact Zi _
theorem ZbC {s:ByteArray} (h:∀j,j<7→GF.getD j ByteArray.empty≠s):Lib.containsS GF s=false:=by
 cases hb:Lib.containsS GF s with
 | false=>rfl
 | true =>
  obtain⟨j,hj,he⟩:=Yj ((Lib.containsS_iff _ _).1 hb)
  refine(h j hj ?_).elim
  rw[Zf,Ze hj,Z7];exact he
def Zck (W:World) (nm:ByteArray) (v5:Value) (wr:World):Prop :=
 ∃j:Nat,j≤7∧v5=.int .i64 (j:Int)∧(∀i,i<j→GF.getD i ByteArray.empty≠nm)∧Below W.heap.size W wr
theorem j4 (e:PE) (ih:∀e':PE,e'.args.sz<e.args.sz→VK e'):VK e:=by
 intro w ad cap hae
 obtain⟨k,nm,n,d,args,a⟩:=e
 have hlen:=hae.len
 have hnm:=hae.nums.2.2.2.2
 simp only at hlen hnm
 have HAE:=hid hae
 have HIH:=hid ih
 clear hae ih
 unfold ev
 simp only
 obtain⟨fin,hfin⟩:∃fin,JG ⟨k,nm,n,d,args,a⟩=fin:=⟨_,rfl⟩
 rw[hfin]
 have HF:=hid (show(bdR args&&bdE k n d nm args.len)=fin from hfin)
 clear hfin
 go_enter Tryz.func34,Tryz.ntmps34
 go_wp2
 go_loopw [3] (fun v3 wr=>Hid (Zb5 w ⟨k,nm,n,d,args,a⟩ ad cap v3 wr)) (fun i _=>args.len-(intOf i).toNat)
 case atStart=>exact⟨0,args,rfl,(Rest.start HAE.out.args).below bq,rfl,Yt w _,bq⟩
 obtain⟨i,rest,rfl,hrest,hsz,hbox,hbel⟩:=hrel.out
 clear hrel
 obtain⟨⟨x0,x1,x2,x3,x4,x5⟩,xf⟩:=Y0 hbox
 have HBOX:=hid hbox
 have HBEL:=hid hbel
 have hil:=hrest.1
 simp only at hil
 have hbl:=Zb hbox
 have hsB:=hbel.size
 have HR:=hid hrest
 clear hbox hbel hrest
 cases rest with
 | cons k1 nm1 n1 d1 args1 a1 tl =>
  have HSZ:=hid hsz
  clear hsz
  have hil':(i:Int)<(args.len:Int):=by simp only[PL.len] at hil;omega
  obtain⟨b,o,rfl,hb,h0,h1,h2,h3,h5,hn,⟨ad1,cap1,h4,hcap1,hcm1,hd1⟩,ht⟩:=HR.out.2.2.resolve_left (by intro h;cases h)
  have hsub:=HR.out.2.1
  simp only[PL.sz] at hsub
  have HC:=hid (HIH.out ⟨k1,nm1,n1,d1,args1,a1⟩ (by show args1.sz<args.sz;omega) wr ad1 cap1 ⟨hn,⟨hcap1,hcm1⟩,hd1⟩)
  unfold ev at HC
  simp only at HC
  cases hbb:JG ⟨k1,nm1,n1,d1,args1,a1⟩ with
  | true =>
   rw[hbb] at HC
   have HS2:=hid (show bdR tl=bdR args from by
    have h:=HSZ.out
    rw[bdR,show(bdR args1&&bdE k1 n1 d1 nm1 args1.len)=true from hbb,Bool.true_and] at h
    exact h)
   clear hbb ht hn hd1
   go_wp2_with (go_at_call 34;refine HC.out.mono ?_;rintro e w2 ⟨rfl,hb2⟩)
   go_roundw
   case rel=>exact⟨i+1,tl,by go_num,HR.out.tail.below hb2,HS2.out,(hb2.block _ hbl).trans HBOX.out,bq⟩
   simp[intOf];omega
  | false =>
   rw[hbb] at HC
   have HS2:=hid (show bdR args=false from by
    have h:=HSZ.out
    rw[bdR,show(bdR args1&&bdE k1 n1 d1 nm1 args1.len)=false from hbb,Bool.false_and] at h
    exact h.symm)
   clear hbb ht hn hd1
   go_wp2_with (go_at_call 34;refine HC.out.mono ?_;rintro e w2 ⟨rfl,hb2⟩)
   go_ret
   exact⟨Yz (by rw[←HF.out,HS2.out];rfl),bq⟩
 | nil =>
  have hil':(i:Int)=(args.len:Int):=by simp only[PL.len] at hil;omega
  have HSZ:=hid (show true=bdR args from hsz)
  have HRI:=hid (fun w=>XJ nm w hnm)
  have HNU:=hid (fun w=>Xq n 0 1000000000 w)
  clear hsz hil
  by_cases hd:d=0
  ·subst hd
   by_cases hk1:k=11
   ·subst hk1
    cases hno:Xp nm with
    | false =>
     rw[hno] at HRI
     go_wp2_with (first|(go_at_call 30;refine(HRI.out _).mono ?_;rintro e w2 ⟨rfl,hb2⟩;obtain⟨hc2,hf2⟩:=Yx hb2)|(go_at_call 31;refine(HNU.out _).mono ?_;rintro e w2 ⟨rfl,rfl⟩))
     all_goals (go_ret;exact⟨Yz (by rw[←HF.out,←HSZ.out];simp[bdE,hno]),bq⟩)
    | true =>
     rw[hno] at HRI
     by_cases hl0:args.len=0
     ·have hl1:((args.len:Int) == 0)=true:=by rw[beq_iff_eq];omega
      have HL:=hid hl0
      clear hl0
      by_cases hn0:n=0
      ·subst hn0
       go_wp2_with (first|(go_at_call 30;refine(HRI.out _).mono ?_;rintro e w2 ⟨rfl,hb2⟩;obtain⟨hc2,hf2⟩:=Yx hb2)|(go_at_call 31;refine(HNU.out _).mono ?_;rintro e w2 ⟨rfl,rfl⟩))
       all_goals (go_ret;exact⟨Yz (by rw[←HF.out,←HSZ.out];simp[bdE,hno,HL.out]),bq⟩)
      have hn1:(n == 0)=false:=ZW.2 hn0
      go_wp2_with (first|(go_at_call 30;refine(HRI.out _).mono ?_;rintro e w2 ⟨rfl,hb2⟩;obtain⟨hc2,hf2⟩:=Yx hb2)|(go_at_call 31;refine(HNU.out _).mono ?_;rintro e w2 ⟨rfl,rfl⟩))
      all_goals (go_ret;exact⟨Yz (by rw[←HF.out,←HSZ.out];simp[bdE,hno,hn0]),bq⟩)
     have hl1:((args.len:Int) == 0)=false:=by rw[ZW];omega
     have HL:=hid hl0
     clear hl0
     go_wp2_with (first|(go_at_call 30;refine(HRI.out _).mono ?_;rintro e w2 ⟨rfl,hb2⟩;obtain⟨hc2,hf2⟩:=Yx hb2)|(go_at_call 31;refine(HNU.out _).mono ?_;rintro e w2 ⟨rfl,rfl⟩))
     all_goals (go_ret;exact⟨Yz (by rw[←HF.out,←HSZ.out];simp[bdE,hno,HL.out]),bq⟩)
   have hk1':(k == 11)=false:=ZW.2 hk1
   by_cases hk2:k=12
   ·subst hk2
    by_cases he:nm=⟨#[]⟩
    ·subst he
     by_cases hl0:args.len=0
     ·have hl1:((args.len:Int) == 0)=true:=by rw[beq_iff_eq];omega
      have HL:=hid hl0
      clear hl0
      go_wp2_with (first|(go_at_call 30;refine(HRI.out _).mono ?_;rintro e w2 ⟨rfl,hb2⟩;obtain⟨hc2,hf2⟩:=Yx hb2)|(go_at_call 31;refine(HNU.out _).mono ?_;rintro e w2 ⟨rfl,rfl⟩))
      all_goals (go_ret;exact⟨Yz (by rw[←HF.out,←HSZ.out];simp[bdE,HL.out]),bq⟩)
     have hl1:((args.len:Int) == 0)=false:=by rw[ZW];omega
     have HL:=hid hl0
     clear hl0
     go_wp2_with (first|(go_at_call 30;refine(HRI.out _).mono ?_;rintro e w2 ⟨rfl,hb2⟩;obtain⟨hc2,hf2⟩:=Yx hb2)|(go_at_call 31;refine(HNU.out _).mono ?_;rintro e w2 ⟨rfl,rfl⟩))
     all_goals (go_ret;exact⟨Yz (by rw[←HF.out,←HSZ.out];simp[bdE,HL.out]),bq⟩)
    have he0:nm.data.toList≠[]:=by
     intro h;apply he
     obtain⟨⟨l⟩⟩:=nm
     simp at h;subst h;rfl
    have he1:nm.toList.isEmpty=false:=by rw[Lib.toList_data];simpa using he0
    have he2:¬nm.toList=[]:=by rw[Lib.toList_data];exact he0
    have HE:=hid he
    clear he he0
    go_wp2_with (first|(go_at_call 30;refine(HRI.out _).mono ?_;rintro e w2 ⟨rfl,hb2⟩;obtain⟨hc2,hf2⟩:=Yx hb2)|(go_at_call 31;refine(HNU.out _).mono ?_;rintro e w2 ⟨rfl,rfl⟩))
    all_goals (go_ret;exact⟨Yz (by rw[←HF.out,←HSZ.out];simp[bdE,HE.out]),bq⟩)
   have hk2':(k == 12)=false:=ZW.2 hk2
   by_cases hk3:k=13
   ·subst hk3
    clear hk1 hk2 hk1' hk2'
    by_cases hn0:n=0
    ·subst hn0
     by_cases hq:nm=ue
     ·subst hq
      have hq':(ue.toList == [63])=true:=by rw[Lib.toList_data];rfl
      by_cases hl3:args.len=3
      ·have hl1:((args.len:Int) == 3)=true:=by rw[beq_iff_eq];omega
       have HL:=hid hl3
       clear hl3
       go_wp2_with (first|(go_at_call 30;refine(HRI.out _).mono ?_;rintro e w2 ⟨rfl,hb2⟩;obtain⟨hc2,hf2⟩:=Yx hb2)|(go_at_call 31;refine(HNU.out _).mono ?_;rintro e w2 ⟨rfl,rfl⟩))
       all_goals (go_ret;exact⟨Yz (by rw[←HF.out,←HSZ.out];simp[bdE,HL.out]),bq⟩)
      have hl1:((args.len:Int) == 3)=false:=by rw[ZW];omega
      have HL:=hid hl3
      clear hl3
      go_wp2_with (first|(go_at_call 30;refine(HRI.out _).mono ?_;rintro e w2 ⟨rfl,hb2⟩;obtain⟨hc2,hf2⟩:=Yx hb2)|(go_at_call 31;refine(HNU.out _).mono ?_;rintro e w2 ⟨rfl,rfl⟩))
      all_goals (go_ret;exact⟨Yz (by rw[←HF.out,←HSZ.out];simp[bdE,HL.out]),bq⟩)
     have hq':(nm.toList == [63])=false:=Zbh hq
     have HQ:=hid hq
     clear hq
     obtain⟨wo,rfl⟩:∃wo:World,wo=wr:=⟨_,rfl⟩
     go_wp2
     go_loopw [5] (fun v5 wr2=>Hid (Zck (wo.alloc (Obj.cells #[.string ⟨#[43]⟩,.string ⟨#[45]⟩,.string ⟨#[42]⟩,.string ⟨#[47]⟩,.string ⟨#[37]⟩,.string ⟨#[60]⟩,.string ⟨#[61,61]⟩] 9)) nm v5 wr2)) (fun i _=>7-(intOf i).toNat)
     case atStart=>exact⟨0,oq,rfl,fun j hj=>oq,bq⟩
     obtain⟨j,hj,rfl,hno,hb3⟩:=hrel.out
     clear hrel
     have HNO:=hid hno
     have HB3:=hid hb3
     have l3:wo.heap.size+1≤wr.heap.size:=by have:=hb3.size;simpa using this
     clear hno
     by_cases hj7:j<7
     ·have hop:=ZcI wo j hj7
      obtain⟨x,hx⟩:∃x,GF.getD j ByteArray.empty=x:=⟨_,rfl⟩
      rw[hx] at hop
      have c0:=(hb3.cell (p:=⟨wo.heap.size,j,none⟩) (by simp)).trans hop
      have c1:=(hb3.cell (p:=⟨w.heap.size,1,none⟩) (by simp;omega)).trans ((Zn (w:=wo) (a:=⟨w.heap.size,1,none⟩) (Z3 _ _ hbl)).trans x1)
      have c4:=(hb3.cell (p:=⟨w.heap.size,4,none⟩) (by simp;omega)).trans ((Zn (w:=wo) (a:=⟨w.heap.size,4,none⟩) (Z3 _ _ hbl)).trans x4)
      have hb:=QL x nm
      have HX:=hid hx
      clear hx hop hb3
      by_cases he:x=nm
      ·rw[ZY he] at hb
       have HE:=hid he
       clear he
       go_wp2
       go_region
       go_wp2
       go_ret
       have hbel:=HBEL.out
       have hb3:=HB3.out
       have e1:((args.len:Int) == 2)=decide (args.len=2):=by rw[Bool.eq_iff_iff];simp;omega
       exact⟨Yz (by rw[←HF.out,←HSZ.out];refine Eq.trans e1 ?_;simp[bdE,HQ.out,Zan hj7 (HX.out.trans HE.out)]),bq⟩
      rw[ZX he] at hb
      have HE:=hid he
      clear he
      go_wp2
      go_region
      go_wp2
      refine⟨?_,by simp[intOf];omega⟩
      exact⟨j+1,oq,by go_num,fun i hi=>by by_cases h:i<j;(· exact HNO.out i h);(· obtain rfl:i=j:=oq;rw[HX.out];exact HE.out),bq⟩
     clear hb3
     go_wp2
     go_ret
     have hbel:=HBEL.out
     have hb3:=HB3.out
     exact⟨Yz (by rw[←HF.out,←HSZ.out];simp[bdE,HQ.out,ZbC (fun j' h=>HNO.out j' oq)]),bq⟩
    have hn1:(n == 0)=false:=ZW.2 hn0
    go_wp2_with (first|(go_at_call 30;refine(HRI.out _).mono ?_;rintro e w2 ⟨rfl,hb2⟩;obtain⟨hc2,hf2⟩:=Yx hb2)|(go_at_call 31;refine(HNU.out _).mono ?_;rintro e w2 ⟨rfl,rfl⟩))
    all_goals (go_ret;exact⟨Yz (by rw[←HF.out,←HSZ.out];simp[bdE,hn0]),bq⟩)
   have hk3':(k == 13)=false:=ZW.2 hk3
   go_wp2_with (first|(go_at_call 30;refine(HRI.out _).mono ?_;rintro e w2 ⟨rfl,hb2⟩;obtain⟨hc2,hf2⟩:=Yx hb2)|(go_at_call 31;refine(HNU.out _).mono ?_;rintro e w2 ⟨rfl,rfl⟩))
   all_goals (go_ret;exact⟨Yz (by rw[←HF.out,←HSZ.out];simp[bdE,hk1,hk2,hk3]),bq⟩)
  have hd1:(d == 0)=false:=ZW.2 hd
  go_wp2_with (first|(go_at_call 30;refine(HRI.out _).mono ?_;rintro e w2 ⟨rfl,hb2⟩;obtain⟨hc2,hf2⟩:=Yx hb2)|(go_at_call 31;refine(HNU.out _).mono ?_;rintro e w2 ⟨rfl,rfl⟩))
  all_goals (go_ret;exact⟨Yz (by rw[←HF.out,←HSZ.out];simp[bdE,hd]),bq⟩)
theorem uW (e:PE):VK e:=by
 suffices h:∀(N:Nat) (e:PE),e.args.sz<N→VK e from h _ e (ZU _)
 intro N
 induction N with
 | zero=>intro e h;omega
 | succ N ih=>intro e h;exact j4 e (fun e' h'=>ih e' oq)
end Go.Proofs.YtlhlcdjiafdoeaaGreatDoor.syn
