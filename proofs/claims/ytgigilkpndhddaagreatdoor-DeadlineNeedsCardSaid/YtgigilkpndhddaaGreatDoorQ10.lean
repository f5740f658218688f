/-
  Parts of the proof: StrMap, MapPtr, Arg.
-/
import Derived.ChangeArms
import Derived.DataReads
import Derived.MapKept
import Derived.Maps.Own
import Derived.Test.YtgigilkpndhddaaGreatDoorQ04
import Derived.Test.YtgigilkpndhddaaGreatDoorQ05
namespace Go.Proofs.YtgigilkpndhddaaGreatDoor.syn
set_option linter.unusedVariables false
set_option linter.unusedSimpArgs false
set_option linter.unnecessarySimpa false
set_option maxRecDepth 100000
set_option maxHeartbeats 16000000
open Go.RowKit
def YG (w:World) (mb:Nat) (L:List (ByteArray × Value)):Prop :=
 ∃arr clock,w.heap[mb]?=some (.map arr clock)∧arr.toList.map (fun e=>(e.key,e.val))=L.map (fun p=>(Value.string p.1,p.2))
def Jp (k:ByteArray):List (ByteArray × Value)→Nat→Option (Nat × Value)
 | [],_=>none
 | p::L,i=>if k=p.1 then some (i,p.2) else Jp k L (i+1)
def Y0 (k:ByteArray):List (ByteArray × Value)→Option Value
 | []=>none
 | p::L=>if k=p.1 then some p.2 else Y0 k L
def Jc (k:ByteArray) (v:Value):List (ByteArray × Value)→List (ByteArray × Value)
 | []=>[(k,v)]
 | p::L=>if k=p.1 then (k,v)::L else p::Jc k v L
theorem ZbH (a b:ByteArray):(a == b)=decide (a=b):=by
 obtain⟨x⟩:=a
 obtain⟨y⟩:=b
 have h1:((⟨x⟩:ByteArray) == ⟨y⟩)=(x == y):=rfl
 rw[h1]
 by_cases h:x=y
 ·subst h;simp
 have h2:¬((⟨x⟩:ByteArray)=⟨y⟩):=by intro e;injection e with e;exact h e
 rw[ZZ h2];simpa using h
theorem Zbq (a:ByteArray):(a == a)=true:=by rw[ZbH];simp
theorem EU (k:ByteArray):∀(es:List MapEntry) (L:List (ByteArray × Value)) (i:Nat),es.map (fun e=>(e.key,e.val))=L.map (fun p=>(Value.string p.1,p.2)) →
  Instr.findNow .string (.string k) es i=some (Jp k L i):=by
 intro es
 induction es with
 | nil=>intro L i h;cases L with
  | nil=>rfl
  | cons p L=>simp at h
 | cons e es ih =>
  intro L i h
  cases L with
  | nil=>simp at h
  | cons p L =>
   simp only[List.map_cons,List.cons.injEq,Z4] at h
   obtain⟨⟨h1,h2⟩,h3⟩:=h
   unfold Instr.findNow
   rw[h1]
   simp only[Instr.sameNow,ZbH,Jp]
   by_cases hk:k=p.1
   ·simp[hk,h2]
   simp[hk,ih L (i+1) h3]
theorem uR (k:ByteArray):∀(L:List (ByteArray × Value)) (i:Nat),(Jp k L i).map (·.2)=Y0 k L:=by
 intro L
 induction L with
 | nil=>intro i;rfl
 | cons p L ih =>
  intro i
  unfold Jp Y0
  by_cases h:k=p.1
  ·rw[Z2 h,Z2 h];rfl
  rw[Z1 h,Z1 h];exact ih (i+1)
theorem jl (k:ByteArray) (v:Value):∀(L:List (ByteArray × Value)) (j:Nat),Jp k L j=none→Jc k v L=L++[(k,v)]:=by
 intro L
 induction L with
 | nil=>intro j _;rfl
 | cons p L ih =>
  intro j h
  unfold Jp at h
  by_cases hk:k=p.1
  ·rw[Z2 hk] at h;cases h
  rw[Z1 hk] at h
  unfold Jc
  rw[Z1 hk,ih (j+1) h];rfl
theorem xZ (k:ByteArray) (v:Value):∀(L:List (ByteArray × Value)) (j i:Nat) (u:Value),Jp k L j=some (i,u)→∃n,i=j+n∧∃x,L[n]?=some (k,x)∧Jc k v L=L.modify n (fun _=>(k,v)):=by
 intro L
 induction L with
 | nil=>intro j i u h;cases h
 | cons p L ih =>
  intro j i u h
  unfold Jp at h
  by_cases hk:k=p.1
  ·rw[Z2 hk] at h
   obtain⟨rfl,_⟩:j=i∧_:=by simpa using h
   refine⟨0,rfl,p.2,?_,?_⟩
   ·rw[hk];rfl
   unfold Jc;rw[Z2 hk];rfl
  rw[Z1 hk] at h
  obtain⟨n,rfl,x,h1,h2⟩:=ih (j+1) i u h
  refine⟨n+1,oq,x,by simpa using h1,?_⟩
  unfold Jc;rw[Z1 hk,h2];rfl
structure Xx (T K E:TypeId) (z:Value):Prop where
 map:Tryz.prog.underlying T=some (.map K E)
 key:Tryz.prog.underlying K=some .string
 zero:∀w,(zeroValue E).run Tryz.prog w=.ok z w
 check:∀(b:Bool) (s:ByteArray) (w:World),(Instr.checkKey b 10000 K (.string s)).run Tryz.prog w=.ok () w
theorem XK {T K E:TypeId} {z:Value} (M:Xx T K E z) {w:World} {mb:Nat} {L:List (ByteArray × Value)} (h:YG w mb L) (k:ByteArray) (c:Bool) :
  (Instr.lookup T (.map (some mb)) (.string k) c).run Tryz.prog w=.ok (if c then .tuple #[(Y0 k L).getD z,.bool (Y0 k L).isSome] else (Y0 k L).getD z) w:=by
 obtain⟨arr,clock,hh,he⟩:=h
 have hu:(underlying T).run Tryz.prog w=.ok (.map K E) w:=by rw[run_underlying M.map]
 have hk:(underlying K).run Tryz.prog w=.ok .string w:=by rw[run_underlying M.key]
 have hg:(getObj mb).run Tryz.prog w=.ok (.map arr clock) w:=run_getObj_map (w:=w) mb arr clock hh
 have hc:=M.check arr.isEmpty k w
 have hfin:=uR k L 0
 have hfk:(Instr.findKey K (.string k) arr.toList).run Tryz.prog w=.ok (Jp k L 0) w:=by
  unfold Instr.findKey
  simp only[Sem.run_bind,hk,ZP]
  rw[EU k arr.toList L 0 he];rfl
 simp only[Instr.lookup,Sem.run_bind,hu,ZP,hg,Sem.run_pure]
 rw[hc]
 simp only[ZP]
 rw[hfk]
 simp only[ZP]
 rw[←hfin]
 cases hr:Jp k L 0 with
 | none=>simp only[Sem.run_bind,M.zero,ZP,Sem.run_pure];cases c<;>rfl
 | some p=>obtain⟨i,v⟩:=p;simp only[Sem.run_bind,ZP,Sem.run_pure];cases c<;>rfl
def World.putM (w:World) (mb:Nat) (o:Obj):World:={ w with heap:=w.heap.setIfInBounds mb o }
theorem ql (k:ByteArray):Instr.sameBits 10000 (.string k) (.string k)=true:=by
 show Instr.sameBits (9999+1) _ _=true
 simp[Instr.sameBits,Zbq]
theorem Gs {T K E:TypeId} {z:Value} (M:Xx T K E z) {w:World} {mb:Nat} {L:List (ByteArray × Value)} (h:YG w mb L) (k:ByteArray) (v:Value) :
  ∃arr clock,(Instr.mapUpdate T (.map (some mb)) (.string k) v).run Tryz.prog w=.ok () (World.putM w mb (.map arr clock))∧YG (World.putM w mb (.map arr clock)) mb (Jc k v L):=by
 obtain⟨arr,clock,hh,he⟩:=h
 have hu:(underlying T).run Tryz.prog w=.ok (.map K E) w:=by rw[run_underlying M.map]
 have hk:(underlying K).run Tryz.prog w=.ok .string w:=by rw[run_underlying M.key]
 have hg:(getObj mb).run Tryz.prog w=.ok (.map arr clock) w:=run_getObj_map (w:=w) mb arr clock hh
 have hc:=M.check false k w
 have hfk:(Instr.findKey K (.string k) arr.toList).run Tryz.prog w=.ok (Jp k L 0) w:=by
  unfold Instr.findKey
  simp only[Sem.run_bind,hk,ZP]
  rw[EU k arr.toList L 0 he];rfl
 have hlt:=Zb hh
 have hnew:∀o,(World.putM w mb o).heap[mb]?=some o:=by
  intro o
  show(w.heap.setIfInBounds mb o)[mb]?=some o
  rw[Array.getElem?_setIfInBounds_self_of_lt hlt]
 cases hr:Jp k L 0 with
 | none =>
  refine⟨arr.push { key:=.string k,val:=v,born:=clock },clock+1,?_,⟨_,_,hnew _,?_⟩⟩
  ·simp only[Instr.mapUpdate,Sem.run_bind,hu,ZP,hg]
   rw[hc]
   simp only[ZP]
   rw[hfk,hr]
   simp only[ZP]
   exact Go.MapKept.run_setObj_map _ hh
  rw[jl k v L 0 hr]
  simp[he]
 | some q =>
  obtain⟨i,u⟩:=q
  obtain⟨n,hn,x,h1,h2⟩:=xZ k v L 0 i u hr
  obtain rfl:i=n:=oq
  have hkey:((arr[i]?).map (·.key)).getD (.string k)=.string k:=by
   have:=Z3 (fun l=>l[i]?) he
   simp only[List.getElem?_map,h1,Option.map_some] at this
   cases ha:arr[i]? with
   | none=>rfl
   | some e=>simp[ha] at this ⊢;exact this.1
  have hst:(Instr.keyThatStays (.string k) (.string k)).run Tryz.prog w=.ok (.string k) w:=by
   unfold Instr.keyThatStays;rw[ql];rfl
  refine⟨arr.modify i fun e=>{ e with key:=.string k,val:=v },clock,?_,⟨_,_,hnew _,?_⟩⟩
  ·simp only[Instr.mapUpdate,Sem.run_bind,hu,ZP,hg]
   rw[hc]
   simp only[ZP]
   rw[hfk,hr]
   simp only[ZP,Sem.run_bind,hkey]
   rw[hst]
   simp only[ZP]
   exact Go.MapKept.run_setObj_map _ hh
  rw[h2,Array.toList_modify]
  apply List.ext_getElem?
  intro j
  have hj:=Z3 (fun l=>l[j]?) he
  simp only[List.getElem?_map,List.getElem?_modify] at hj ⊢
  by_cases hij:i=j
  ·subst hij
   rw[h1] at hj ⊢
   cases ha:arr.toList[i]? with
   | none=>rw[ha] at hj;simp at hj
   | some e=>simp
  simp only[hij,if_false]
  cases ha:arr.toList[j]?<;>cases hb:L[j]?<;>rw[ha,hb] at hj<;>simp at hj ⊢
  exact hj
theorem YG.below {w w':World} {mb:Nat} {L:List (ByteArray × Value)} (h:YG w mb L) (hb:Below w.heap.size w w'):YG w' mb L:=by
 obtain⟨arr,clock,h1,h2⟩:=h
 exact⟨arr,clock,(hb.block mb (Zb h1)).trans h1,h2⟩
theorem YG.lt {w:World} {mb:Nat} {L:List (ByteArray × Value)} (h:YG w mb L):mb<w.heap.size:=by
 obtain⟨arr,clock,h1,h2⟩:=h
 exact Zb h1
theorem YG.new (w:World):YG (w.alloc (.map #[] 0)) w.heap.size []:=⟨#[],0,Yp w _,rfl⟩
theorem Qr {B:Nat} {a w:World} (h:Below B a w) {mb:Nat} (hm:B≤mb) (o:Obj):Below B a (World.putM w mb o):=by
 refine h.trans ⟨rfl,rfl,rfl,by simp[World.putM],fun k hk=>?_⟩
 show(w.heap.setIfInBounds mb o)[k]?=_
 rw[Array.getElem?_setIfInBounds_ne oq]
theorem YF {a w:World} {mb:Nat} (h:Upon mb a w) (o:Obj):Upon mb a (World.putM w mb o):=by
 refine h.trans ⟨rfl,rfl,rfl,by simp[World.putM],fun k hk hne=>?_⟩
 show(w.heap.setIfInBounds mb o)[k]?=_
 rw[Array.getElem?_setIfInBounds_ne oq]
theorem QY {T K E:TypeId} {z:Value} (M:Xx T K E z) (w:World) {ops:Array Oper} {rest:List Oper} {o:Oper} {a:Act} {Q:Exit→Act→World→Prop}
  (hg:o.guard=none) (m x:Operand) (c:Bool) (hop:o.op=Op.lookup T m x c) (mb:Nat) (L:List (ByteArray × Value)) (k:ByteArray)
  (hm:a.eval m=.map (some mb)) (hx:a.eval x=.string k) (h:YG w mb L)
  (hK:wpList Tryz.prog ops Q rest (a.put o.dst (if c then .tuple #[(Y0 k L).getD z,.bool (Y0 k L).isSome] else (Y0 k L).getD z)) w) :
  wpList Tryz.prog ops Q (o::rest) a w:=by
 refine wpList_plain hg fun K' hK'=>?_
 have hrun:=XK M h k c
 have e:(execOp a.eval o).run Tryz.prog w=.ok (.value (if c then .tuple #[(Y0 k L).getD z,.bool (Y0 k L).isSome] else (Y0 k L).getD z)) w:=by
  simp[execOp,hop,hm,hx,hrun]
 unfold Oper.wp
 rw[e]
 exact hK' _ _ hK
theorem QX {T K E:TypeId} {z:Value} (M:Xx T K E z) (w:World) {ops:Array Oper} {rest:List Oper} {o:Oper} {a:Act} {Q:Exit→Act→World→Prop}
  (hg:o.guard=none) (m x:Operand) (hop:o.op=Op.lookup T m x false) (mb:Nat) (L:List (ByteArray × Value)) (k:ByteArray) (v:Value)
  (hm:a.eval m=.map (some mb)) (hx:a.eval x=.string k) (h:YG w mb L) (hs:(Y0 k L).getD z=v)
  (hK:wpList Tryz.prog ops Q rest (a.put o.dst v) w) :
  wpList Tryz.prog ops Q (o::rest) a w :=
 QY M w hg m x false hop mb L k hm hx h (by simpa only [hs,if_false,Bool.false_eq_true] using hK)
theorem Xe {T K E:TypeId} {z:Value} (M:Xx T K E z) (w:World) {ops:Array Oper} {rest:List Oper} {o:Oper} {a:Act} {Q:Exit→Act→World→Prop}
  (hg:o.guard=none) (m x v:Operand) (hop:o.op=Op.mapUpdate T m x v) (mb:Nat) (L:List (ByteArray × Value)) (k:ByteArray) (u:Value)
  (hm:a.eval m=.map (some mb)) (hx:a.eval x=.string k) (hv:a.eval v=u) (h:YG w mb L)
  (hK:∀arr clock,YG (World.putM w mb (.map arr clock)) mb (Jc k u L)→wpList Tryz.prog ops Q rest (a.put o.dst undef) (World.putM w mb (.map arr clock))) :
  wpList Tryz.prog ops Q (o::rest) a w:=by
 refine wpList_plain hg fun K' hK'=>?_
 obtain⟨arr,clock,hrun,h1⟩:=Gs M h k u
 unfold Oper.wp
 simp[execOp,hop,hm,hx,hv,hrun,Result.andThen]
 exact hK' _ _ (hK arr clock h1)
theorem Xz {T K E:TypeId} {z:Value} (M:Xx T K E z) (w:World) {ops:Array Oper} {rest:List Oper} {o:Oper} {a:Act} {Q:Exit→Act→World→Prop}
  (hg:o.guard=none) (m x:Operand) (hop:o.op=Op.lookup T m x true) (mb:Nat) (L:List (ByteArray × Value)) (k:ByteArray) (v:Value)
  (hm:a.eval m=.map (some mb)) (hx:a.eval x=.string k) (h:YG w mb L) (hs:Y0 k L=some v)
  (hK:wpList Tryz.prog ops Q rest (a.put o.dst (.tuple #[v,.bool true])) w) :
  wpList Tryz.prog ops Q (o::rest) a w :=
 QY M w hg m x true hop mb L k hm hx h (by simpa only [hs,Option.getD,Option.isSome,if_true,if_false,Bool.false_eq_true] using hK)
theorem Y3 {T K E:TypeId} {z:Value} (M:Xx T K E z) (w:World) {ops:Array Oper} {rest:List Oper} {o:Oper} {a:Act} {Q:Exit→Act→World→Prop}
  (hg:o.guard=none) (m x:Operand) (hop:o.op=Op.lookup T m x true) (mb:Nat) (L:List (ByteArray × Value)) (k:ByteArray)
  (hm:a.eval m=.map (some mb)) (hx:a.eval x=.string k) (h:YG w mb L) (hs:Y0 k L=none)
  (hK:wpList Tryz.prog ops Q rest (a.put o.dst (.tuple #[z,.bool false])) w) :
  wpList Tryz.prog ops Q (o::rest) a w :=
 QY M w hg m x true hop mb L k hm hx h (by simpa only [hs,Option.getD,Option.isSome,if_true,if_false,Bool.false_eq_true] using hK)
theorem V3 {T K E:TypeId} {z:Value} (M:Xx T K E z) (w:World) {ops:Array Oper} {rest:List Oper} {o:Oper} {a:Act} {Q:Exit→Act→World→Prop}
  (hg:o.guard=none) (m x:Operand) (hop:o.op=Op.lookup T m x false) (mb:Nat) (L:List (ByteArray × Value)) (k:ByteArray) (v:Value)
  (hm:a.eval m=.map (some mb)) (hx:a.eval x=.string k) (h:YG w mb L) (hs:Y0 k L=some v)
  (hK:wpList Tryz.prog ops Q rest (a.put o.dst (v)) w) :
  wpList Tryz.prog ops Q (o::rest) a w :=
 QY M w hg m x false hop mb L k hm hx h (by simpa only [hs,Option.getD,Option.isSome,if_true,if_false,Bool.false_eq_true] using hK)
theorem Xc:Xx 118 9 62 (.agg #[.int .i64 0,.int .i64 0]):=⟨by kernel_rfl,by kernel_rfl,fun w=>by kernel_rfl,fun b s w=>by cases b<;>kernel_rfl⟩
theorem XU:Xx 266 9 3 (.int .i64 0):=⟨by kernel_rfl,by kernel_rfl,fun w=>by kernel_rfl,fun b s w=>by cases b<;>kernel_rfl⟩
theorem zg:Xx 186 9 3 (.int .i64 0):=⟨by kernel_rfl,by kernel_rfl,fun w=>by kernel_rfl,fun b s w=>by cases b<;>kernel_rfl⟩
def XP (w:World) (v:Value):Prop:=∃b o cs t fr,v=.pointer (some ⟨b,o,none⟩)∧w.heap[b]?=some (.cells cs t fr)∧w.frozen? ⟨b,o,none⟩=false
theorem XP.keep {w w':World} {v:Value} (h:XP w v) (hk:∀(b:Nat) (cs:Array Value) (t:TypeId) (fr:Nat × Nat),w.heap[b]?=some (Obj.cells cs t fr)→∃cs',w'.heap[b]?=some (Obj.cells cs' t fr)):XP w' v:=by
 obtain⟨b,o,cs,t,fr,rfl,h1,h2⟩:=h
 obtain⟨cs',h3⟩:=hk b cs t fr h1
 refine⟨b,o,cs',t,fr,rfl,h3,?_⟩
 obtain⟨lo,hi⟩:=fr
 simp[World.frozen?,h1] at h2
 simp[World.frozen?,h3]
 exact h2
theorem zq (w:World):w.drewN 0=w:=rfl
theorem kQ {P:Program} {w:World} {x y:Addr} (hx:XP w (.pointer (some x))) (hy:XP w (.pointer (some y))):∃r n,(sameAddr x y).run P w=.ok r (w.drewN n):=by
 obtain⟨b1,o1,c1,t1,f1,e1,h1,z1⟩:=hx
 obtain⟨b2,o2,c2,t2,f2,e2,h2,z2⟩:=hy
 injection e1 with e1;injection e1 with e1;subst e1
 injection e2 with e2;injection e2 with e2;subst e2
 by_cases hb:b1=b2
 ·subst hb
  exact⟨_,0,by rw[zq];simp[sameAddr];rfl⟩
 have hb':(b1 == b2)=false:=by simpa using hb
 have s1:w.shape? b1=some (t1,c1.size):=by simp[World.shape?,h1]
 have s2:w.shape? b2=some (t2,c2.size):=by simp[World.shape?,h2]
 simp only[sameAddr,hb',Bool.false_eq_true,if_false,Sem.run_bind,run_frozen,ZP,z1,z2,Bool.false_and,noView,viewAt,run_shape,s1,s2,Option.isSome,if_true,Sem.run_pure,Sem.run_pure,mayBeOne,stringish]
 generalize (_||_||_:Bool)=q
 cases q with
 | false=>exact⟨false,0,by rw[zq];simp⟩
 | true =>
  simp only[if_true,Sem.run_bind,run_choose_drew]
  split
  ·exact⟨_,0,by rw[zq];simp;rfl⟩
  exact⟨_,1,by simp;exact⟨rfl,rfl⟩⟩
structure J5 (T K E X:TypeId) (z:Value):Prop where
 map:Tryz.prog.underlying T=some (.map K E)
 key:Tryz.prog.underlying K=some (.pointer X)
 size:∀w,∃n,(sizeOf X).run Tryz.prog w=.ok (n+1) w
 zero:∀w,(zeroValue E).run Tryz.prog w=.ok z w
 check:∀(b:Bool) (s:Option Addr) (w:World),(Instr.checkKey b 10000 K (.pointer s)).run Tryz.prog w=.ok () w
theorem Zb2 {T K E X:TypeId} {z:Value} (M:J5 T K E X z) {w:World} {u v:Value} (hu:XP w u) (hv:XP w v):∃r n,(Op.equal K u v).run Tryz.prog w=.ok r (w.drewN n):=by
 have hu':=hu
 have hv':=hv
 obtain⟨b1,o1,c1,t1,f1,rfl,h1,z1⟩:=hu'
 obtain⟨b2,o2,c2,t2,f2,rfl,h2,z2⟩:=hv'
 obtain⟨r,n,h⟩:=kQ (P:=Tryz.prog) hu hv
 obtain⟨m,hz⟩:=M.size w
 refine⟨r,n,?_⟩
 obtain⟨d,hd⟩:∃d,Op.maxDepth=d+1:=⟨9999,rfl⟩
 unfold Op.equal
 rw[hd]
 simp[Op.equalIn,run_underlying M.key,hz,h]
theorem drewN_drewN (w:World) (a b:Nat):(w.drewN a).drewN b=w.drewN (a+b):=by simp[World.drewN,Nat.add_assoc]
theorem XP.drewN {w:World} {v:Value} (h:XP w v) (n:Nat):XP (w.drewN n) v:=h.keep fun b cs t fr hb=>⟨cs,hb⟩
theorem Zas {T K E X:TypeId} {z:Value} (M:J5 T K E X z) (k:Value):∀(es:List MapEntry) (i:Nat) (w:World),XP w k→(∀e∈es,XP w e.key) →
  ∃r n,(Instr.findAsking K k es i).run Tryz.prog w=.ok r (w.drewN n)∧∀j v,r=some (j,v)→∃e∈es,e.val=v:=by
 intro es
 induction es with
 | nil=>intro i w _ _;exact⟨none,0,rfl,fun j v h=>(by cases h)⟩
 | cons e es ih =>
  intro i w hk he
  obtain⟨r,n,h⟩:=Zb2 M hk (he e (by simp))
  cases r with
  | true=>exact⟨some (i,e.val),n,by simp[Instr.findAsking,h],fun j v hj=>by injection hj with hj;injection hj with _ hj;exact⟨e,by simp,hj⟩⟩
  | false =>
   obtain⟨r2,m,h2,h3⟩:=ih (i+1) (w.drewN n) (hk.drewN n) (fun q hq=>(he q (by simp[hq])).drewN n)
   rw[drewN_drewN] at h2
   refine⟨r2,n+m,by simp[Instr.findAsking,h,h2],fun j v hj=>?_⟩
   obtain⟨q,hq,hv⟩:=h3 j v hj
   exact⟨q,by simp[hq],hv⟩
theorem jY {T K E X:TypeId} {z:Value} (M:J5 T K E X z) (k:Value) (es:List MapEntry) (w:World) (hk:XP w k) (he:∀e∈es,XP w e.key) :
  ∃r n,(Instr.findKey K k es).run Tryz.prog w=.ok r (w.drewN n)∧∀j v,r=some (j,v)→∃e∈es,e.val=v:=by
 have hu:(underlying K).run Tryz.prog w=.ok (.pointer X) w:=by rw[run_underlying M.key]
 unfold Instr.findKey
 simp only[Sem.run_bind,hu,ZP]
 obtain⟨b1,o1,c1,t1,f1,rfl,h1,z1⟩:=id hk
 cases es with
 | nil=>exact⟨none,0,rfl,fun j v h=>(by cases h)⟩
 | cons e es =>
  have:Instr.findNow (.pointer X) (.pointer (some ⟨b1,o1,none⟩)) (e::es) 0=none:=by unfold Instr.findNow Instr.sameNow;rfl
  rw[this]
  exact Zas M _ _ 0 w hk he
def J4 (w:World) (mb:Nat) (K V:Value→Prop):Prop:=∃arr clock,w.heap[mb]?=some (.map arr clock)∧∀e∈arr.toList,K e.key∧V e.val
theorem vR {T K E X:TypeId} {z:Value} (M:J5 T K E X z) {w:World} {mb:Nat} {K' V:Value→Prop} (h:J4 w mb K' V) (hK':∀v,K' v→XP w v) (k:Value) (hk:XP w k) :
  ∃u b n,(Instr.lookup T (.map (some mb)) k true).run Tryz.prog w=.ok (.tuple #[u,.bool b]) (w.drewN n)∧(b=true→V u)∧(b=false→u=z):=by
 obtain⟨arr,clock,hh,he⟩:=h
 have hu:(underlying T).run Tryz.prog w=.ok (.map K E) w:=by rw[run_underlying M.map]
 have hg:(getObj mb).run Tryz.prog w=.ok (.map arr clock) w:=run_getObj_map (w:=w) mb arr clock hh
 obtain⟨b1,o1,c1,t1,f1,rfl,h1,z1⟩:=id hk
 have hc:=M.check arr.isEmpty (some ⟨b1,o1,none⟩) w
 obtain⟨r,n,hr,hv⟩:=jY M _ arr.toList w hk (fun e h=>hK' _ (he e h).1)
 simp only[Instr.lookup,Sem.run_bind,hu,ZP,hg,Sem.run_pure]
 rw[hc]
 simp only[ZP]
 rw[hr]
 simp only[ZP]
 cases r with
 | none=>exact⟨z,false,n,by simp only[Sem.run_bind,M.zero,ZP,Sem.run_pure];rfl,fun h=>(by cases h),fun _=>rfl⟩
 | some p =>
  obtain⟨i,v⟩:=p
  obtain⟨e,h2,h3⟩:=hv i v rfl
  exact⟨v,true,n,by simp only[Sem.run_bind,ZP,Sem.run_pure];rfl,fun _=>h3▸(he e h2).2,fun h=>(by cases h)⟩
theorem vZ {P:Program} (a b:Value) (w:World):∃r n,(Instr.keyThatStays a b).run P w=.ok r (w.drewN n)∧(r=a∨r=b):=by
 unfold Instr.keyThatStays
 split
 ·exact⟨b,0,rfl,.inr rfl⟩
 simp only[Sem.run_bind,run_choose_drew]
 split
 ·exact⟨b,0,by rw[zq];simp,.inr rfl⟩
 refine⟨_,1,by simp;exact⟨rfl,rfl⟩,?_⟩
 split<;>simp
theorem eC {T K E X:TypeId} {z:Value} (M:J5 T K E X z) {w:World} {mb:Nat} {K' V:Value→Prop} (h:J4 w mb K' V) (hK':∀v,K' v→XP w v) (k:Value) (hkk:K' k) (v:Value) (hv:V v) :
  ∃arr clock n,(Instr.mapUpdate T (.map (some mb)) k v).run Tryz.prog w=.ok () (World.putM (w.drewN n) mb (.map arr clock))∧J4 (World.putM (w.drewN n) mb (.map arr clock)) mb K' V:=by
 obtain⟨arr,clock,hh,he⟩:=h
 have hu:(underlying T).run Tryz.prog w=.ok (.map K E) w:=by rw[run_underlying M.map]
 have hg:(getObj mb).run Tryz.prog w=.ok (.map arr clock) w:=run_getObj_map (w:=w) mb arr clock hh
 have hk:=hK' k hkk
 obtain⟨b1,o1,c1,t1,f1,rfl,h1,z1⟩:=id hk
 have hc:=M.check false (some ⟨b1,o1,none⟩) w
 obtain⟨r,n,hr,hrv⟩:=jY M _ arr.toList w hk (fun e h=>hK' _ (he e h).1)
 have hlt:=Zb hh
 have hnew:∀(m:Nat) o,(World.putM (w.drewN m) mb o).heap[mb]?=some o:=by
  intro m o
  show(w.heap.setIfInBounds mb o)[mb]?=some o
  rw[Array.getElem?_setIfInBounds_self_of_lt hlt]
 cases r with
 | none =>
  refine⟨arr.push { key:=.pointer (some ⟨b1,o1,none⟩),val:=v,born:=clock },clock+1,n,?_,⟨_,_,hnew _ _,?_⟩⟩
  ·simp only[Instr.mapUpdate,Sem.run_bind,hu,ZP,hg]
   rw[hc]
   simp only[ZP]
   rw[hr]
   simp only[ZP]
   exact Go.MapKept.run_setObj_map (w:=w.drewN n) _ hh
  intro e h
  rw[Array.toList_push,List.mem_append] at h
  rcases h with h|h
  ·exact he e h
  rw[List.mem_singleton.1 h]
  exact⟨hkk,hv⟩
 | some q =>
  obtain⟨i,u⟩:=q
  obtain⟨kk,m,hst,hkk⟩:=vZ (P:=Tryz.prog) (((arr[i]?).map (·.key)).getD (.pointer (some ⟨b1,o1,none⟩))) (.pointer (some ⟨b1,o1,none⟩)) (w.drewN n)
  have hkp:K' kk:=by
   rcases hkk with rfl|rfl
   ·cases ha:arr[i]? with
    | none=>exact hkk
    | some e=>exact(he e (Array.mem_toList_iff.2 (Array.mem_of_getElem? ha))).1
   exact hkk
  rw[drewN_drewN] at hst
  refine⟨arr.modify i fun e=>{ e with key:=kk,val:=v },clock,n+m,?_,⟨_,_,hnew _ _,?_⟩⟩
  ·simp only[Instr.mapUpdate,Sem.run_bind,hu,ZP,hg]
   rw[hc]
   simp only[ZP]
   rw[hr]
   simp only[ZP,Sem.run_bind]
   rw[hst]
   simp only[ZP]
   exact Go.MapKept.run_setObj_map (w:=w.drewN (n+m)) _ hh
  intro e h
  rw[Array.toList_modify] at h
  obtain⟨j,hj⟩:=List.mem_iff_getElem?.1 h
  rw[List.getElem?_modify] at hj
  cases ha:arr.toList[j]? with
  | none=>rw[ha] at hj;simp at hj
  | some e0 =>
   rw[ha] at hj
   have h0:=he e0 (Ya ha)
   by_cases hij:i=j
   ·simp[hij] at hj
    rw[←hj]
    exact⟨hkp,hv⟩
   simp[hij] at hj
   rw[←hj]
   exact h0
theorem J4.lt {w:World} {mb:Nat} {K V:Value→Prop} (h:J4 w mb K V):mb<w.heap.size:=by
 obtain⟨arr,clock,h1,h2⟩:=h
 exact Zb h1
theorem J4.new (w:World) (K V:Value→Prop):J4 (w.alloc (.map #[] 0)) w.heap.size K V:=⟨#[],0,Yp w _,fun e h=>by simp at h⟩
theorem J4.keep {w w':World} {mb:Nat} {K V V':Value→Prop} (h:J4 w mb K V) (hb:w'.heap[mb]?=w.heap[mb]?) (hV:∀v,V v→V' v):J4 w' mb K V':=by
 obtain⟨arr,clock,h1,h2⟩:=h
 exact⟨arr,clock,hb.trans h1,fun e he=>⟨(h2 e he).1,hV _ (h2 e he).2⟩⟩
theorem zk {T K E X:TypeId} {z:Value} (M:J5 T K E X z) (w:World) {ops:Array Oper} {rest:List Oper} {o:Oper} {a:Act} {Q:Exit→Act→World→Prop}
  (hg:o.guard=none) (m x:Operand) (hop:o.op=Op.lookup T m x true) (mb:Nat) (K' V:Value→Prop) (k:Value)
  (hm:a.eval m=.map (some mb)) (hx:a.eval x=k) (h:J4 w mb K' V) (hK':∀v,K' v→XP w v) (hk:XP w k)
  (hK:∀u b w',(b=true→V u)→(b=false→u=z)→w'.heap.size=w.heap.size→Below w.heap.size w w'→wpList Tryz.prog ops Q rest (a.put o.dst (.tuple #[u,.bool b])) w') :
  wpList Tryz.prog ops Q (o::rest) a w:=by
 refine wpList_plain hg fun K3 hK3=>?_
 obtain⟨u,b,n,hrun,h1,h2⟩:=vR M h hK' k hk
 have e:(execOp a.eval o).run Tryz.prog w=.ok (.value (.tuple #[u,.bool b])) (w.drewN n):=by
  simp[execOp,hop,hm,hx,hrun]
 unfold Oper.wp
 rw[e]
 exact hK3 _ _ (hK u b _ h1 h2 rfl (below_drewN (Zg _ _) n))
theorem UY {T K E X:TypeId} {z:Value} (M:J5 T K E X z) (w:World) {ops:Array Oper} {rest:List Oper} {o:Oper} {a:Act} {Q:Exit→Act→World→Prop}
  (hg:o.guard=none) (m x v:Operand) (hop:o.op=Op.mapUpdate T m x v) (mb:Nat) (K2 V:Value→Prop) (k:Value) (u:Value)
  (hm:a.eval m=.map (some mb)) (hx:a.eval x=k) (hv:a.eval v=u) (h:J4 w mb K2 V) (hK2:∀v,K2 v→XP w v) (hk:K2 k) (hV:V u)
  (hK:∀w',Upon mb w w'→w'.heap.size=w.heap.size→J4 w' mb K2 V→wpList Tryz.prog ops Q rest (a.put o.dst undef) w') :
  wpList Tryz.prog ops Q (o::rest) a w:=by
 refine wpList_plain hg fun K' hK'=>?_
 obtain⟨arr,clock,n,hrun,h1⟩:=eC M h hK2 k hk u hV
 unfold Oper.wp
 simp[execOp,hop,hm,hx,hv,hrun,Result.andThen]
 exact hK' _ _ (hK _ (YF ((Upon.refl _ _).drewN n) _) (by simp[World.putM]) h1)
theorem UB:J5 273 278 286 88 (.agg #[.int .i64 0,.int .i64 0]):=⟨by kernel_rfl,by kernel_rfl,fun w=>⟨5,by kernel_rfl⟩,fun w=>by kernel_rfl,fun b s w=>by cases b<;>kernel_rfl⟩
open Go.RowKit Go.ChangeShapes Go.WideShapes
def AC (w:World):PL→Nat→Nat→Prop
 | .nil,_,_=>True
 | .cons k nm n d args a tl,b,o=>w.cell? ⟨b,o,none⟩=some (.int .i64 k)∧w.cell? ⟨b,o+1,none⟩=some (.string nm)∧w.cell? ⟨b,o+2,none⟩=some (.int .i64 n) ∧
   w.cell? ⟨b,o+3,none⟩=some (.int .i64 d)∧w.cell? ⟨b,o+5,none⟩=some (.int .i64 a)∧(I64 k∧I64 n∧I64 d∧I64 a∧nm.size≤9223372036854775807) ∧
   (∃ad cap,w.cell? ⟨b,o+4,none⟩=some (.slice ad args.len cap)∧args.len≤cap∧cap≤9223372036854775807∧(args=.nil∨∃b' o',ad=some ⟨b',o',none⟩∧b'<w.heap.size∧AC w args b' o')) ∧
   AC w tl b (o+6)
def AS (w:World) (args:PL) (ad:Option Addr):Prop:=args=.nil∨∃b o,ad=some ⟨b,o,none⟩∧b<w.heap.size∧AC w args b o
structure AE (w:World) (e:PE) (ad:Option Addr) (cap:Nat):Prop where
 nums:I64 e.k∧I64 e.n∧I64 e.d∧I64 e.a∧e.nm.size≤9223372036854775807
 len:e.args.len≤cap∧cap≤9223372036854775807
 args:AS w e.args ad
theorem AC.below {w w':World} (hb:Below w.heap.size w w'):∀(l:PL) (b o:Nat),b<w.heap.size→AC w l b o→AC w' l b o:=by
 intro l
 induction l with
 | nil=>intro b o _ _;trivial
 | cons k nm n d args a tl ih1 ih2 =>
  intro b o hlt h
  have hc:∀o,w'.cell? ⟨b,o,none⟩=w.cell? ⟨b,o,none⟩:=fun o=>hb.cell (p:=⟨b,o,none⟩) hlt
  obtain⟨h0,h1,h2,h3,h5,hn,⟨ad,cap,h4,hcap,hm,hd⟩,ht⟩:=h
  refine⟨(hc _).trans h0,(hc _).trans h1,(hc _).trans h2,(hc _).trans h3,(hc _).trans h5,hn,⟨ad,cap,(hc _).trans h4,hcap,hm,?_⟩,ih2 b _ hlt ht⟩
  rcases hd with hd|⟨b',o',e,hb',hd⟩
  ·exact .inl hd
  exact .inr ⟨b',o',e,Zd hb' hb.size,ih1 b' o' hb' hd⟩
theorem AS.below {w w':World} (hb:Below w.heap.size w w') {args:PL} {ad:Option Addr} (h:AS w args ad):AS w' args ad:=by
 rcases h with h|⟨b,o,e,hlt,h⟩
 ·exact .inl h
 exact .inr ⟨b,o,e,Zd hlt hb.size,h.below hb _ _ _ hlt⟩
theorem AE.below {w w':World} (hb:Below w.heap.size w w') {e:PE} {ad:Option Addr} {cap:Nat} (h:AE w e ad cap):AE w' e ad cap:=⟨h.nums,h.len,h.args.below hb⟩
section
variable {H:Type} {enc:TypeId × Value→H} {w:World} {base:Nat} {sp:Nat→Bool} {held:Bool}
theorem XE:(Tryz.prog.fieldsOf 88).toList.map (fun f=>(f.type,f.offset))=[(3,0),(9,1),(2,2),(2,3),(86,4),(3,5)]:=by kernel_rfl
theorem Vz:Tryz.prog.underlying 88=some (.struct (Tryz.prog.fieldsOf 88)):=by kernel_rfl
theorem Qw:Tryz.prog.cellsOf 88=6:=by kernel_rfl
theorem VP:Tryz.prog.cellsOf 86=1:=by kernel_rfl
theorem Qo {cs:List Value} {fs:Array Field} {l:List (TypeId × Nat)} {xs:List (DataW H × List MemPlace)} {n:Nat} (hmap:fs.toList.map (fun f=>(f.type,f.offset))=l) (hlen:xs.length=fs.size)
  (hf:∀(i:Nat) (f:Field),fs[i]?=some f→DataW.trod enc Tryz.prog w base sp held n f.type ((cs.drop f.offset).take (Tryz.prog.cellsOf f.type))=xs[i]?) (i:Nat) (ft:TypeId) (o:Nat) (hl:l[i]?=some (ft,o)) (hc:Tryz.prog.cellsOf ft=1) :
  ∃y,DataW.trod enc Tryz.prog w base sp held n ft ((cs.drop o).take 1)=some y:=by
 obtain⟨f,h1,rfl,rfl⟩:=K1 hmap i ft o hl
 have h2:=hf i f h1
 rw[hc] at h2
 have hi:i<xs.length:=by rw[hlen];exact(Zq.1 h1).1
 rw[Ze hi] at h2
 exact⟨_,h2⟩
theorem qg (b o:Nat) :
  ∀(m i:Nat),(∀j,i≤j→j<i+m→∃e ad cap,AE w e ad cap∧w.cell? ⟨b,o+j*6,none⟩=some (.int .i64 e.k)∧w.cell? ⟨b,o+j*6+1,none⟩=some (.string e.nm)∧w.cell? ⟨b,o+j*6+2,none⟩=some (.int .i64 e.n) ∧
   w.cell? ⟨b,o+j*6+3,none⟩=some (.int .i64 e.d)∧w.cell? ⟨b,o+j*6+4,none⟩=some (.slice ad e.args.len cap)∧w.cell? ⟨b,o+j*6+5,none⟩=some (.int .i64 e.a)) →
   ∃l:PL,l.len=m∧AC w l b (o+i*6):=by
 intro m
 induction m with
 | zero=>intro i _;exact⟨.nil,rfl,trivial⟩
 | succ m ih =>
  intro i h
  obtain⟨l,hl,hc⟩:=ih (i+1) (fun j h1 h2=>h j oq oq)
  obtain⟨e,ad,cap,he,c0,c1,c2,c3,c4,c5⟩:=h i (Zc _) oq
  refine⟨.cons e.k e.nm e.n e.d e.args e.a l,by simp[PL.len,hl],c0,c1,c2,c3,c5,he.nums,⟨ad,cap,c4,he.len.1,he.len.2,he.args⟩,?_⟩
  rw[show o+i*6+6=o+(i+1)*6 by omega];exact hc
theorem uZ:∀(fuel:Nat),
  (∀cs x,DataW.trod enc Tryz.prog w base sp held fuel 88 cs=some x→∃e ad cap,AE w e ad cap∧cs=[.int .i64 e.k,.string e.nm,.int .i64 e.n,.int .i64 e.d,.slice ad e.args.len cap,.int .i64 e.a]) ∧
  (∀cs x,DataW.trod enc Tryz.prog w base sp held fuel 86 cs=some x→∃l ad cap,AS w l ad∧l.len≤cap∧cap≤9223372036854775807∧cs=[.slice ad l.len cap]):=by
 intro fuel
 induction fuel using Nat.strongRecOn with
 | _ fuel ih =>
  refine⟨fun cs x h=>?_,fun cs x h=>?_⟩
  ·obtain⟨xs,n,rfl,_,hlen,hxl,hf⟩:=DataW.trod_struct Vz h
   rw[Qw] at hlen
   obtain⟨y0,h0⟩:=Qo XE hxl hf 0 3 0 rfl intCells
   obtain⟨y1,h1⟩:=Qo XE hxl hf 1 9 1 rfl XH
   obtain⟨y2,h2⟩:=Qo XE hxl hf 2 2 2 rfl Qm
   obtain⟨y3,h3⟩:=Qo XE hxl hf 3 2 3 rfl Qm
   obtain⟨y4,h4⟩:=Qo XE hxl hf 4 86 4 rfl VP
   obtain⟨y5,h5⟩:=Qo XE hxl hf 5 3 5 rfl intCells
   obtain⟨k,e0,_,w0⟩:=DataW.trod_int Tryz.underlying3 h0
   obtain⟨nm,e1,_,w1⟩:=DataW.trod_string Tryz.underlying9 h1
   obtain⟨m,e2,_,w2⟩:=DataW.trod_int Tryz.underlying2 h2
   obtain⟨d,e3,_,w3⟩:=DataW.trod_int Tryz.underlying2 h3
   obtain⟨l,ad,cap,hs,hl1,hl2,e4⟩:=(ih n oq).2 _ _ h4
   obtain⟨a,e5,_,w5⟩:=DataW.trod_int Tryz.underlying3 h5
   refine⟨⟨k,nm,m,d,l,a⟩,ad,cap,⟨⟨QN w0,QN w2,QN w3,QN w5,XJ w1⟩,⟨hl1,hl2⟩,hs⟩,?_⟩
   have g0:=one_cell e0
   have g1:=one_cell e1
   have g2:=one_cell e2
   have g3:=one_cell e3
   have g4:=one_cell e4
   have g5:=one_cell e5
   refine List.ext_getElem? fun i=>?_
   by_cases hi:i<6
   ·obtain rfl|rfl|rfl|rfl|rfl|rfl:i=0∨i=1∨i=2∨i=3∨i=4∨i=5:=oq
    ·exact g0
    ·exact g1
    ·exact g2
    ·exact g3
    ·exact g4
    exact g5
   rw[Yc oq,Yc (by simp;omega)]
  rcases DataW.trod_slice Tryz.underlying86 h with ⟨rfl,_⟩|⟨ad,len,cap,elems,rest,n,rfl,rfl,_,_,hl,hm,hel,hall,_⟩
  ·exact⟨.nil,none,0,.inl rfl,Zc _,Zk _,rfl⟩
  have hm':cap≤9223372036854775807:=XJ hm
  by_cases h0:len=0
  ·subst h0;exact⟨.nil,some ad,cap,.inl rfl,Zk _,hm',rfl⟩
  rw[Qw] at hall
  have key:∀i,i<len→∃cs',w.cells? base (ad.add (i*6)) 6=some cs'∧∃y,DataW.trod enc Tryz.prog w base sp held n 88 cs'=some y:=by
   intro i hi
   have h1:=hall i hi
   rw[Ze oq] at h1
   obtain⟨cs',h2,h3⟩:=Option.bind_eq_some_iff.1 h1
   exact⟨cs',h2,_,h3⟩
  obtain⟨b,o,spt⟩:=ad
  obtain⟨cs0,hc0,y0,hy0⟩:=key 0 oq
  obtain⟨_,hlen0,hcell0⟩:=World.cells?_some hc0
  have hspot:spt=none:=by
   have:=hcell0 0 oq
   rw[Ze oq] at this
   simpa [Addr.add] using World.cell?_spot this
  subst hspot
  have hcells:∀j,0≤j→j<0+len→∃e ad cap,AE w e ad cap∧w.cell? ⟨b,o+j*6,none⟩=some (.int .i64 e.k)∧w.cell? ⟨b,o+j*6+1,none⟩=some (.string e.nm)∧w.cell? ⟨b,o+j*6+2,none⟩=some (.int .i64 e.n) ∧
    w.cell? ⟨b,o+j*6+3,none⟩=some (.int .i64 e.d)∧w.cell? ⟨b,o+j*6+4,none⟩=some (.slice ad e.args.len cap)∧w.cell? ⟨b,o+j*6+5,none⟩=some (.int .i64 e.a):=by
   intro j _ hj
   obtain⟨cs',h2,y,hy⟩:=key j oq
   obtain⟨e,ad,cap,he,rfl⟩:=(ih n oq).1 _ _ hy
   obtain⟨_,_,hcell⟩:=World.cells?_some h2
   have hadd:∀i,((⟨b,o,none⟩:Addr).add (j*6)).add i=⟨b,o+j*6+i,none⟩:=by
    intro i;unfold Addr.add;by_cases h1:j*6=0<;>by_cases h2:i=0<;>simp[h1,h2]
   refine⟨e,ad,cap,he,?_,?_,?_,?_,?_,?_⟩
   ·have:=hcell 0 oq;rw[hadd] at this;exact this
   ·have:=hcell 1 oq;rw[hadd] at this;exact this
   ·have:=hcell 2 oq;rw[hadd] at this;exact this
   ·have:=hcell 3 oq;rw[hadd] at this;exact this
   ·have:=hcell 4 oq;rw[hadd] at this;exact this
   have:=hcell 5 oq;rw[hadd] at this;exact this
  obtain⟨l,hll,hac⟩:=qg (w:=w) b o len 0 hcells
  have hb:b<w.heap.size:=by
   obtain⟨e,_,_,_,hc,_⟩:=hcells 0 (Zc _) oq
   exact World.block_lt_of_cell? _ _ hc
  exact⟨l,some ⟨b,o,none⟩,cap,.inr ⟨b,o,rfl,hb,by simpa using hac⟩,oq,hm',by rw[hll]⟩
end
end Go.Proofs.YtgigilkpndhddaaGreatDoor.syn
