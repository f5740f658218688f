/-
  Parts of the proof: StrMap, MapPtr, Open.
-/
import Derived.MapKept
import Derived.Test.YtpjficjlfibibaaGreatDoorQ00
import Derived.Maps.Own
import Derived.Test.YtpjficjlfibibaaGreatDoorChecked
import Derived.WalkKit
import Derived.ProofKit
import Derived.OpenShut
import Derived.Below
import Derived.ChangeArms
import Derived.DataReads
namespace Go.Proofs.YtpjficjlfibibaaGreatDoor.syn
open Go.RowKit
set_option linter.unusedVariables false
set_option linter.unusedSimpArgs false
def MapS (w:World) (mb:Nat) (L:List (ByteArray × Value)):Prop :=
 ∃ arr clock,w.heap[mb]? = some (.map arr clock) ∧ arr.toList.map (fun e => (e.key,e.val)) = L.map (fun p => (Value.string p.1,p.2))
def findS (k:ByteArray):List (ByteArray × Value) → Nat → Option (Nat × Value)
 | [],_ => none
 | p :: L,i => if k = p.1 then some (i,p.2) else findS k L (i + 1)
def getS (k:ByteArray):List (ByteArray × Value) → Option Value
 | [] => none
 | p :: L => if k = p.1 then some p.2 else getS k L
def putS (k:ByteArray) (v:Value):List (ByteArray × Value) → List (ByteArray × Value)
 | [] => [(k,v)]
 | p :: L => if k = p.1 then (k,v) :: L else p :: putS k v L
theorem strEq (a b:ByteArray):(a == b) = decide (a = b):=by
 obtain ⟨x⟩:=a
 obtain ⟨y⟩:=b
 have h1:((⟨x⟩:ByteArray) == ⟨y⟩) = (x == y):=rfl
 rw [h1]
 by_cases h:x = y
 ·subst h;simp
 ·have h2:¬ ((⟨x⟩:ByteArray) = ⟨y⟩):=by intro e;injection e with e;exact h e
  rw [decide_eq_false h2];simpa using h
theorem strSelf (a:ByteArray):(a == a) = true:=by rw [strEq];simp
theorem find_nowS (k:ByteArray):∀ (es:List MapEntry) (L:List (ByteArray × Value)) (i:Nat),es.map (fun e => (e.key,e.val)) = L.map (fun p => (Value.string p.1,p.2)) →
  Instr.findNow .string (.string k) es i = some (findS k L i):=by
 intro es
 induction es with
 | nil => intro L i h;cases L with
  | nil => rfl
  | cons p L => simp at h
 | cons e es ih =>
  intro L i h
  cases L with
  | nil => simp at h
  | cons p L =>
   simp only [List.map_cons,List.cons.injEq,Prod.mk.injEq] at h
   obtain ⟨⟨h1,h2⟩,h3⟩:=h
   unfold Instr.findNow
   rw [h1]
   simp only [Instr.sameNow,strEq,findS]
   by_cases hk:k = p.1
   ·simp [hk,h2]
   ·simp [hk,ih L (i + 1) h3]
theorem findS_get (k:ByteArray):∀ (L:List (ByteArray × Value)) (i:Nat),(findS k L i).map (·.2) = getS k L:=by
 intro L
 induction L with
 | nil => intro i;rfl
 | cons p L ih =>
  intro i
  unfold findS getS
  by_cases h:k = p.1
  ·rw [if_pos h,if_pos h];rfl
  ·rw [if_neg h,if_neg h];exact ih (i + 1)
theorem findS_none (k:ByteArray) (v:Value):∀ (L:List (ByteArray × Value)) (j:Nat),findS k L j = none → putS k v L = L ++ [(k,v)]:=by
 intro L
 induction L with
 | nil => intro j _;rfl
 | cons p L ih =>
  intro j h
  unfold findS at h
  by_cases hk:k = p.1
  ·rw [if_pos hk] at h;cases h
  ·rw [if_neg hk] at h
   unfold putS
   rw [if_neg hk,ih (j + 1) h];rfl
theorem findS_some (k:ByteArray) (v:Value):∀ (L:List (ByteArray × Value)) (j i:Nat) (u:Value),findS k L j = some (i,u) → ∃ n,i = j + n ∧ ∃ x,L[n]? = some (k,x) ∧ putS k v L = L.modify n (fun _ => (k,v)):=by
 intro L
 induction L with
 | nil => intro j i u h;cases h
 | cons p L ih =>
  intro j i u h
  unfold findS at h
  by_cases hk:k = p.1
  ·rw [if_pos hk] at h
   obtain ⟨rfl,_⟩:j = i ∧ _:=by simpa using h
   refine ⟨0,rfl,p.2,?_,?_⟩
   ·rw [hk];rfl
   ·unfold putS;rw [if_pos hk];rfl
  ·rw [if_neg hk] at h
   obtain ⟨n,rfl,x,h1,h2⟩:=ih (j + 1) i u h
   refine ⟨n + 1,by omega,x,by simpa using h1,?_⟩
   unfold putS;rw [if_neg hk,h2];rfl
structure StrMap (T K E:TypeId) (z:Value):Prop where
 map:Tryz.prog.underlying T = some (.map K E)
 key:Tryz.prog.underlying K = some .string
 zero:∀ w,(zeroValue E).run Tryz.prog w = .ok z w
 check:∀ (b:Bool) (s:ByteArray) (w:World),(Instr.checkKey b 10000 K (.string s)).run Tryz.prog w = .ok () w
theorem map_lookS {T K E:TypeId} {z:Value} (M:StrMap T K E z) {w:World} {mb:Nat} {L:List (ByteArray × Value)} (h:MapS w mb L) (k:ByteArray) (c:Bool) :
  (Instr.lookup T (.map (some mb)) (.string k) c).run Tryz.prog w = .ok (if c then .tuple #[(getS k L).getD z,.bool (getS k L).isSome] else (getS k L).getD z) w:=by
 obtain ⟨arr,clock,hh,he⟩:=h
 have hu:(underlying T).run Tryz.prog w = .ok (.map K E) w:=by rw [run_underlying M.map]
 have hk:(underlying K).run Tryz.prog w = .ok .string w:=by rw [run_underlying M.key]
 have hg:(getObj mb).run Tryz.prog w = .ok (.map arr clock) w:=run_getObj_map (w:=w) mb arr clock hh
 have hc:=M.check arr.isEmpty k w
 have hfin:=findS_get k L 0
 have hfk:(Instr.findKey K (.string k) arr.toList).run Tryz.prog w = .ok (findS k L 0) w:=by
  unfold Instr.findKey
  simp only [Sem.run_bind,hk,Result.andThen_ok]
  rw [find_nowS k arr.toList L 0 he];rfl
 simp only [Instr.lookup,Sem.run_bind,hu,Result.andThen_ok,hg,Sem.run_pure]
 rw [hc]
 simp only [Result.andThen_ok]
 rw [hfk]
 simp only [Result.andThen_ok]
 rw [← hfin]
 cases hr:findS k L 0 with
 | none => simp only [Sem.run_bind,M.zero,Result.andThen_ok,Sem.run_pure];cases c <;> rfl
 | some p => obtain ⟨i,v⟩:=p;simp only [Sem.run_bind,Result.andThen_ok,Sem.run_pure];cases c <;> rfl
def World.putM (w:World) (mb:Nat) (o:Obj):World:={ w with heap:=w.heap.setIfInBounds mb o }
theorem same_bitsS (k:ByteArray):Instr.sameBits 10000 (.string k) (.string k) = true:=by
 show Instr.sameBits (9999 + 1) _ _ = true
 simp [Instr.sameBits,strSelf]
theorem map_putS {T K E:TypeId} {z:Value} (M:StrMap T K E z) {w:World} {mb:Nat} {L:List (ByteArray × Value)} (h:MapS w mb L) (k:ByteArray) (v:Value) :
  ∃ arr clock,(Instr.mapUpdate T (.map (some mb)) (.string k) v).run Tryz.prog w = .ok () (World.putM w mb (.map arr clock)) ∧ MapS (World.putM w mb (.map arr clock)) mb (putS k v L):=by
 obtain ⟨arr,clock,hh,he⟩:=h
 have hu:(underlying T).run Tryz.prog w = .ok (.map K E) w:=by rw [run_underlying M.map]
 have hk:(underlying K).run Tryz.prog w = .ok .string w:=by rw [run_underlying M.key]
 have hg:(getObj mb).run Tryz.prog w = .ok (.map arr clock) w:=run_getObj_map (w:=w) mb arr clock hh
 have hc:=M.check false k w
 have hfk:(Instr.findKey K (.string k) arr.toList).run Tryz.prog w = .ok (findS k L 0) w:=by
  unfold Instr.findKey
  simp only [Sem.run_bind,hk,Result.andThen_ok]
  rw [find_nowS k arr.toList L 0 he];rfl
 have hlt:=lt_of_block hh
 have hnew:∀ o,(World.putM w mb o).heap[mb]? = some o:=by
  intro o
  show (w.heap.setIfInBounds mb o)[mb]? = some o
  rw [Array.getElem?_setIfInBounds_self_of_lt hlt]
 cases hr:findS k L 0 with
 | none =>
  refine ⟨arr.push { key:=.string k,val:=v,born:=clock },clock + 1,?_,⟨_,_,hnew _,?_⟩⟩
  ·simp only [Instr.mapUpdate,Sem.run_bind,hu,Result.andThen_ok,hg]
   rw [hc]
   simp only [Result.andThen_ok]
   rw [hfk,hr]
   simp only [Result.andThen_ok]
   exact Go.MapKept.run_setObj_map _ hh
  ·rw [findS_none k v L 0 hr]
   simp [he]
 | some q =>
  obtain ⟨i,u⟩:=q
  obtain ⟨n,hn,x,h1,h2⟩:=findS_some k v L 0 i u hr
  obtain rfl:i = n:=by omega
  have hkey:((arr[i]?).map (·.key)).getD (.string k) = .string k:=by
   have:=congrArg (fun l => l[i]?) he
   simp only [List.getElem?_map,h1,Option.map_some] at this
   cases ha:arr[i]? with
   | none => rfl
   | some e => simp [ha] at this ⊢;exact this.1
  have hst:(Instr.keyThatStays (.string k) (.string k)).run Tryz.prog w = .ok (.string k) w:=by
   unfold Instr.keyThatStays;rw [same_bitsS];rfl
  refine ⟨arr.modify i fun e => { e with key:=.string k,val:=v },clock,?_,⟨_,_,hnew _,?_⟩⟩
  ·simp only [Instr.mapUpdate,Sem.run_bind,hu,Result.andThen_ok,hg]
   rw [hc]
   simp only [Result.andThen_ok]
   rw [hfk,hr]
   simp only [Result.andThen_ok,Sem.run_bind,hkey]
   rw [hst]
   simp only [Result.andThen_ok]
   exact Go.MapKept.run_setObj_map _ hh
  ·rw [h2,Array.toList_modify]
   apply List.ext_getElem?
   intro j
   have hj:=congrArg (fun l => l[j]?) he
   simp only [List.getElem?_map,List.getElem?_modify] at hj ⊢
   by_cases hij:i = j
   ·subst hij
    rw [h1] at hj ⊢
    cases ha:arr.toList[i]? with
    | none => rw [ha] at hj;simp at hj
    | some e => simp
   ·simp only [hij,if_false]
    cases ha:arr.toList[j]? <;> cases hb:L[j]? <;> rw [ha,hb] at hj <;> simp at hj ⊢
    exact hj
theorem MapS.below {w w':World} {mb:Nat} {L:List (ByteArray × Value)} (h:MapS w mb L) (hb:Below w.heap.size w w'):MapS w' mb L:=by
 obtain ⟨arr,clock,h1,h2⟩:=h
 exact ⟨arr,clock,(hb.block mb (lt_of_block h1)).trans h1,h2⟩
theorem MapS.lt {w:World} {mb:Nat} {L:List (ByteArray × Value)} (h:MapS w mb L):mb < w.heap.size:=by
 obtain ⟨arr,clock,h1,h2⟩:=h
 exact lt_of_block h1
theorem MapS.new (w:World):MapS (w.alloc (.map #[] 0)) w.heap.size []:=⟨#[],0,heap_new w _,rfl⟩
theorem below_putM {B:Nat} {a w:World} (h:Below B a w) {mb:Nat} (hm:B ≤ mb) (o:Obj):Below B a (World.putM w mb o):=by
 refine h.trans ⟨rfl,rfl,rfl,by simp [World.putM],fun k hk => ?_⟩
 show (w.heap.setIfInBounds mb o)[k]? = _
 rw [Array.getElem?_setIfInBounds_ne oq]
theorem upon_putM {a w:World} {mb:Nat} (h:Upon mb a w) (o:Obj):Upon mb a (World.putM w mb o):=by
 refine h.trans ⟨rfl,rfl,rfl,by simp [World.putM],fun k hk hne => ?_⟩
 show (w.heap.setIfInBounds mb o)[k]? = _
 rw [Array.getElem?_setIfInBounds_ne oq]
theorem wpList_lookS {T K E:TypeId} {z:Value} (M:StrMap T K E z) (w:World) {ops:Array Oper} {rest:List Oper} {o:Oper} {a:Act} {Q:Exit → Act → World → Prop}
  (hg:o.guard = none) (m x:Operand) (c:Bool) (hop:o.op = Op.lookup T m x c) (mb:Nat) (L:List (ByteArray × Value)) (k:ByteArray)
  (hm:a.eval m = .map (some mb)) (hx:a.eval x = .string k) (h:MapS w mb L)
  (hK:wpList Tryz.prog ops Q rest (a.put o.dst (if c then .tuple #[(getS k L).getD z,.bool (getS k L).isSome] else (getS k L).getD z)) w) :
  wpList Tryz.prog ops Q (o :: rest) a w:=by
 refine wpList_plain hg fun K' hK' => ?_
 have hrun:=map_lookS M h k c
 have e:(execOp a.eval o).run Tryz.prog w = .ok (.value (if c then .tuple #[(getS k L).getD z,.bool (getS k L).isSome] else (getS k L).getD z)) w:=by
  simp [execOp,hop,hm,hx,hrun]
 unfold Oper.wp
 rw [e]
 exact hK' _ _ hK
theorem wpList_lookI {T K E:TypeId} {z:Value} (M:StrMap T K E z) (w:World) {ops:Array Oper} {rest:List Oper} {o:Oper} {a:Act} {Q:Exit → Act → World → Prop}
  (hg:o.guard = none) (m x:Operand) (hop:o.op = Op.lookup T m x false) (mb:Nat) (L:List (ByteArray × Value)) (k:ByteArray) (v:Value)
  (hm:a.eval m = .map (some mb)) (hx:a.eval x = .string k) (h:MapS w mb L) (hs:(getS k L).getD z = v)
  (hK:wpList Tryz.prog ops Q rest (a.put o.dst v) w) :
  wpList Tryz.prog ops Q (o :: rest) a w :=
 wpList_lookS M w hg m x false hop mb L k hm hx h (by simpa only [hs,if_false,Bool.false_eq_true] using hK)
theorem wpList_putS {T K E:TypeId} {z:Value} (M:StrMap T K E z) (w:World) {ops:Array Oper} {rest:List Oper} {o:Oper} {a:Act} {Q:Exit → Act → World → Prop}
  (hg:o.guard = none) (m x v:Operand) (hop:o.op = Op.mapUpdate T m x v) (mb:Nat) (L:List (ByteArray × Value)) (k:ByteArray) (u:Value)
  (hm:a.eval m = .map (some mb)) (hx:a.eval x = .string k) (hv:a.eval v = u) (h:MapS w mb L)
  (hK:∀ arr clock,MapS (World.putM w mb (.map arr clock)) mb (putS k u L) → wpList Tryz.prog ops Q rest (a.put o.dst undef) (World.putM w mb (.map arr clock))) :
  wpList Tryz.prog ops Q (o :: rest) a w:=by
 refine wpList_plain hg fun K' hK' => ?_
 obtain ⟨arr,clock,hrun,h1⟩:=map_putS M h k u
 unfold Oper.wp
 simp [execOp,hop,hm,hx,hv,hrun,Result.andThen]
 exact hK' _ _ (hK arr clock h1)
theorem wpList_lookS_yes2 {T K E:TypeId} {z:Value} (M:StrMap T K E z) (w:World) {ops:Array Oper} {rest:List Oper} {o:Oper} {a:Act} {Q:Exit → Act → World → Prop}
  (hg:o.guard = none) (m x:Operand) (hop:o.op = Op.lookup T m x true) (mb:Nat) (L:List (ByteArray × Value)) (k:ByteArray) (v:Value)
  (hm:a.eval m = .map (some mb)) (hx:a.eval x = .string k) (h:MapS w mb L) (hs:getS k L = some v)
  (hK:wpList Tryz.prog ops Q rest (a.put o.dst (.tuple #[v,.bool true])) w) :
  wpList Tryz.prog ops Q (o :: rest) a w :=
 wpList_lookS M w hg m x true hop mb L k hm hx h (by simpa only [hs,Option.getD,Option.isSome,if_true,if_false,Bool.false_eq_true] using hK)
theorem wpList_lookS_no2 {T K E:TypeId} {z:Value} (M:StrMap T K E z) (w:World) {ops:Array Oper} {rest:List Oper} {o:Oper} {a:Act} {Q:Exit → Act → World → Prop}
  (hg:o.guard = none) (m x:Operand) (hop:o.op = Op.lookup T m x true) (mb:Nat) (L:List (ByteArray × Value)) (k:ByteArray)
  (hm:a.eval m = .map (some mb)) (hx:a.eval x = .string k) (h:MapS w mb L) (hs:getS k L = none)
  (hK:wpList Tryz.prog ops Q rest (a.put o.dst (.tuple #[z,.bool false])) w) :
  wpList Tryz.prog ops Q (o :: rest) a w :=
 wpList_lookS M w hg m x true hop mb L k hm hx h (by simpa only [hs,Option.getD,Option.isSome,if_true,if_false,Bool.false_eq_true] using hK)
theorem wpList_lookS_yes1 {T K E:TypeId} {z:Value} (M:StrMap T K E z) (w:World) {ops:Array Oper} {rest:List Oper} {o:Oper} {a:Act} {Q:Exit → Act → World → Prop}
  (hg:o.guard = none) (m x:Operand) (hop:o.op = Op.lookup T m x false) (mb:Nat) (L:List (ByteArray × Value)) (k:ByteArray) (v:Value)
  (hm:a.eval m = .map (some mb)) (hx:a.eval x = .string k) (h:MapS w mb L) (hs:getS k L = some v)
  (hK:wpList Tryz.prog ops Q rest (a.put o.dst (v)) w) :
  wpList Tryz.prog ops Q (o :: rest) a w :=
 wpList_lookS M w hg m x false hop mb L k hm hx h (by simpa only [hs,Option.getD,Option.isSome,if_true,if_false,Bool.false_eq_true] using hK)
theorem clocksMap:StrMap 115 9 49 (.agg #[.int .i64 0,.int .i64 0]):=⟨by kernel_rfl,by kernel_rfl,fun w => by kernel_rfl,fun b s w => by cases b <;> kernel_rfl⟩
theorem namesMap:StrMap 285 9 3 (.int .i64 0):=⟨by kernel_rfl,by kernel_rfl,fun w => by kernel_rfl,fun b s w => by cases b <;> kernel_rfl⟩
theorem intsMap:StrMap 184 9 3 (.int .i64 0):=⟨by kernel_rfl,by kernel_rfl,fun w => by kernel_rfl,fun b s w => by cases b <;> kernel_rfl⟩
def PtrOk (w:World) (v:Value):Prop:=∃ b o cs t fr,v = .pointer (some ⟨b,o,none⟩) ∧ w.heap[b]? = some (.cells cs t fr) ∧ w.frozen? ⟨b,o,none⟩ = false
theorem PtrOk.keep {w w':World} {v:Value} (h:PtrOk w v) (hk:∀ (b:Nat) (cs:Array Value) (t:TypeId) (fr:Nat × Nat),w.heap[b]? = some (Obj.cells cs t fr) → ∃ cs',w'.heap[b]? = some (Obj.cells cs' t fr)):PtrOk w' v:=by
 obtain ⟨b,o,cs,t,fr,rfl,h1,h2⟩:=h
 obtain ⟨cs',h3⟩:=hk b cs t fr h1
 refine ⟨b,o,cs',t,fr,rfl,h3,?_⟩
 obtain ⟨lo,hi⟩:=fr
 simp [World.frozen?,h1] at h2
 simp [World.frozen?,h3]
 exact h2
theorem drewN0 (w:World):w.drewN 0 = w:=rfl
theorem same_any {P:Program} {w:World} {x y:Addr} (hx:PtrOk w (.pointer (some x))) (hy:PtrOk w (.pointer (some y))):∃ r n,(sameAddr x y).run P w = .ok r (w.drewN n):=by
 obtain ⟨b1,o1,c1,t1,f1,e1,h1,z1⟩:=hx
 obtain ⟨b2,o2,c2,t2,f2,e2,h2,z2⟩:=hy
 injection e1 with e1;injection e1 with e1;subst e1
 injection e2 with e2;injection e2 with e2;subst e2
 by_cases hb:b1 = b2
 ·subst hb
  exact ⟨_,0,by rw [drewN0];simp [sameAddr];rfl⟩
 ·have hb':(b1 == b2) = false:=by simpa using hb
  have s1:w.shape? b1 = some (t1,c1.size):=by simp [World.shape?,h1]
  have s2:w.shape? b2 = some (t2,c2.size):=by simp [World.shape?,h2]
  simp only [sameAddr,hb',Bool.false_eq_true,if_false,Sem.run_bind,run_frozen,Result.andThen_ok,z1,z2,Bool.false_and,noView,viewAt,run_shape,s1,s2,Option.isSome,if_true,Sem.run_pure,Sem.run_pure,mayBeOne,stringish]
  generalize (_ || _ || _:Bool) = q
  cases q with
  | false => exact ⟨false,0,by rw [drewN0];simp⟩
  | true =>
   simp only [if_true,Sem.run_bind,run_choose_drew]
   split
   ·exact ⟨_,0,by rw [drewN0];simp;rfl⟩
   ·exact ⟨_,1,by simp;exact ⟨rfl,rfl⟩⟩
structure PtrMap (T K E X:TypeId) (z:Value):Prop where
 map:Tryz.prog.underlying T = some (.map K E)
 key:Tryz.prog.underlying K = some (.pointer X)
 size:∀ w,∃ n,(sizeOf X).run Tryz.prog w = .ok (n + 1) w
 zero:∀ w,(zeroValue E).run Tryz.prog w = .ok z w
 check:∀ (b:Bool) (s:Option Addr) (w:World),(Instr.checkKey b 10000 K (.pointer s)).run Tryz.prog w = .ok () w
theorem eq_any {T K E X:TypeId} {z:Value} (M:PtrMap T K E X z) {w:World} {u v:Value} (hu:PtrOk w u) (hv:PtrOk w v):∃ r n,(Op.equal K u v).run Tryz.prog w = .ok r (w.drewN n):=by
 have hu':=hu
 have hv':=hv
 obtain ⟨b1,o1,c1,t1,f1,rfl,h1,z1⟩:=hu'
 obtain ⟨b2,o2,c2,t2,f2,rfl,h2,z2⟩:=hv'
 obtain ⟨r,n,h⟩:=same_any (P:=Tryz.prog) hu hv
 obtain ⟨m,hz⟩:=M.size w
 refine ⟨r,n,?_⟩
 obtain ⟨d,hd⟩:∃ d,Op.maxDepth = d + 1:=⟨9999,rfl⟩
 unfold Op.equal
 rw [hd]
 simp [Op.equalIn,run_underlying M.key,hz,h]
theorem drewN_drewN (w:World) (a b:Nat):(w.drewN a).drewN b = w.drewN (a + b):=by simp [World.drewN,Nat.add_assoc]
theorem PtrOk.drewN {w:World} {v:Value} (h:PtrOk w v) (n:Nat):PtrOk (w.drewN n) v:=h.keep fun b cs t fr hb => ⟨cs,hb⟩
theorem ask_any {T K E X:TypeId} {z:Value} (M:PtrMap T K E X z) (k:Value):∀ (es:List MapEntry) (i:Nat) (w:World),PtrOk w k → (∀ e ∈ es,PtrOk w e.key) →
  ∃ r n,(Instr.findAsking K k es i).run Tryz.prog w = .ok r (w.drewN n) ∧ ∀ j v,r = some (j,v) → ∃ e ∈ es,e.val = v:=by
 intro es
 induction es with
 | nil => intro i w _ _;exact ⟨none,0,rfl,fun j v h => (by cases h)⟩
 | cons e es ih =>
  intro i w hk he
  obtain ⟨r,n,h⟩:=eq_any M hk (he e (by simp))
  cases r with
  | true => exact ⟨some (i,e.val),n,by simp [Instr.findAsking,h],fun j v hj => by injection hj with hj;injection hj with _ hj;exact ⟨e,by simp,hj⟩⟩
  | false =>
   obtain ⟨r2,m,h2,h3⟩:=ih (i + 1) (w.drewN n) (hk.drewN n) (fun q hq => (he q (by simp [hq])).drewN n)
   rw [drewN_drewN] at h2
   refine ⟨r2,n + m,by simp [Instr.findAsking,h,h2],fun j v hj => ?_⟩
   obtain ⟨q,hq,hv⟩:=h3 j v hj
   exact ⟨q,by simp [hq],hv⟩
theorem key_any {T K E X:TypeId} {z:Value} (M:PtrMap T K E X z) (k:Value) (es:List MapEntry) (w:World) (hk:PtrOk w k) (he:∀ e ∈ es,PtrOk w e.key) :
  ∃ r n,(Instr.findKey K k es).run Tryz.prog w = .ok r (w.drewN n) ∧ ∀ j v,r = some (j,v) → ∃ e ∈ es,e.val = v:=by
 have hu:(underlying K).run Tryz.prog w = .ok (.pointer X) w:=by rw [run_underlying M.key]
 unfold Instr.findKey
 simp only [Sem.run_bind,hu,Result.andThen_ok]
 obtain ⟨b1,o1,c1,t1,f1,rfl,h1,z1⟩:=id hk
 cases es with
 | nil => exact ⟨none,0,rfl,fun j v h => (by cases h)⟩
 | cons e es =>
  have:Instr.findNow (.pointer X) (.pointer (some ⟨b1,o1,none⟩)) (e :: es) 0 = none:=by unfold Instr.findNow Instr.sameNow;rfl
  rw [this]
  exact ask_any M _ _ 0 w hk he
def MapP (w:World) (mb:Nat) (K V:Value → Prop):Prop:=∃ arr clock,w.heap[mb]? = some (.map arr clock) ∧ ∀ e ∈ arr.toList,K e.key ∧ V e.val
theorem map_lookP {T K E X:TypeId} {z:Value} (M:PtrMap T K E X z) {w:World} {mb:Nat} {K' V:Value → Prop} (h:MapP w mb K' V) (hK':∀ v,K' v → PtrOk w v) (k:Value) (hk:PtrOk w k) :
  ∃ u b n,(Instr.lookup T (.map (some mb)) k true).run Tryz.prog w = .ok (.tuple #[u,.bool b]) (w.drewN n) ∧ (b = true → V u) ∧ (b = false → u = z):=by
 obtain ⟨arr,clock,hh,he⟩:=h
 have hu:(underlying T).run Tryz.prog w = .ok (.map K E) w:=by rw [run_underlying M.map]
 have hg:(getObj mb).run Tryz.prog w = .ok (.map arr clock) w:=run_getObj_map (w:=w) mb arr clock hh
 obtain ⟨b1,o1,c1,t1,f1,rfl,h1,z1⟩:=id hk
 have hc:=M.check arr.isEmpty (some ⟨b1,o1,none⟩) w
 obtain ⟨r,n,hr,hv⟩:=key_any M _ arr.toList w hk (fun e h => hK' _ (he e h).1)
 simp only [Instr.lookup,Sem.run_bind,hu,Result.andThen_ok,hg,Sem.run_pure]
 rw [hc]
 simp only [Result.andThen_ok]
 rw [hr]
 simp only [Result.andThen_ok]
 cases r with
 | none => exact ⟨z,false,n,by simp only [Sem.run_bind,M.zero,Result.andThen_ok,Sem.run_pure];rfl,fun h => (by cases h),fun _ => rfl⟩
 | some p =>
  obtain ⟨i,v⟩:=p
  obtain ⟨e,h2,h3⟩:=hv i v rfl
  exact ⟨v,true,n,by simp only [Sem.run_bind,Result.andThen_ok,Sem.run_pure];rfl,fun _ => h3 ▸ (he e h2).2,fun h => (by cases h)⟩
theorem stays_any {P:Program} (a b:Value) (w:World):∃ r n,(Instr.keyThatStays a b).run P w = .ok r (w.drewN n) ∧ (r = a ∨ r = b):=by
 unfold Instr.keyThatStays
 split
 ·exact ⟨b,0,rfl,.inr rfl⟩
 ·simp only [Sem.run_bind,run_choose_drew]
  split
  ·exact ⟨b,0,by rw [drewN0];simp,.inr rfl⟩
  ·refine ⟨_,1,by simp;exact ⟨rfl,rfl⟩,?_⟩
   split <;> simp
theorem map_putP {T K E X:TypeId} {z:Value} (M:PtrMap T K E X z) {w:World} {mb:Nat} {K' V:Value → Prop} (h:MapP w mb K' V) (hK':∀ v,K' v → PtrOk w v) (k:Value) (hkk:K' k) (v:Value) (hv:V v) :
  ∃ arr clock n,(Instr.mapUpdate T (.map (some mb)) k v).run Tryz.prog w = .ok () (World.putM (w.drewN n) mb (.map arr clock)) ∧ MapP (World.putM (w.drewN n) mb (.map arr clock)) mb K' V:=by
 obtain ⟨arr,clock,hh,he⟩:=h
 have hu:(underlying T).run Tryz.prog w = .ok (.map K E) w:=by rw [run_underlying M.map]
 have hg:(getObj mb).run Tryz.prog w = .ok (.map arr clock) w:=run_getObj_map (w:=w) mb arr clock hh
 have hk:=hK' k hkk
 obtain ⟨b1,o1,c1,t1,f1,rfl,h1,z1⟩:=id hk
 have hc:=M.check false (some ⟨b1,o1,none⟩) w
 obtain ⟨r,n,hr,hrv⟩:=key_any M _ arr.toList w hk (fun e h => hK' _ (he e h).1)
 have hlt:=lt_of_block hh
 have hnew:∀ (m:Nat) o,(World.putM (w.drewN m) mb o).heap[mb]? = some o:=by
  intro m o
  show (w.heap.setIfInBounds mb o)[mb]? = some o
  rw [Array.getElem?_setIfInBounds_self_of_lt hlt]
 cases r with
 | none =>
  refine ⟨arr.push { key:=.pointer (some ⟨b1,o1,none⟩),val:=v,born:=clock },clock + 1,n,?_,⟨_,_,hnew _ _,?_⟩⟩
  ·simp only [Instr.mapUpdate,Sem.run_bind,hu,Result.andThen_ok,hg]
   rw [hc]
   simp only [Result.andThen_ok]
   rw [hr]
   simp only [Result.andThen_ok]
   exact Go.MapKept.run_setObj_map (w:=w.drewN n) _ hh
  ·intro e h
   rw [Array.toList_push,List.mem_append] at h
   rcases h with h | h
   ·exact he e h
   ·rw [List.mem_singleton.1 h]
    exact ⟨hkk,hv⟩
 | some q =>
  obtain ⟨i,u⟩:=q
  obtain ⟨kk,m,hst,hkk⟩:=stays_any (P:=Tryz.prog) (((arr[i]?).map (·.key)).getD (.pointer (some ⟨b1,o1,none⟩))) (.pointer (some ⟨b1,o1,none⟩)) (w.drewN n)
  have hkp:K' kk:=by
   rcases hkk with rfl | rfl
   ·cases ha:arr[i]? with
    | none => exact hkk
    | some e => exact (he e (Array.mem_toList_iff.2 (Array.mem_of_getElem? ha))).1
   ·exact hkk
  rw [drewN_drewN] at hst
  refine ⟨arr.modify i fun e => { e with key:=kk,val:=v },clock,n + m,?_,⟨_,_,hnew _ _,?_⟩⟩
  ·simp only [Instr.mapUpdate,Sem.run_bind,hu,Result.andThen_ok,hg]
   rw [hc]
   simp only [Result.andThen_ok]
   rw [hr]
   simp only [Result.andThen_ok,Sem.run_bind]
   rw [hst]
   simp only [Result.andThen_ok]
   exact Go.MapKept.run_setObj_map (w:=w.drewN (n + m)) _ hh
  ·intro e h
   rw [Array.toList_modify] at h
   obtain ⟨j,hj⟩:=List.mem_iff_getElem?.1 h
   rw [List.getElem?_modify] at hj
   cases ha:arr.toList[j]? with
   | none => rw [ha] at hj;simp at hj
   | some e0 =>
    rw [ha] at hj
    have h0:=he e0 (List.mem_of_getElem? ha)
    by_cases hij:i = j
    ·simp [hij] at hj
     rw [← hj]
     exact ⟨hkp,hv⟩
    ·simp [hij] at hj
     rw [← hj]
     exact h0
theorem MapP.lt {w:World} {mb:Nat} {K V:Value → Prop} (h:MapP w mb K V):mb < w.heap.size:=by
 obtain ⟨arr,clock,h1,h2⟩:=h
 exact lt_of_block h1
theorem MapP.new (w:World) (K V:Value → Prop):MapP (w.alloc (.map #[] 0)) w.heap.size K V:=⟨#[],0,heap_new w _,fun e h => by simp at h⟩
theorem MapP.keep {w w':World} {mb:Nat} {K V V':Value → Prop} (h:MapP w mb K V) (hb:w'.heap[mb]? = w.heap[mb]?) (hV:∀ v,V v → V' v):MapP w' mb K V':=by
 obtain ⟨arr,clock,h1,h2⟩:=h
 exact ⟨arr,clock,hb.trans h1,fun e he => ⟨(h2 e he).1,hV _ (h2 e he).2⟩⟩
theorem wpList_lookP {T K E X:TypeId} {z:Value} (M:PtrMap T K E X z) (w:World) {ops:Array Oper} {rest:List Oper} {o:Oper} {a:Act} {Q:Exit → Act → World → Prop}
  (hg:o.guard = none) (m x:Operand) (hop:o.op = Op.lookup T m x true) (mb:Nat) (K' V:Value → Prop) (k:Value)
  (hm:a.eval m = .map (some mb)) (hx:a.eval x = k) (h:MapP w mb K' V) (hK':∀ v,K' v → PtrOk w v) (hk:PtrOk w k)
  (hK:∀ u b w',(b = true → V u) → (b = false → u = z) → w'.heap.size = w.heap.size → Below w.heap.size w w' → wpList Tryz.prog ops Q rest (a.put o.dst (.tuple #[u,.bool b])) w') :
  wpList Tryz.prog ops Q (o :: rest) a w:=by
 refine wpList_plain hg fun K3 hK3 => ?_
 obtain ⟨u,b,n,hrun,h1,h2⟩:=map_lookP M h hK' k hk
 have e:(execOp a.eval o).run Tryz.prog w = .ok (.value (.tuple #[u,.bool b])) (w.drewN n):=by
  simp [execOp,hop,hm,hx,hrun]
 unfold Oper.wp
 rw [e]
 exact hK3 _ _ (hK u b _ h1 h2 rfl (below_drewN (Below.refl _ _) n))
theorem wpList_putP {T K E X:TypeId} {z:Value} (M:PtrMap T K E X z) (w:World) {ops:Array Oper} {rest:List Oper} {o:Oper} {a:Act} {Q:Exit → Act → World → Prop}
  (hg:o.guard = none) (m x v:Operand) (hop:o.op = Op.mapUpdate T m x v) (mb:Nat) (K2 V:Value → Prop) (k:Value) (u:Value)
  (hm:a.eval m = .map (some mb)) (hx:a.eval x = k) (hv:a.eval v = u) (h:MapP w mb K2 V) (hK2:∀ v,K2 v → PtrOk w v) (hk:K2 k) (hV:V u)
  (hK:∀ w',Upon mb w w' → w'.heap.size = w.heap.size → MapP w' mb K2 V → wpList Tryz.prog ops Q rest (a.put o.dst undef) w') :
  wpList Tryz.prog ops Q (o :: rest) a w:=by
 refine wpList_plain hg fun K' hK' => ?_
 obtain ⟨arr,clock,n,hrun,h1⟩:=map_putP M h hK2 k hk u hV
 unfold Oper.wp
 simp [execOp,hop,hm,hx,hv,hrun,Result.andThen]
 exact hK' _ _ (hK _ (upon_putM ((Upon.refl _ _).drewN n) _) (by simp [World.putM]) h1)
theorem piecesMap:PtrMap 297 277 311 95 (.agg #[.int .i64 0,.int .i64 0]):=⟨by kernel_rfl,by kernel_rfl,fun w => ⟨5,by kernel_rfl⟩,fun w => by kernel_rfl,fun b s w => by cases b <;> kernel_rfl⟩
open Go.RowKit Go.ChangeShapes Go.WideShapes
theorem maxLen_le {n:Nat} (h:n ≤ maxLen):n ≤ 9223372036854775807:=h
def I64 (n:Int):Prop:=-9223372036854775808 ≤ n ∧ n ≤ 9223372036854775807
theorem i64_of {n:Int} (h:(Lit.int .i64 n).wf = true):I64 n:=bounds_i64 h
def Row {α:Type} (P:World → Nat → Nat → α → Prop) (sz:Nat) (w:World) (l:List α) (ad:Option Addr):Prop :=
 l = [] ∨ ∃ b o,ad = some ⟨b,o,none⟩ ∧ b < w.heap.size ∧ ∀ i (h:i < l.length),P w b (o + i * sz) l[i]
def Sta {α:Type} (P:World → Nat → Nat → α → Prop):Prop:=∀ (w w':World) (b o:Nat) (x:α),Below w.heap.size w w' → b < w.heap.size → P w b o x → P w' b o x
theorem Row.below {α:Type} {P:World → Nat → Nat → α → Prop} {sz:Nat} {w w':World} {l:List α} {ad:Option Addr} (hP:Sta P) (hb:Below w.heap.size w w') (h:Row P sz w l ad):Row P sz w' l ad:=by
 rcases h with h | ⟨b,o,e,hlt,h⟩
 ·exact .inl h
 ·exact .inr ⟨b,o,e,Nat.lt_of_lt_of_le hlt hb.size,fun i hi => hP w w' b _ _ hb hlt (h i hi)⟩
theorem Row.at {α:Type} {P:World → Nat → Nat → α → Prop} {sz:Nat} {w:World} {l:List α} {ad:Option Addr} (h:Row P sz w l ad) {i:Nat} (hi:i < l.length) :
  ∃ b o,ad = some ⟨b,o,none⟩ ∧ b < w.heap.size ∧ P w b (o + i * sz) l[i]:=by
 rcases h with h | ⟨b,o,e,hlt,h⟩
 ·subst h;simp at hi
 ·exact ⟨b,o,e,hlt,h i hi⟩
def StrC (w:World) (b o:Nat) (s:ByteArray):Prop:=w.cell? ⟨b,o,none⟩ = some (.string s) ∧ s.size ≤ 9223372036854775807
theorem intCells:Tryz.prog.cellsOf 3 = 1:=by kernel_rfl
theorem int64Cells:Tryz.prog.cellsOf 2 = 1:=by kernel_rfl
theorem stringCells:Tryz.prog.cellsOf 9 = 1:=by kernel_rfl
section
variable {H:Type} {enc:TypeId × Value → H} {w:World} {base:Nat} {sp:Nat → Bool} {held:Bool}
theorem field_at {fs:Array Field} {l:List (TypeId × Nat)} (h:fs.toList.map (fun f => (f.type,f.offset)) = l) (i:Nat) (t:TypeId) (o:Nat) (hl:l[i]? = some (t,o)):∃ f,fs[i]? = some f ∧ f.type = t ∧ f.offset = o:=by
 subst h
 rw [List.getElem?_map] at hl
 cases hf:fs.toList[i]? with
 | none => rw [hf] at hl;cases hl
 | some f =>
  rw [hf] at hl
  simp only [Option.map_some,Option.some.injEq,Prod.mk.injEq] at hl
  exact ⟨f,by simpa using hf,hl.1,hl.2⟩
theorem one_cell {cs:List Value} {o:Nat} {v:Value} (h:(cs.drop o).take 1 = [v]):cs[o]? = some v:=by
 have:=congrArg (fun l => l[0]?) h
 simpa using this
theorem field_cells {cs:List Value} {fs:Array Field} {l:List (TypeId × Nat)} {xs:List (DataW H × List MemPlace)} {n:Nat} (hmap:fs.toList.map (fun f => (f.type,f.offset)) = l) (hlen:xs.length = fs.size)
  (hf:∀ (i:Nat) (f:Field),fs[i]? = some f → DataW.trod enc Tryz.prog w base sp held n f.type ((cs.drop f.offset).take (Tryz.prog.cellsOf f.type)) = xs[i]?) (i:Nat) (ft:TypeId) (o m:Nat) (hl:l[i]? = some (ft,o)) (hc:Tryz.prog.cellsOf ft = m) :
  ∃ y,DataW.trod enc Tryz.prog w base sp held n ft ((cs.drop o).take m) = some y:=by
 obtain ⟨f,h1,rfl,rfl⟩:=field_at hmap i ft o hl
 have h2:=hf i f h1
 rw [hc] at h2
 have hi:i < xs.length:=by rw [hlen];exact (Array.getElem?_eq_some_iff.1 h1).1
 rw [List.getElem?_eq_getElem hi] at h2
 exact ⟨_,h2⟩
theorem open_row {α:Type} {P:World → Nat → Nat → α → Prop} {T S:TypeId} {sz:Nat} (hS:Tryz.prog.underlying S = some (.slice T)) (hsz:Tryz.prog.cellsOf T = sz) (hpos:0 < sz)
  (hel:∀ n cs x,DataW.trod enc Tryz.prog w base sp held n T cs = some x → ∃ a:α,∀ b o,b < w.heap.size → (∀ j,j < sz → w.cell? ⟨b,o + j,none⟩ = cs[j]?) → P w b o a)
  {n:Nat} {cs:List Value} {x} (h:DataW.trod enc Tryz.prog w base sp held n S cs = some x):∃ (l:List α) (ad:Option Addr) (cap:Nat),Row P sz w l ad ∧ l.length ≤ cap ∧ cap ≤ 9223372036854775807 ∧ cs = [.slice ad l.length cap]:=by
 rcases DataW.trod_slice hS h with ⟨rfl,_⟩ | ⟨ad,len,cap,elems,rest,n,rfl,rfl,_,_,hl,hm,helems,hall,_⟩
 ·exact ⟨[],none,0,.inl rfl,Nat.le_refl _,Nat.zero_le _,rfl⟩
 ·have hm':cap ≤ 9223372036854775807:=maxLen_le hm
  by_cases h0:len = 0
  ·subst h0;exact ⟨[],some ad,cap,.inl rfl,Nat.zero_le _,hm',rfl⟩
  ·rw [hsz] at hall
   have key:∀ i,i < len → ∃ cs',w.cells? base (ad.add (i * sz)) sz = some cs' ∧ ∃ y,DataW.trod enc Tryz.prog w base sp held n T cs' = some y:=by
    intro i hi
    have h1:=hall i hi
    rw [List.getElem?_eq_getElem (by omega)] at h1
    obtain ⟨cs',h2,h3⟩:=Option.bind_eq_some_iff.1 h1
    exact ⟨cs',h2,_,h3⟩
   obtain ⟨b,o,spt⟩:=ad
   obtain ⟨cs0,hc0,y0,hy0⟩:=key 0 (by omega)
   obtain ⟨_,hlen0,hcell0⟩:=World.cells?_some hc0
   have hspot:spt = none:=by
    have:=hcell0 0 hpos
    rw [List.getElem?_eq_getElem (by omega)] at this
    simpa [Addr.add] using World.cell?_spot this
   subst hspot
   have hb:b < w.heap.size:=by
    have:=hcell0 0 hpos
    rw [List.getElem?_eq_getElem (by omega)] at this
    exact World.block_lt_of_cell? _ _ (by simpa [Addr.add] using this)
   have each:∀ i,i < len → ∃ a:α,P w b (o + i * sz) a:=by
    intro i hi
    obtain ⟨cs',h2,y,hy⟩:=key i hi
    obtain ⟨a,ha⟩:=hel n cs' y hy
    obtain ⟨_,_,hcell⟩:=World.cells?_some h2
    refine ⟨a,ha b _ hb fun j hj => ?_⟩
    have hadd:((⟨b,o,none⟩:Addr).add (i * sz)).add j = ⟨b,o + i * sz + j,none⟩:=by
     unfold Addr.add;by_cases h1:i * sz = 0 <;> by_cases h2:j = 0 <;> simp [h1,h2]
    have:=hcell j hj
    rw [hadd] at this;exact this
   have build:∀ m,m ≤ len → ∃ l:List α,l.length = m ∧ ∀ i (h:i < l.length),P w b (o + i * sz) l[i]:=by
    intro m
    induction m with
    | zero => intro _;exact ⟨[],rfl,fun i h => absurd h (Nat.not_lt_zero _)⟩
    | succ m ih =>
     intro hm
     obtain ⟨l,hl,h⟩:=ih (by omega)
     obtain ⟨a,ha⟩:=each m (by omega)
     refine ⟨l ++ [a],by simp [hl],fun i hi => ?_⟩
     by_cases him:i < l.length
     ·rw [List.getElem_append_left him];exact h i him
     ·have:i = m:=by simp at hi;omega
      subst this
      rw [List.getElem_append_right (by omega)]
      simpa [hl] using ha
   obtain ⟨l,hll,hP⟩:=build len (Nat.le_refl _)
   exact ⟨l,some ⟨b,o,none⟩,cap,.inr ⟨b,o,rfl,hb,hP⟩,by omega,hm',by rw [hll]⟩
theorem sub_cell {cs l:List Value} {o m j:Nat} (h:(cs.drop o).take m = l) (hj:j < m):cs[o + j]? = l[j]?:=by
 rw [← h,List.getElem?_take_of_lt hj,List.getElem?_drop]
end
end Go.Proofs.YtpjficjlfibibaaGreatDoor.syn
