/-
  Parts of the proof: Open, App, Own, Fam, RngD, Dl0, RgtD.
-/
import Derived.Below
import Derived.ChangeArms
import Derived.DataReads
import Derived.Deep.Upon
import Derived.Lib.AppendZeros
import Derived.LoopIn
import Derived.LoopNIn
import Derived.Maps.AppendAt
import Derived.OpenShut
import Derived.OwnWalkIn
import Derived.ProofKit
import Derived.RangeFuncBound
import Derived.RangeFuncCalls
import Derived.RangeFuncLeaves
import Derived.RangeFuncNested
import Derived.TacticsInMore
import Derived.Test.YtgigilkpndhddaaGreatDoorChecked
import Derived.Test.YtgigilkpndhddaaGreatDoorQ02
import Derived.Test.YtgigilkpndhddaaGreatDoorQ04
import Derived.WalkKit
namespace Go.Proofs.YtgigilkpndhddaaGreatDoor.syn
set_option linter.unusedVariables false
set_option linter.unusedSimpArgs false
set_option linter.unnecessarySimpa false
set_option maxRecDepth 100000
set_option maxHeartbeats 16000000
open Go.RowKit Go.ChangeShapes Go.WideShapes
theorem XJ {n:Nat} (h:n≤maxLen):n≤9223372036854775807:=h
def I64 (n:Int):Prop:=-9223372036854775808≤n∧n≤9223372036854775807
theorem QN {n:Int} (h:(Lit.int .i64 n).wf=true):I64 n:=bounds_i64 h
def Row {α:Type} (P:World→Nat→Nat→α→Prop) (sz:Nat) (w:World) (l:List α) (ad:Option Addr):Prop :=
 l=[]∨∃b o,ad=some ⟨b,o,none⟩∧b<w.heap.size∧∀i (h:i<l.length),P w b (o+i*sz) l[i]
def Sta {α:Type} (P:World→Nat→Nat→α→Prop):Prop:=∀(w w':World) (b o:Nat) (x:α),Below w.heap.size w w'→b<w.heap.size→P w b o x→P w' b o x
theorem Row.below {α:Type} {P:World→Nat→Nat→α→Prop} {sz:Nat} {w w':World} {l:List α} {ad:Option Addr} (hP:Sta P) (hb:Below w.heap.size w w') (h:Row P sz w l ad):Row P sz w' l ad:=by
 rcases h with h|⟨b,o,e,hlt,h⟩
 ·exact .inl h
 exact .inr ⟨b,o,e,Nat.lt_of_lt_of_le hlt hb.size,fun i hi=>hP w w' b _ _ hb hlt (h i hi)⟩
theorem Row.at {α:Type} {P:World→Nat→Nat→α→Prop} {sz:Nat} {w:World} {l:List α} {ad:Option Addr} (h:Row P sz w l ad) {i:Nat} (hi:i<l.length) :
  ∃b o,ad=some ⟨b,o,none⟩∧b<w.heap.size∧P w b (o+i*sz) l[i]:=by
 rcases h with h|⟨b,o,e,hlt,h⟩
 ·subst h;simp at hi
 exact⟨b,o,e,hlt,h i hi⟩
def xJ (w:World) (b o:Nat) (s:ByteArray):Prop:=w.cell? ⟨b,o,none⟩=some (.string s)∧s.size≤9223372036854775807
theorem intCells:Tryz.prog.cellsOf 3=1:=by kernel_rfl
theorem Qm:Tryz.prog.cellsOf 2=1:=by kernel_rfl
theorem XH:Tryz.prog.cellsOf 9=1:=by kernel_rfl
section
variable {H:Type} {enc:TypeId × Value→H} {w:World} {base:Nat} {sp:Nat→Bool} {held:Bool}
theorem K1 {fs:Array Field} {l:List (TypeId × Nat)} (h:fs.toList.map (fun f=>(f.type,f.offset))=l) (i:Nat) (t:TypeId) (o:Nat) (hl:l[i]?=some (t,o)):∃f,fs[i]?=some f∧f.type=t∧f.offset=o:=by
 subst h
 rw[List.getElem?_map] at hl
 cases hf:fs.toList[i]? with
 | none=>rw[hf] at hl;cases hl
 | some f =>
  rw[hf] at hl
  simp only[Option.map_some,Option.some.injEq,Prod.mk.injEq] at hl
  exact⟨f,by simpa using hf,hl.1,hl.2⟩
theorem one_cell {cs:List Value} {o:Nat} {v:Value} (h:(cs.drop o).take 1=[v]):cs[o]?=some v:=by
 have:=congrArg (fun l=>l[0]?) h
 simpa using this
theorem YC {cs:List Value} {fs:Array Field} {l:List (TypeId × Nat)} {xs:List (DataW H × List MemPlace)} {n:Nat} (hmap:fs.toList.map (fun f=>(f.type,f.offset))=l) (hlen:xs.length=fs.size)
  (hf:∀(i:Nat) (f:Field),fs[i]?=some f→DataW.trod enc Tryz.prog w base sp held n f.type ((cs.drop f.offset).take (Tryz.prog.cellsOf f.type))=xs[i]?) (i:Nat) (ft:TypeId) (o m:Nat) (hl:l[i]?=some (ft,o)) (hc:Tryz.prog.cellsOf ft=m) :
  ∃y,DataW.trod enc Tryz.prog w base sp held n ft ((cs.drop o).take m)=some y:=by
 obtain⟨f,h1,rfl,rfl⟩:=K1 hmap i ft o hl
 have h2:=hf i f h1
 rw[hc] at h2
 have hi:i<xs.length:=by rw[hlen];exact(Array.getElem?_eq_some_iff.1 h1).1
 rw[List.getElem?_eq_getElem hi] at h2
 exact⟨_,h2⟩
theorem open_row {α:Type} {P:World→Nat→Nat→α→Prop} {T S:TypeId} {sz:Nat} (hS:Tryz.prog.underlying S=some (.slice T)) (hsz:Tryz.prog.cellsOf T=sz) (hpos:0<sz)
  (hel:∀n cs x,DataW.trod enc Tryz.prog w base sp held n T cs=some x→∃a:α,∀b o,b<w.heap.size→(∀j,j<sz→w.cell? ⟨b,o+j,none⟩=cs[j]?)→P w b o a)
  {n:Nat} {cs:List Value} {x} (h:DataW.trod enc Tryz.prog w base sp held n S cs=some x):∃(l:List α) (ad:Option Addr) (cap:Nat),Row P sz w l ad∧l.length≤cap∧cap≤9223372036854775807∧cs=[.slice ad l.length cap]:=by
 rcases DataW.trod_slice hS h with ⟨rfl,_⟩|⟨ad,len,cap,elems,rest,n,rfl,rfl,_,_,hl,hm,helems,hall,_⟩
 ·exact⟨[],none,0,.inl rfl,Nat.le_refl _,Nat.zero_le _,rfl⟩
 have hm':cap≤9223372036854775807:=XJ hm
 by_cases h0:len=0
 ·subst h0;exact⟨[],some ad,cap,.inl rfl,Nat.zero_le _,hm',rfl⟩
 rw[hsz] at hall
 have key:∀i,i<len→∃cs',w.cells? base (ad.add (i*sz)) sz=some cs'∧∃y,DataW.trod enc Tryz.prog w base sp held n T cs'=some y:=by
  intro i hi
  have h1:=hall i hi
  rw[List.getElem?_eq_getElem (by omega)] at h1
  obtain⟨cs',h2,h3⟩:=Option.bind_eq_some_iff.1 h1
  exact⟨cs',h2,_,h3⟩
 obtain⟨b,o,spt⟩:=ad
 obtain⟨cs0,hc0,y0,hy0⟩:=key 0 (by omega)
 obtain⟨_,hlen0,hcell0⟩:=World.cells?_some hc0
 have hspot:spt=none:=by
  have:=hcell0 0 hpos
  rw[List.getElem?_eq_getElem (by omega)] at this
  simpa [Addr.add] using World.cell?_spot this
 subst hspot
 have hb:b<w.heap.size:=by
  have:=hcell0 0 hpos
  rw[List.getElem?_eq_getElem (by omega)] at this
  exact World.block_lt_of_cell? _ _ (by simpa [Addr.add] using this)
 have each:∀i,i<len→∃a:α,P w b (o+i*sz) a:=by
  intro i hi
  obtain⟨cs',h2,y,hy⟩:=key i hi
  obtain⟨a,ha⟩:=hel n cs' y hy
  obtain⟨_,_,hcell⟩:=World.cells?_some h2
  refine⟨a,ha b _ hb fun j hj=>?_⟩
  have hadd:((⟨b,o,none⟩:Addr).add (i*sz)).add j=⟨b,o+i*sz+j,none⟩:=by
   unfold Addr.add;by_cases h1:i*sz=0<;>by_cases h2:j=0<;>simp[h1,h2]
  have:=hcell j hj
  rw[hadd] at this;exact this
 have build:∀m,m≤len→∃l:List α,l.length=m∧∀i (h:i<l.length),P w b (o+i*sz) l[i]:=by
  intro m
  induction m with
  | zero=>intro _;exact⟨[],rfl,fun i h=>absurd h (Nat.not_lt_zero _)⟩
  | succ m ih =>
   intro hm
   obtain⟨l,hl,h⟩:=ih (by omega)
   obtain⟨a,ha⟩:=each m (by omega)
   refine⟨l++[a],by simp[hl],fun i hi=>?_⟩
   by_cases him:i<l.length
   ·rw[List.getElem_append_left him];exact h i him
   have:i=m:=by simp at hi;omega
   subst this
   rw[List.getElem_append_right (by omega)]
   simpa [hl] using ha
 obtain⟨l,hll,hP⟩:=build len (Nat.le_refl _)
 exact⟨l,some ⟨b,o,none⟩,cap,.inr ⟨b,o,rfl,hb,hP⟩,by omega,hm',by rw[hll]⟩
theorem Jt {cs l:List Value} {o m j:Nat} (h:(cs.drop o).take m=l) (hj:j<m):cs[o+j]?=l[j]?:=by
 rw[←h,List.getElem?_take_of_lt hj,List.getElem?_drop]
end
end Go.Proofs.YtgigilkpndhddaaGreatDoor.syn
namespace Go.Proofs.YtgigilkpndhddaaGreatDoor.lite
set_option linter.unusedVariables false
set_option linter.unusedSimpArgs false
set_option linter.unnecessarySimpa false
set_option maxRecDepth 100000
set_option maxHeartbeats 16000000
open Go.RowKit
theorem KU {P:Program} (w:World) (base:Nat) (t ty e:TypeId) (i:TypeInfo) (z:Value) (size bytes:Nat) (ht:P.underlying t=some (.slice e)) (hi:P.info? e=some i) (hz:i.zero=some z)
  (hsize:i.size=size) (hby:i.bytes=bytes) (hzs:z.cells.size=size) (hsz:0<size)
  (v:Value) (n:Nat) (xs:List Value) (hown:w.ownsRow base e size v n xs)
  (ad:Option Addr) (m c:Nat) (news:List Value) (hl:news.length=m*size) (hnews:∀j u,news[j]?=some u→∃x:Addr,ad=some x∧w.cell? (x.add j)=some u) (h1:∀u∈news,u.oneCell'=true)
  (h63:n+m≤maxLen) (hbytes:(n+m)*bytes≤140737488355328) (hbase:base≤w.heap.size) :
  ∃v' w',(Builtin.append_ #[t,t] ty #[v,.slice ad m c]).run P w=.ok v' w'∧w'.ownsRow base e size v' (n+m) (xs++news)∧w.grownBy w' v.ownBlock∧(v'.ownBlock=v.ownBlock∨v'.ownBlock=some w.heap.size):=by
 cases ad with
 | some a =>
  obtain⟨v',w',hr,h2,h3,_,h5⟩:=run_append_own_at (P:=P) w base t ty e i z size bytes ht hi hz hsize hby hzs hsz v n xs hown a m c news hl (fun j u h=>by obtain⟨x,hx,hc⟩:=hnews j u h;cases hx;exact hc) h1 h63 hbytes hbase
  exact⟨v',w',hr,h2,h3,h5⟩
 | none =>
  have hm:m=0:=by
   cases news with
   | nil =>
    have h:m*size=0:=hl.symm
    rcases Nat.mul_eq_zero.1 h with h|h
    ·exact h
    omega
   | cons u us=>obtain⟨x,hx,_⟩:=hnews 0 u rfl;cases hx
  subst hm
  obtain rfl:news=[]:=by simpa using hl
  have key:∀(b:Option Addr) (k cp:Nat),k≤cp→(Builtin.append_ #[t,t] ty #[.slice b k cp,.slice none 0 c]).run P w=.ok (.slice b k cp) w:=by
   intro b k cp hle
   refine run_append_nothing w t t ty e i ht hi b k cp hle _ ⟨.inl ⟨_,ht⟩,?_,?_,?_,by simp,by simp⟩
   ·intro w';simp[Builtin.lenOf]
   ·simp[Builtin.firstCells]
   simp[Builtin.firstCells]
  have hown':=hown
  rcases hown.2 with ⟨rfl,rfl⟩|⟨g,cap,cur,rfl,hb,hg,hnc,hcm,hcs,htk⟩
  ·refine⟨_,w,key _ _ _ (Nat.le_refl _),by simpa using hown',World.grownBy.refl _ _,.inl rfl⟩
  refine⟨_,w,key _ _ _ hnc,by simpa using hown',World.grownBy.refl _ _,.inl rfl⟩
theorem XC {P:Program} (w:World) {ops:Array Oper} {rest:List Oper} {o:Oper} {a:Act} {Q:Exit→Act→World→Prop} (hgd:o.guard=none) (s x:Operand) (t:TypeId)
  (ho:o.op=.call { callee:=.builtin .append,args:=#[s,x],argTypes:=#[t,t] })
  (base:Nat) (e:TypeId) (i:TypeInfo) (z:Value) (size bytes:Nat) (ht:P.underlying t=some (.slice e)) (hi:P.info? e=some i) (hz:i.zero=some z)
  (hsize:i.size=size) (hby:i.bytes=bytes) (hzs:z.cells.size=size) (hsz:0<size)
  (v:Value) (n:Nat) (xs:List Value) (hs:a.eval s=v) (hown:w.ownsRow base e size v n xs)
  (ad:Option Addr) (m c:Nat) (news:List Value) (hx:a.eval x=.slice ad m c) (hl:news.length=m*size) (hnews:∀j u,news[j]?=some u→∃x:Addr,ad=some x∧w.cell? (x.add j)=some u) (h1:∀u∈news,u.oneCell'=true)
  (h63:n+m≤maxLen) (hbytes:(n+m)*bytes≤140737488355328) (hbase:base≤w.heap.size)
  (h:∀v' w',w'.ownsRow base e size v' (n+m) (xs++news)→w.grownBy w' v.ownBlock→(v'.ownBlock=v.ownBlock∨v'.ownBlock=some w.heap.size)→wpList P ops Q rest (a.put o.dst v') w'):wpList P ops Q (o::rest) a w:=by
 obtain⟨v',w',hr,h2,h3,h4⟩:=KU (P:=P) w base t o.type e i z size bytes ht hi hz hsize hby hzs hsz v n xs hown ad m c news hl hnews h1 h63 hbytes hbase
 exact Lib.wpList_append_run w hgd s x t t ho v _ hs hx v' w' hr (h v' w' h2 h3 h4)
theorem info_parts {P:Program} {e:TypeId} {z:Value} {n b:Nat} (h:(P.info? e).map (fun i=>(i.zero,i.size,i.bytes))=some (some z,n,b)):∃i,P.info? e=some i∧i.zero=some z∧i.size=n∧i.bytes=b:=by
 cases hi:P.info? e with
 | none=>rw[hi] at h;cases h
 | some i=>rw[hi] at h;simp at h;exact⟨i,rfl,h.1,h.2.1,h.2.2⟩
end Go.Proofs.YtgigilkpndhddaaGreatDoor.lite
namespace Go.Proofs.YtgigilkpndhddaaGreatDoor.syn
set_option linter.unusedVariables false
set_option linter.unusedSimpArgs false
set_option linter.unnecessarySimpa false
set_option maxRecDepth 100000
set_option maxHeartbeats 16000000
open Go.RowKit
theorem Yy {w:World} {base n:Nat} {e:TypeId} {size:Nat} {v:Value} {xs:List Value} (h:w.ownsRow base e size v n xs):∃ad cap,v=.slice ad n cap:=by
 rcases h.2 with ⟨rfl,rfl⟩|⟨g,cap,cur,rfl,_⟩
 ·exact⟨none,0,rfl⟩
 exact⟨_,cap,rfl⟩
theorem own_below {w w':World} {base n:Nat} {e:TypeId} {size:Nat} {v:Value} {xs:List Value} (h:w.ownsRow base e size v n xs) (hb:Below w.heap.size w w'):w'.ownsRow base e size v n xs :=
 h.kept (row:=none) ⟨hb.os,hb.tape,hb.output,hb.size,fun k hk _=>hb.block k hk⟩ (by cases hv:v.ownBlock<;>simp)
theorem info_parts {P:Program} {e:TypeId} {z:Value} {n b:Nat} (h:(P.info? e).map (fun i=>(i.zero,i.size,i.bytes))=some (some z,n,b)):∃i,P.info? e=some i∧i.zero=some z∧i.size=n∧i.bytes=b:=by
 cases hi:P.info? e with
 | none=>rw[hi] at h;cases h
 | some i=>rw[hi] at h;simp at h;exact⟨i,rfl,h.1,h.2.1,h.2.2⟩
theorem YB {w:World} {b:Nat} {v0 v1:Value} {t:TypeId} (h:w.heap[b]?=some (.cells #[v0,v1] t (0,0))):(w.cell? ⟨b,0,none⟩=some v0∧w.cell? ⟨b,1,none⟩=some v1)∧∀o,w.frozen? ⟨b,o,none⟩=false:=by
 refine⟨⟨?_,?_⟩,?_⟩
 all_goals first|(intro o;simp[World.frozen?,h])|simp[World.cell?,h]
theorem Qy {w:World} {base:Nat} {e:TypeId} {size n:Nat} {v:Value} {xs:List Value} (h:w.ownsRow base e size v n xs):∀k,v.ownBlock=some k→base≤k:=by
 intro k hk
 rcases h.2 with ⟨rfl,_⟩|⟨g,cap,cur,rfl,hb,_⟩
 ·cases hk
 simp[Value.ownBlock] at hk;omega
theorem Xm {w:World} {base:Nat} {e:TypeId} {size n:Nat} {v:Value} {xs:List Value} (h:w.ownsRow base e size v n xs) {B o:Nat} (hB:B<base) (u:Value):(w.setCell ⟨B,o,none⟩ u).ownsRow base e size v n xs :=
 h.kept (row:=some B) ⟨rfl,rfl,rfl,((Zg 0 w).setCell (p:=⟨B,o,none⟩) (Zk _) u).size,fun k _ hk=>Zr _ _ _ _ (fun e=>hk (by rw[e]))⟩ (Or.inr (fun e=>by have:=Qy h _ e;omega))
theorem Xg {w:World} {base base':Nat} {e:TypeId} {size n:Nat} {v:Value} {xs:List Value} (h:w.ownsRow base e size v n xs) (hb:base'≤base):w.ownsRow base' e size v n xs:=by
 refine⟨h.1,?_⟩
 rcases h.2 with h0|⟨g,cap,cur,hv,hg,rest⟩
 ·exact .inl h0
 exact .inr ⟨g,cap,cur,hv,Zm hb hg,rest⟩
theorem Gv {w w':World} {base:Nat} {e:TypeId} {size n:Nat} {v:Value} {xs:List Value} (h:w.ownsRow base e size v n xs) {B:Nat} (hB:B<base) (hu:Upon B w w'):w'.ownsRow base e size v n xs :=
 h.kept (row:=some B) ⟨hu.os,hu.tape,hu.output,hu.size,fun k hk hne=>hu.block k hk (fun e=>hne (by rw[e]))⟩ (Or.inr (fun e=>by have:=Qy h _ e;omega))
theorem kX {w:World} {base n size:Nat} {e:TypeId} {ad:Option Addr} {cap:Nat} {xs:List Value} (h:w.ownsRow base e size (.slice ad n cap) n xs):∀j u,xs[j]?=some u→∃x:Addr,ad=some x∧w.cell? (x.add j)=some u:=by
 intro j u hj
 rcases h.2 with ⟨h1,h2⟩|⟨g,cap',cur,h1,hb,hg,hnc,hcm,hcs,htk⟩
 ·have:=h.1
  rw[h2,Nat.zero_mul] at this
  rw[Yd this] at hj
  simp at hj
 injection h1 with h1 _ _
 refine⟨_,h1,?_⟩
 rw[show(⟨g,0,none⟩:Addr).add j=⟨g,j,none⟩ from by unfold Addr.add;split<;>simp_all]
 have hjl:j<n*size:=by rw[←h.1];exact(ZA.1 hj).1
 rw[Z7 w _ _ cur e (0,0) hg,←hj,←htk,Yn hjl,Array.getElem?_toList]
theorem Yq {w:World} {b:Nat} {v0 v1 v2 v3:Value} {t:TypeId} (h:w.heap[b]?=some (.cells #[v0,v1,v2,v3] t (0,0))) :
  (w.cell? ⟨b,0,none⟩=some v0∧w.cell? ⟨b,1,none⟩=some v1∧w.cell? ⟨b,2,none⟩=some v2∧w.cell? ⟨b,3,none⟩=some v3)∧∀o,w.frozen? ⟨b,o,none⟩=false:=by
 refine⟨⟨?_,?_,?_,?_⟩,?_⟩
 all_goals first|(intro o;simp[World.frozen?,h])|simp[World.cell?,h]
structure But (S:Nat→Prop) (w w':World):Prop where
 os:w'.os=w.os
 tape:w'.tape=w.tape
 output:w'.output=w.output
 size:w.heap.size≤w'.heap.size
 block:∀k,k<w.heap.size→¬S k→w'.heap[k]?=w.heap[k]?
theorem But.refl (S:Nat→Prop) (w:World):But S w w:=⟨rfl,rfl,rfl,Zc _,fun _ _ _=>rfl⟩
theorem But.trans {S:Nat→Prop} {a b c:World} (h:But S a b) (k:But S b c):But S a c :=
 ⟨k.os.trans h.os,k.tape.trans h.tape,k.output.trans h.output,Zm h.size k.size,fun i hi hr=>(k.block i (Zd hi h.size) hr).trans (h.block i hi hr)⟩
theorem But.then {S T:Nat→Prop} {a b c:World} (h:But S a b) (k:But T b c) (hT:∀i,i<a.heap.size→T i→S i):But S a c :=
 ⟨k.os.trans h.os,k.tape.trans h.tape,k.output.trans h.output,Zm h.size k.size,fun i hi hr=>(k.block i (Zd hi h.size) (fun t=>hr (hT i hi t))).trans (h.block i hi hr)⟩
theorem But.imp {S T:Nat→Prop} {a b:World} (h:But S a b) (hT:∀i,i<a.heap.size→S i→T i):But T a b:=⟨h.os,h.tape,h.output,h.size,fun k hk hr=>h.block k hk (fun s=>hr (hT k hk s))⟩
theorem But.of_below {S:Nat→Prop} {a b:World} (h:Below a.heap.size a b):But S a b:=⟨h.os,h.tape,h.output,h.size,fun k hk _=>h.block k hk⟩
theorem But.of_upon {r:Nat} {a b:World} (h:Upon r a b):But (fun k=>k=r) a b:=⟨h.os,h.tape,h.output,h.size,fun k hk hr=>h.block k hk hr⟩
theorem But.of_grown {row:Option Nat} {a b:World} (h:a.grownBy b row):But (fun k=>row=some k) a b:=⟨h.os,h.tape,h.output,h.size,fun k hk hr=>h.block k hk (fun e=>hr e.symm)⟩
theorem But.below {S:Nat→Prop} {B:Nat} {a b:World} (h:But S a b) (h1:B≤a.heap.size) (h2:∀k,S k→B≤k):Below B a b :=
 ⟨h.os,h.tape,h.output,h.size,fun k hk=>h.block k oq (fun s=>by have:=h2 k s;omega)⟩
theorem But.drewN {S:Nat→Prop} {a w:World} (h:But S a w) (n:Nat):But S a (w.drewN n):=⟨h.os,h.tape,h.output,h.size,h.block⟩
theorem But.drew {S:Nat→Prop} {a w:World} (h:But S a w):But S a w.drew:=⟨h.os,h.tape,h.output,h.size,h.block⟩
theorem But.set {S:Nat→Prop} {w:World} {b o:Nat} (hb:S b) (u:Value):But S w (w.setCell ⟨b,o,none⟩ u) :=
 (But.of_upon ((Upon.refl b w).setAt (.inl rfl) u)).imp (fun i _ e=>e▸hb)
theorem But.alloc {S:Nat→Prop} {a w:World} (h:But S a w) (o:Obj):But S a (w.alloc o):=h.then (But.of_below ((Zg _ _).alloc (Zc _) o)) (fun _ _ t=>t)
theorem But.own {S:Nat→Prop} {w w':World} {base:Nat} {e:TypeId} {size n:Nat} {v:Value} {xs:List Value} (h:But S w w') (ho:w.ownsRow base e size v n xs) (hS:∀k,v.ownBlock=some k→¬S k):w'.ownsRow base e size v n xs:=by
 refine⟨ho.1,?_⟩
 rcases ho.2 with hn|⟨g,cap,cur,rfl,hb,hgg,rest⟩
 ·exact .inl hn
 exact .inr ⟨g,cap,cur,rfl,hb,(h.block g (Zq.1 hgg).1 (hS g rfl)).trans hgg,rest⟩
structure Fam (w:World) (base:Nat) (e:TypeId) (vs:List Value) (xss:List (List Value)):Prop where
 len:vs.length=xss.length
 own:∀(i:Nat) (v:Value) (xs:List Value),vs[i]?=some v→xss[i]?=some xs→w.ownsRow base e 1 v xs.length xs
 dis:∀(i j:Nat) (v u:Value) (k:Nat),vs[i]?=some v→vs[j]?=some u→v.ownBlock=some k→u.ownBlock=some k→i=j
theorem Fam.block {w:World} {base:Nat} {e:TypeId} {vs:List Value} {xss:List (List Value)} (h:Fam w base e vs xss) {i:Nat} {v:Value} (hv:vs[i]?=some v):∀k,v.ownBlock=some k→base≤k∧k<w.heap.size:=by
 have hi:i<xss.length:=by rw[←h.len];exact(ZA.1 hv).1
 exact(h.own i v _ hv (Ze hi)).lt
theorem Fam.but {w w':World} {base:Nat} {e:TypeId} {vs:List Value} {xss:List (List Value)} (h:Fam w base e vs xss) {S:Nat→Prop} (hb:But S w w') (hS:∀(i:Nat) (v:Value) (k:Nat),vs[i]?=some v→v.ownBlock=some k→¬S k):Fam w' base e vs xss :=
 ⟨h.len,fun i v xs h1 h2=>hb.own (h.own i v xs h1 h2) (fun k hk=>hS i v k h1 hk),h.dis⟩
theorem Fam.below {w w':World} {base:Nat} {e:TypeId} {vs:List Value} {xss:List (List Value)} (h:Fam w base e vs xss) (hb:Below w.heap.size w w'):Fam w' base e vs xss :=
 h.but (But.of_below (S:=fun _=>False) hb) (fun _ _ _ _ _ hf=>hf)
theorem Fam.butB {w w':World} {base:Nat} {e:TypeId} {vs:List Value} {xss:List (List Value)} (h:Fam w base e vs xss) {S:Nat→Prop} (hb:But S w w') (hS:∀k,S k→k<base):Fam w' base e vs xss :=
 h.but hb (fun i v k hv hk hs=>by have h1:=(h.block hv k hk).1;have h2:=hS k hs;omega)
theorem Fam.set {w:World} {base:Nat} {e:TypeId} {vs:List Value} {xss:List (List Value)} (h:Fam w base e vs xss) {b o:Nat} (hb:b<base) (u:Value):Fam (w.setCell ⟨b,o,none⟩ u) base e vs xss :=
 h.butB (But.set (S:=fun k=>k=b) rfl u) (fun k hk=>oq)
theorem Fam.put {w w':World} {base:Nat} {e:TypeId} {vs:List Value} {xss:List (List Value)} (h:Fam w base e vs xss) {i:Nat} {v v':Value} {xs':List Value} (hi:vs[i]?=some v) (hg:But (fun k=>v.ownBlock=some k∨k<base) w w')
  (ho:w'.ownsRow base e 1 v' xs'.length xs') (hv:∀k,v'.ownBlock=some k→v.ownBlock=some k∨w.heap.size≤k):Fam w' base e (vs.set i v') (xss.set i xs'):=by
 have hl:=(ZA.1 hi).1
 refine⟨by simp[h.len],?_,?_⟩
 ·intro j u xs h1 h2
  by_cases hj:j=i
  ·subst hj
   rw[List.getElem?_set_self hl] at h1
   rw[List.getElem?_set_self (by rw[←h.len];exact hl)] at h2
   cases h1
   cases h2
   exact ho
  rw[List.getElem?_set_ne (fun e=>hj e.symm)] at h1 h2
  refine hg.own (h.own j u xs h1 h2) (fun k hk hs=>?_)
  rcases hs with hs|hs
  ·exact hj (h.dis j i u v k h1 hi hk hs)
  have:=(h.block h1 k hk).1;omega
 intro j l u x k h1 h2 hu hx
 by_cases hj:j=i
 ·subst hj
  rw[List.getElem?_set_self hl] at h1
  cases h1
  by_cases hl2:l=j
  ·exact hl2.symm
  rw[List.getElem?_set_ne (fun e=>hl2 e.symm)] at h2
  rcases hv k hu with h3|h3
  ·exact h.dis j l v x k hi h2 h3 hx
  have:=(h.block h2 k hx).2
  omega
 rw[List.getElem?_set_ne (fun e=>hj e.symm)] at h1
 by_cases hl2:l=i
 ·subst hl2
  rw[List.getElem?_set_self hl] at h2
  cases h2
  rcases hv k hx with h3|h3
  ·exact h.dis j l u v k h1 hi hu h3
  have:=(h.block h1 k hu).2
  omega
 rw[List.getElem?_set_ne (fun e=>hl2 e.symm)] at h2
 exact h.dis j l u x k h1 h2 hu hx
theorem Fam.nils (w:World) (base:Nat) (e:TypeId) (n:Nat):Fam w base e (List.replicate n (.slice none 0 0)) (List.replicate n []):=by
 refine⟨by simp,?_,?_⟩
 ·intro i v xs h1 h2
  rw[List.getElem?_replicate] at h1 h2
  split at h1
  ·rename_i hlt
   rw[Z2 hlt] at h2
   cases h1
   cases h2
   exact Yf w base e 1
  cases h1
 intro i j v u k h1 h2 hv hu
 rw[List.getElem?_replicate] at h1
 split at h1
 ·cases h1
  cases hv
 cases h1
def ints (l:List Int):List Value:=l.map (fun x=>.int .i64 x)
theorem Ja (l:List Int):(ints l).length=l.length:=by simp[ints]
theorem ints_at {l:List Int} {i:Nat} (h:i<l.length):(ints l)[i]?=some (.int .i64 (l.getD i 0)):=by
 unfold ints
 rw[List.getElem?_map,Ze h,Zf,Ze h]
 rfl
theorem ints_set (l:List Int) (i:Nat) (x:Int):(ints l).set i (.int .i64 x)=ints (l.set i x):=by unfold ints;rw[List.map_set]
theorem Jq (l:List Int) (x:Int):ints l++[.int .i64 x]=ints (l++[x]):=by simp[ints]
theorem E5 {w:World} {base g n cap:Nat} {e:TypeId} {xs:List Value} (h:w.ownsRow base e 1 (.slice (some ⟨g,0,none⟩) n cap) n xs) (j:Nat) (u:Value) (hj:j<n):(w.setCell ⟨g,j,none⟩ u).ownsRow base e 1 (.slice (some ⟨g,0,none⟩) n cap) n (xs.set j u):=by
 rcases h.2 with ⟨h1,_⟩|⟨g',cap',cur,h1,hb,hg,hnc,hcm,hcs,htk⟩
 ·cases h1
 injection h1 with h1 _ h3
 injection h1 with h1
 injection h1 with h1
 subst h1
 subst h3
 refine⟨by simp[h.1],.inr ⟨g,cap,cur.setIfInBounds j u,rfl,hb,Zj w g j cur e u hg,hnc,hcm,by simp[hcs],?_⟩⟩
 rw[←htk,Array.toList_setIfInBounds,Z8,List.take_set]
theorem gw {w:World} {base g n m cap:Nat} {e:TypeId} {xs:List Value} (h:w.ownsRow base e 1 (.slice (some ⟨g,0,none⟩) n cap) n xs) (hm:m≤n):w.ownsRow base e 1 (.slice (some ⟨g,0,none⟩) m cap) m (xs.take m):=by
 rcases h.2 with ⟨h1,_⟩|⟨g',cap',cur,h1,hb,hg,hnc,hcm,hcs,htk⟩
 ·cases h1
 injection h1 with h1 _ h3
 injection h1 with h1
 injection h1 with h1
 subst h1
 subst h3
 refine⟨by rw[Yb,h.1];omega,.inr ⟨g,cap,cur,rfl,hb,hg,oq,hcm,hcs,?_⟩⟩
 rw[←htk,List.take_take,show min m (n*1)=m*1 by omega]
def mkD (D:Nat):Deferred:={ target:=.collected D,args:=#[] }
def Zbl {α:Type} (F:Fence) (n:Nat) (P:Program) (g:Nat) (lb:Array Value) (encs:α→Array Value) (R:World→Prop) (Ok:List α→α→World→Prop) (Kp:World→World→Prop) (S:List α→Prop) (w:World):Prop :=
 ∀(l:Nat) (J:List α→World→Prop) (W:World),Below w.heap.size w W→OwnFrom W.heap.size J→(∀pre W1,J pre W1→R W1) →
  (∀pre x W1,J pre W1→Ok pre x W1→YieldAt F (n-1) P l (encs x) W1 fun e W'=>e=.returned (.bool true)∧J (pre++[x]) W'∧Kp W1 W') →
  J [] W→CallsIn F n P g (#[.func (.yield l) #[] #[]]++lb) W fun e W'=>(∃v,e=.returned v)∧∃xs,S xs∧J xs W'
theorem GT {α:Type} {F:Fence} {n:Nat} {P:Program} {g:Operand} {ps:Array Tmp} {assign body:Code} {Q:Exit→Act→World→Prop} {a:Act} {w:World} (hro:F.round=none) (h1:1≤n) {gf:Nat} {lb:Array Value}
  (hg:a.eval g=.func (.func gf) #[] lb) (hFg:F.fn gf) (eg:∀args w,(callFunc gf args).run P w=.ok (.enter gf args) w) {encs:α→Array Value} {R:World→Prop} {Ok:List α→α→World→Prop} {Kp:World→World→Prop} {S:List α→Prop}
  (hseq:Zbl F (n-1) P gf lb encs R Ok Kp S w) (hKt:∀{A B C:World},Kp A B→Kp B C→Kp A C) (hKb:∀(W:World) (l:Nat) (o o':Obj),w.heap.size≤l→W.heap[l]?=some o→o.isCells=false→Kp W (W.putObj l o')) (hKw:∀W W':World,Below W.heap.size W W'→Kp W W') (hps:∀x,(encs x).size=ps.size)
  (I:List α→World→Prop) (hI:OwnFrom w.heap.size I) (hIR:∀pre W,I pre W→R W) (h0:I [] w)
  (Ax:List α→α→Act→World→Prop) (hAx:∀pre x a',OwnFrom w.heap.size (fun(_:Unit) W=>Ax pre x a' W))
  (hassign:∀(l:Nat) (pre:List α) (x:α) (W:World) (K:Act→World→Prop),I pre W→Ok pre x W→(∀a' W',Below W.heap.size W W'→I pre W'→Ax pre x a' W'→K a' W') →
   assign.wpIn (F.inRound l) (n-1-1) P (Exit.then K (fun _ _ _=>False)) { tmps:=(ps.zip (encs x)).foldl (fun t (p,v)=>t.setIfInBounds p v) a.tmps,defers:=[] } W)
  (hbody:∀(l:Nat) (pre:List α) (x:α) (a':Act) (W:World),w.heap.size≤l→(∃r,W.heap[l]?=some (.loop r))→I pre W→Ax pre x a' W →
   body.wpIn (F.inRound l) (n-1-1) P (ownPostG w.heap.size Kp I (fun _ _ _=>False) (pre++[x]) W) a' W)
  (hdone:∀(D:Nat) (xs:List α) (W:World),w.heap.size≤D→S xs→I xs W→W.heap[D]?=some (.deferred (some []))→Q .normal { a with defers:=mkD D::a.defers } W) :
  (Code.rangeFunc g ps assign body).wpIn F n P Q a w:=by
 refine wpIn_rangeFunc (fun fn hfn=>?_)
 rw[hro]
 let R:LoopState→Option Code→Loop:=fun st pe=>{ state:=st,pending:=pe,fn,tmps:=a.tmps,params:=ps,assign,body,defers:=w.heap.size }
 let W1:World:=(w.alloc (.deferred (some []))).alloc (.loop (R .ready none))
 have hs1:W1.heap.size=w.heap.size+2:=by simp[W1]
 have hb1:Below w.heap.size w W1:=((Zg _ w).alloc (Zc _) _).alloc (by simp) _
 have hL:W1.heap[w.heap.size+1]?=some (.loop (R .ready none)):=by
  have:=World.alloc_heap_new (w.alloc (.deferred (some []))) (.loop (R .ready none))
  rwa [Zu] at this
 have hD:W1.heap[w.heap.size]?=some (.deferred (some [])):=(Za _ _ _ (by simp)).trans (World.alloc_heap_new w _)
 refine⟨w.heap.size+1,[mkD w.heap.size],W1,{ target:=.fn (.func gf) lb,args:=#[.func (.yield (w.heap.size+1)) #[] #[]] },W1,gf,#[.func (.yield (w.heap.size+1)) #[] #[]]++lb,W1,run_enterLoop_outer _ _ _ _ _,?_,?_,?_,fun _=>h1,?_⟩
 ·simp only[resolve,hg]
  simp[go_sem]
 ·intro f' hf'
  simp[Target.leads] at hf'
  subst hf'
  exact hFg
 ·simp[invoke,go_sem,eg]
 have hrow:∀{A B:World} {row:Option Nat} {k:Nat} {o:Obj},A.grownBy B row→(∀r,row=some r→W1.heap.size≤r∧∃o:Obj,A.heap[r]?=some o∧o.isCells=false)→k<W1.heap.size→A.heap[k]?=some o→B.heap[k]?=some o:=by
  intro A B row k o hgr hr hk ho
  refine(hgr.block k (Zq.1 ho).1 (fun e=>?_)).trans ho
  have:=(hr k e.symm).1
  omega
 have hlow:∀{A:World} {row:Option Nat},(∀r,row=some r→W1.heap.size≤r∧∃o:Obj,A.heap[r]?=some o∧o.isCells=false)→(∀r,row=some r→w.heap.size≤r∧∃o:Obj,A.heap[r]?=some o∧o.isCells=false) :=
  fun hr r e=>⟨by have:=(hr r e).1;omega,(hr r e).2⟩
 refine(hseq (w.heap.size+1) (fun pre W=>(I pre W∧W.heap[w.heap.size+1]?=some (.loop (R .ready none)))∧W.heap[w.heap.size]?=some (.deferred (some []))) W1 hb1
  (fun s A B row hs hgr hr=>⟨⟨hI s A B row hs.1.1 hgr (hlow hr),hrow hgr hr oq hs.1.2⟩,hrow hgr hr oq hs.2⟩)
  (fun pre W1 h=>hIR pre W1 h.1.1) ?_ ⟨⟨hI.alloc _ (hI.alloc _ h0),hL⟩,hD⟩).mono ?_
 ·rintro pre x W ⟨⟨hi,hl⟩,hk⟩ hok
  refine⟨fn,_,assign,body,run_yield (P:=P) (args:=encs x) hl (hps x),roundIn_of_wpIn hfn (hassign _ pre x W _ hi hok (fun a' Wa hba hia hax=>?_))⟩
  have hla:=(hba.block _ (Zq.1 hl).1).trans hl
  have hka:=(hba.block _ (Zq.1 hk).1).trans hk
  have hlt:w.heap.size+1<Wa.heap.size:=(Zq.1 hla).1
  have hWs:w.heap.size+1<W.heap.size:=(Zq.1 hl).1
  refine⟨_,run_beginRound hla rfl,?_⟩
  have hlb:(Wa.putObj (w.heap.size+1) (.loop { R .ready none with state:=.busy })).heap[w.heap.size+1]?=some (.loop { R .ready none with state:=.busy }):=World.putObj_heap_same hlt
  have hkb:(Wa.putObj (w.heap.size+1) (.loop { R .ready none with state:=.busy })).heap[w.heap.size]?=some (.deferred (some [])):=(World.putObj_heap_other oq).trans hka
  have hKa:Kp W Wa:=hKw _ _ hba
  have hKb2:Kp W (Wa.putObj (w.heap.size+1) (.loop { R .ready none with state:=.busy })):=hKt hKa (hKb _ _ _ _ oq hla rfl)
  refine wpIn_mono (hbody _ pre x a' _ oq ⟨_,hlb⟩ (hI.putObj _ hia oq hla rfl) ((hAx pre x a').putObj (s:=()) _ hax oq hla rfl)) ?_
  rintro e a3 W3 hp
  cases e with
  | normal =>
   obtain⟨hk3,hkp3,hi3⟩:=hp
   have hl3:=hk3.same _ _ oq hlb rfl
   have hd3:=hk3.same _ _ (Zc _) hkb rfl
   exact⟨_,_,run_endRound (P:=P) none hl3,rfl,⟨⟨hI.putObj _ hi3 oq hl3 rfl,World.putObj_heap_same (Zq.1 hl3).1⟩,(World.putObj_heap_other oq).trans hd3⟩,hKt (hKt hKb2 hkp3) (hKb _ _ _ _ oq hl3 rfl)⟩
  | ret=>exact hp.2.elim
  | exit id=>exact hp.2.elim
  | goto t=>exact hp.2.elim
  | panic ch=>exact hp.elim
  | outgrown=>exact hp.elim
 rintro e W2 ⟨⟨v,rfl⟩,xs,hS,⟨hi,hl⟩,hk⟩
 exact⟨none,_,run_endLoop (P:=P) hl (by simp[R]),hdone _ xs _ (Zc _) hS (hI.putObj _ hi oq hl rfl) ((World.putObj_heap_other oq).trans hk)⟩
def slt (t:Array Value) (k:Nat):Value:=t.getD k undef
theorem Jn {t:Array Value} {n:Nat} {l:List Value} (h:t.size=n) (hl:l=(List.range n).map (slt t):=by rfl):t=l.toArray:=by
 subst hl
 apply Array.ext'
 rw[List.toList_toArray]
 refine List.ext_getElem (by simp[h]) (fun i hi1 hi2=>?_)
 rw[List.getElem_map,List.getElem_range]
 unfold slt
 have hi:i<t.size:=by simpa using hi1
 simp[Array.getD,hi]
theorem gQ {t:Array Value} (h:t.size=26):t=#[slt t 0,slt t 1,slt t 2,slt t 3,slt t 4,slt t 5,slt t 6,slt t 7,slt t 8,slt t 9,slt t 10,slt t 11,slt t 12,slt t 13,slt t 14,slt t 15,slt t 16,slt t 17,slt t 18,slt t 19,slt t 20,slt t 21,slt t 22,slt t 23,slt t 24,slt t 25]:=Jn h
theorem eK {t:Array Value} (h:t.size=44):t=#[slt t 0,slt t 1,slt t 2,slt t 3,slt t 4,slt t 5,slt t 6,slt t 7,slt t 8,slt t 9,slt t 10,slt t 11,slt t 12,slt t 13,slt t 14,slt t 15,slt t 16,slt t 17,slt t 18,slt t 19,slt t 20,slt t 21,slt t 22,slt t 23,slt t 24,slt t 25,slt t 26,slt t 27,slt t 28,slt t 29,slt t 30,slt t 31,slt t 32,slt t 33,slt t 34,slt t 35,slt t 36,slt t 37,slt t 38,slt t 39,slt t 40,slt t 41,slt t 42,slt t 43]:=Jn h
theorem zN {t:Array Value} (h:t.size=93):t=#[slt t 0,slt t 1,slt t 2,slt t 3,slt t 4,slt t 5,slt t 6,slt t 7,slt t 8,slt t 9,slt t 10,slt t 11,slt t 12,slt t 13,slt t 14,slt t 15,slt t 16,slt t 17,slt t 18,slt t 19,slt t 20,slt t 21,slt t 22,slt t 23,slt t 24,slt t 25,slt t 26,slt t 27,slt t 28,slt t 29,slt t 30,slt t 31,slt t 32,slt t 33,slt t 34,slt t 35,slt t 36,slt t 37,slt t 38,slt t 39,slt t 40,slt t 41,slt t 42,slt t 43,slt t 44,slt t 45,slt t 46,slt t 47,slt t 48,slt t 49,slt t 50,slt t 51,slt t 52,slt t 53,slt t 54,slt t 55,slt t 56,slt t 57,slt t 58,slt t 59,slt t 60,slt t 61,slt t 62,slt t 63,slt t 64,slt t 65,slt t 66,slt t 67,slt t 68,slt t 69,slt t 70,slt t 71,slt t 72,slt t 73,slt t 74,slt t 75,slt t 76,slt t 77,slt t 78,slt t 79,slt t 80,slt t 81,slt t 82,slt t 83,slt t 84,slt t 85,slt t 86,slt t 87,slt t 88,slt t 89,slt t 90,slt t 91,slt t 92]:=Jn h
structure Mk (lo hi:Nat) (ds:List Deferred) (W:World):Prop where
 is:∃l:List Nat,ds=l.map mkD∧l.Nodup∧∀D∈l,(lo≤D∧D<hi)∧W.heap[D]?=some (.deferred (some []))
theorem Mk.nil (lo hi:Nat) (W:World):Mk lo hi [] W:=⟨[],rfl,List.nodup_nil,fun D h=>by cases h⟩
theorem Mk.keep {lo hi:Nat} {ds:List Deferred} {W W':World} (h:Mk lo hi ds W) (hk:∀(k:Nat) (o:Obj),lo≤k→k<hi→W.heap[k]?=some o→o.isCells=false→W'.heap[k]?=some o):Mk lo hi ds W':=by
 obtain⟨l,h1,h2,h3⟩:=h.is
 exact⟨l,h1,h2,fun D hD=>⟨(h3 D hD).1,hk D _ (h3 D hD).1.1 (h3 D hD).1.2 (h3 D hD).2 rfl⟩⟩
theorem Mk.below {lo hi:Nat} {ds:List Deferred} {W W':World} (h:Mk lo hi ds W) (hb:Below W.heap.size W W'):Mk lo hi ds W':=h.keep (fun k o _ _ hk _=>(hb.block k (Zb hk)).trans hk)
theorem Mk.from {lo hi:Nat} {ds:List Deferred} {W W':World} (h:Mk lo hi ds W) (hb:KeepsFrom lo W W'):Mk lo hi ds W':=h.keep (fun k o hlo _ hk hc=>hb.same k o hlo hk hc)
theorem Mk.up {lo hi hi':Nat} {ds:List Deferred} {W:World} (h:Mk lo hi ds W) (hh:hi≤hi'):Mk lo hi' ds W:=by
 obtain⟨l,h1,h2,h3⟩:=h.is
 exact⟨l,h1,h2,fun D hD=>⟨⟨(h3 D hD).1.1,Zd (h3 D hD).1.2 hh⟩,(h3 D hD).2⟩⟩
theorem Mk.own {β:Type} {lo hi B:Nat} {ds:List Deferred} (hB:hi≤B):OwnFrom B (fun(_:β) W=>Mk lo hi ds W):=fun s A C row hs hg hrw =>
 hs.keep (fun k o _ hk ho hc=>(hg.block k (Zb ho) (fun e=>by have:=(hrw k e.symm).1;omega)).trans ho)
theorem Mk.cons {lo hi:Nat} {ds:List Deferred} {W:World} (h:Mk lo hi ds W) {D:Nat} (hlo:lo≤D) (hD:hi≤D) (hW:W.heap[D]?=some (.deferred (some []))):Mk lo W.heap.size (mkD D::ds) W:=by
 obtain⟨l,h1,h2,h3⟩:=h.is
 refine⟨D::l,by rw[h1];rfl,List.nodup_cons.2 ⟨fun hm=>by have:=(h3 D hm).1.2;omega,h2⟩,fun E hE=>?_⟩
 rcases ZR.1 hE with rfl|hE
 ·exact⟨⟨hlo,Zb hW⟩,hW⟩
 exact⟨⟨(h3 E hE).1.1,Zb (h3 E hE).2⟩,(h3 E hE).2⟩
structure MkW (lo:Nat) (W W':World):Prop where
 os:W'.os=W.os
 tape:W'.tape=W.tape
 output:W'.output=W.output
 size:W'.heap.size=W.heap.size
 low:∀k,k<lo→W'.heap[k]?=W.heap[k]?
 cells:∀(k:Nat) (o:Obj),W.heap[k]?=some o→o.isCells=true→W'.heap[k]?=some o
theorem MkW.refl (lo:Nat) (W:World):MkW lo W W:=⟨rfl,rfl,rfl,rfl,fun _ _=>rfl,fun _ _ h _=>h⟩
theorem MkW.below {lo:Nat} {W W':World} (h:MkW lo W W'):Below lo W W':=⟨h.os,h.tape,h.output,Nat.le_of_eq h.size.symm,fun k hk=>h.low k hk⟩
theorem V7 {F:Fence} {n:Nat} {P:Program} {fn:Func} {tmps:Array Value} {R:Ending→World→Prop} {lo:Nat}:∀(l:List Nat) (W0 W:World),MkW lo W0 W→l.Nodup→(∀D∈l,lo≤D∧W.heap[D]?=some (.deferred (some []))) →
  (∀W',MkW lo W0 W'→∃v,(results fn tmps).run P W'=.ok v W'∧R (.returned v) W')→LeavesInM F n P fn tmps R (l.map mkD) .returning W
 | [],W0,W,hw,_,_,h=>h W hw
 | D::l,W0,W,hw,hn,hD,h=>by
  have h1:=hD D (by simp)
  have hlt:=Zb h1.2
  refine⟨by simp,.inl ⟨D,_,rfl,run_takeDeferred h1.2,?_⟩⟩
  refine V7 l W0 _ ⟨hw.os,hw.tape,hw.output,by simpa using hw.size,fun k hk=>(World.putObj_heap_other oq).trans (hw.low k hk),fun k o ho hc=>?_⟩ (List.nodup_cons.1 hn).2 (fun E hE=>⟨(hD E (by simp[hE])).1,(World.putObj_heap_other (fun e=>?_)).trans (hD E (by simp[hE])).2⟩) h
  ·have h2:=hw.cells k o ho hc
   refine(World.putObj_heap_other (fun e=>?_)).trans h2
   subst e
   rw[h1.2] at h2
   injection h2 with h2
   subst h2
   cases hc
  subst e
  exact(List.nodup_cons.1 hn).1 hE
theorem Mk.leaves {F:Fence} {n:Nat} {P:Program} {fn:Func} {tmps:Array Value} {R:Ending→World→Prop} {lo hi:Nat} {ds:List Deferred} {W:World} (h:Mk lo hi ds W)
  (hr:∀W',MkW lo W W'→∃v,(results fn tmps).run P W'=.ok v W'∧R (.returned v) W'):LeavesInM F n P fn tmps R ds .returning W:=by
 obtain⟨l,rfl,h2,h3⟩:=h.is
 exact V7 l W W (MkW.refl _ _) h2 (fun D hD=>⟨(h3 D hD).1.1,(h3 D hD).2⟩) hr
structure AD where
 src:Int
 ops:List (Int × Int × Int)
structure TD where
 node:Int
 per:Int
 ph:Int
 args:List AD
structure LD where
 per:Int
 ph:Int
 arg:AD
 dl:Int
structure NB where
 bud:Int
 nps:Nat
structure FD where
 ins:List (Int × Int)
 nods:List NB
 tasks:List TD
 tells:List LD
def ZaN (w:World) (b o:Nat) (c:Int × Int):Prop:=w.cell? ⟨b,o,none⟩=some (.int .i64 c.1)∧w.cell? ⟨b,o+1,none⟩=some (.int .i64 c.2)
def OpR (w:World) (b o:Nat) (x:Int × Int × Int):Prop:=w.cell? ⟨b,o,none⟩=some (.int .i64 x.1)∧w.cell? ⟨b,o+1,none⟩=some (.int .i64 x.2.1)∧w.cell? ⟨b,o+2,none⟩=some (.int .i64 x.2.2)
def qb (w:World) (b o:Nat) (a:AD):Prop:=w.cell? ⟨b,o,none⟩=some (.int .i64 a.src)∧∃ad cap,w.cell? ⟨b,o+1,none⟩=some (.slice ad a.ops.length cap)∧Row OpR 3 w a.ops ad
def ge (w:World) (b o:Nat) (t:TD):Prop:=w.cell? ⟨b,o,none⟩=some (.int .i64 t.node)∧w.cell? ⟨b,o+1,none⟩=some (.int .i64 t.per)∧w.cell? ⟨b,o+2,none⟩=some (.int .i64 t.ph)∧∃ad cap,w.cell? ⟨b,o+3,none⟩=some (.slice ad t.args.length cap)∧Row qb 2 w t.args ad
def ZaX (w:World) (b o:Nat) (t:LD):Prop:=w.cell? ⟨b,o,none⟩=some (.int .i64 t.per)∧w.cell? ⟨b,o+1,none⟩=some (.int .i64 t.ph)∧w.cell? ⟨b,o+2,none⟩=some (.int .i64 t.arg.src)∧w.cell? ⟨b,o+4,none⟩=some (.int .i64 t.dl)∧∃ad cap,w.cell? ⟨b,o+3,none⟩=some (.slice ad t.arg.ops.length cap)∧Row OpR 3 w t.arg.ops ad
def NdR (w:World) (b o:Nat) (n:NB):Prop:=∃(nm:ByteArray) (pa:Option Addr) (pc:Nat) (k:Int) (nm2:ByteArray) (n2 d2:Int) (ea:Option Addr) (el ec:Nat) (a2 a:Int),
 w.cell? ⟨b,o,none⟩=some (.string nm)∧w.cell? ⟨b,o+1,none⟩=some (.slice pa n.nps pc)∧w.cell? ⟨b,o+2,none⟩=some (.int .i64 n.bud)∧w.cell? ⟨b,o+3,none⟩=some (.int .i64 k)∧w.cell? ⟨b,o+4,none⟩=some (.string nm2)∧w.cell? ⟨b,o+5,none⟩=some (.int .i64 n2) ∧
 w.cell? ⟨b,o+6,none⟩=some (.int .i64 d2)∧w.cell? ⟨b,o+7,none⟩=some (.slice ea el ec)∧w.cell? ⟨b,o+8,none⟩=some (.int .i64 a2)∧w.cell? ⟨b,o+9,none⟩=some (.int .i64 a)
theorem Zb3:Sta ZaN:=fun w w' b o x hb hlt h=>⟨(hb.cell (p:=⟨b,_,none⟩) hlt).trans h.1,(hb.cell (p:=⟨b,_,none⟩) hlt).trans h.2⟩
theorem Uf:Sta OpR:=fun w w' b o x hb hlt h=>⟨(hb.cell (p:=⟨b,_,none⟩) hlt).trans h.1,(hb.cell (p:=⟨b,_,none⟩) hlt).trans h.2.1,(hb.cell (p:=⟨b,_,none⟩) hlt).trans h.2.2⟩
theorem jf:Sta qb:=fun w w' b o x hb hlt h=>by
 obtain⟨h0,ad,cap,h1,h2⟩:=h
 exact⟨(hb.cell (p:=⟨b,_,none⟩) hlt).trans h0,ad,cap,(hb.cell (p:=⟨b,_,none⟩) hlt).trans h1,h2.below Uf hb⟩
theorem Gq:Sta ge:=fun w w' b o x hb hlt h=>by
 obtain⟨h0,h1,h2,ad,cap,h3,h4⟩:=h
 exact⟨(hb.cell (p:=⟨b,_,none⟩) hlt).trans h0,(hb.cell (p:=⟨b,_,none⟩) hlt).trans h1,(hb.cell (p:=⟨b,_,none⟩) hlt).trans h2,ad,cap,(hb.cell (p:=⟨b,_,none⟩) hlt).trans h3,h4.below jf hb⟩
theorem eu:Sta ZaX:=fun w w' b o x hb hlt h=>by
 obtain⟨h0,h1,h2,h3,ad,cap,h4,h5⟩:=h
 exact⟨(hb.cell (p:=⟨b,_,none⟩) hlt).trans h0,(hb.cell (p:=⟨b,_,none⟩) hlt).trans h1,(hb.cell (p:=⟨b,_,none⟩) hlt).trans h2,(hb.cell (p:=⟨b,_,none⟩) hlt).trans h3,ad,cap,(hb.cell (p:=⟨b,_,none⟩) hlt).trans h4,h5.below Uf hb⟩
theorem ZbF:Sta NdR:=fun w w' b o x hb hlt h=>by
 obtain⟨nm,pa,pc,k,nm2,n2,d2,ea,el,ec,a2,a,h0,h1,h2,h3,h4,h5,h6,h7,h8,h9⟩:=h
 have hc:=fun o=>hb.cell (p:=⟨b,o,none⟩) hlt
 exact⟨nm,pa,pc,k,nm2,n2,d2,ea,el,ec,a2,a,(hc _).trans h0,(hc _).trans h1,(hc _).trans h2,(hc _).trans h3,(hc _).trans h4,(hc _).trans h5,(hc _).trans h6,(hc _).trans h7,(hc _).trans h8,(hc _).trans h9⟩
structure FAP (w:World) (f:FD) (ai an aT al:Option Addr):Prop where
 ins:Row ZaN 2 w f.ins ai
 nods:Row NdR 10 w f.nods an
 tasks:Row ge 4 w f.tasks aT
 tells:Row ZaX 5 w f.tells al
 lens:f.ins.length≤1000∧f.nods.length≤1000∧f.tasks.length≤1000∧f.tells.length≤1000
 args:∀t∈f.tasks,t.args.length≤1000∧∀a∈t.args,a.ops.length≤1000∧I64 a.src
 tops:∀t∈f.tells,t.arg.ops.length≤1000∧I64 t.arg.src
theorem FAP.below {w w':World} {f:FD} {ai an aT al:Option Addr} (h:FAP w f ai an aT al) (hb:Below w.heap.size w w'):FAP w' f ai an aT al :=
 ⟨h.ins.below Zb3 hb,h.nods.below ZbF hb,h.tasks.below Gq hb,h.tells.below eu hb,h.lens,h.args,h.tops⟩
def fv (f:FD) (ai an aT al:Option Addr) (ci cn ct cl:Nat):Value:=.agg #[.slice ai f.ins.length ci,.slice an f.nods.length cn,.slice aT f.tasks.length ct,.slice al f.tells.length cl]
def JB (f:FD) (i:Int):Option (Int × Int):=if i<0 then none else if i<(f.ins.length:Int) then f.ins[i.toNat]? else (f.tasks[(i-(f.ins.length:Int)).toNat]?).map (fun t=>(t.per,t.ph))
def VR (o:Option (Int × Int)):Value:=.tuple #[.agg #[.int .i64 (o.getD (0,0)).1,.int .i64 (o.getD (0,0)).2],.bool o.isSome]
theorem jL {f:FD} {i:Int} (h:i<0):JB f i=none:=Z2 h
theorem ZbX {f:FD} {k:Nat} (h:k<f.ins.length):JB f (k:Int)=some f.ins[k]:=by
 unfold JB
 rw[Z1 oq,Z2 oq,ZQ,Ze h]
theorem KQ {f:FD} {k:Nat} (h:k<f.tasks.length):JB f ((f.ins.length:Int)+(k:Int))=some (f.tasks[k].per,f.tasks[k].ph):=by
 unfold JB
 rw[Z1 oq,Z1 oq,show((f.ins.length:Int)+(k:Int)-(f.ins.length:Int)).toNat=k by omega,Ze h]
 rfl
theorem j8 {f:FD} {i:Int} (h0:¬i<0) (h1:¬i<(f.ins.length:Int)) (h2:¬i-(f.ins.length:Int)<(f.tasks.length:Int)):JB f i=none:=by
 unfold JB
 rw[Z1 h0,Z1 h1,Yc oq]
 rfl
end Go.Proofs.YtgigilkpndhddaaGreatDoor.syn
