/- Parts of the proof. -/
import Derived.Deep.CutBlock
import Derived.Deep.DeepCutAuto
import Derived.Deep.RegionLaw
import Derived.Deep.Upon
import Derived.Lib.AppendZeros
import Derived.Lib.SlicesCompact
import Derived.StillTailTactics
import Derived.Test.YtlhlcdjiafdoeaaGreatDoorV02
import Derived.Test.YtlhlcdjiafdoeaaGreatDoorV04
set_option linter.all false
set_option maxRecDepth 100000
set_option maxHeartbeats 16000000
namespace Go.Proofs.YtlhlcdjiafdoeaaGreatDoor.lite
open Go.RowKit
theorem Gl {P:Program} (w:World) (base:Nat) (t ty e:TypeId) (i:TypeInfo) (z:Value) (size bytes:Nat) (ht:P.underlying t=some (.slice e)) (hi:P.info? e=some i) (hz:i.zero=some z)
  (hsize:i.size=size) (hby:i.bytes=bytes) (hzs:z.cells.size=size) (hsz:0<size)
  (v:Value) (n:Nat) (xs:List Value) (hown:w.ownsRow base e size v n xs)
  (ad:Option Addr) (m c:Nat) (news:List Value) (hl:news.length=m*size) (hnews:∀j u,news[j]?=some u→∃x:Addr,ad=some x∧w.cell? (x.add j)=some u) (h1:∀u∈news,u.oneCell'=true)
  (h63:n+m≤maxLen) (hbytes:(n+m)*bytes≤140737488355328) (hbase:base≤w.heap.size) :
  ∃v' w',(Builtin.append_ #[t,t] ty #[v,.slice ad m c]).run P w=.ok v' w'∧w'.ownsRow base e size v' (n+m) (xs++news)∧w.grownBy w' v.ownBlock∧(v'.ownBlock=v.ownBlock∨v'.ownBlock=some w.heap.size):=by
 cases ad with
 | some a =>
  obtain⟨v',w',hr,h2,h3,_,h5⟩:=run_append_own_at (P:=P) w base t ty e i z size bytes ht hi hz hsize hby hzs hsz v n xs hown a m c news hl (fun j u h=>by obtain⟨x,hx,hc⟩:=hnews j u h;cases hx;exact hc) h1 h63 hbytes hbase
  exact⟨v',w',hr,h2,h3,h5⟩
 | none =>
  have hm:m=0:=by
   cases news with
   | nil =>
    have h:m*size=0:=hl.symm
    rcases Nat.mul_eq_zero.1 h with h|h
    ·exact h
    omega
   | cons u us=>obtain⟨x,hx,_⟩:=hnews 0 u rfl;cases hx
  subst hm
  obtain rfl:news=[]:=by simpa using hl
  have key:∀(b:Option Addr) (k cp:Nat),k≤cp→(Builtin.append_ #[t,t] ty #[.slice b k cp,.slice none 0 c]).run P w=.ok (.slice b k cp) w:=by
   intro b k cp hle
   refine run_append_nothing w t t ty e i ht hi b k cp hle _ ⟨.inl ⟨_,ht⟩,?_,?_,?_,by simp,by simp⟩
   ·intro w';simp[Builtin.lenOf]
   ·simp[Builtin.firstCells]
   simp[Builtin.firstCells]
  have hown':=hown
  rcases hown.2 with ⟨rfl,rfl⟩|⟨g,cap,cur,rfl,hb,hg,hnc,hcm,hcs,htk⟩
  ·refine⟨_,w,key _ _ _ (Yn _),by simpa using hown',World.grownBy.refl _ _,.inl rfl⟩
  refine⟨_,w,key _ _ _ hnc,by simpa using hown',World.grownBy.refl _ _,.inl rfl⟩
theorem Xd {P:Program} (w:World) {ops:Array Oper} {rest:List Oper} {o:Oper} {a:Act} {Q:Exit→Act→World→Prop} (hgd:o.guard=none) (s x:Operand) (t:TypeId)
  (ho:o.op=.call { callee:=.builtin .append,args:=#[s,x],argTypes:=#[t,t] })
  (base:Nat) (e:TypeId) (i:TypeInfo) (z:Value) (size bytes:Nat) (ht:P.underlying t=some (.slice e)) (hi:P.info? e=some i) (hz:i.zero=some z)
  (hsize:i.size=size) (hby:i.bytes=bytes) (hzs:z.cells.size=size) (hsz:0<size)
  (v:Value) (n:Nat) (xs:List Value) (hs:a.eval s=v) (hown:w.ownsRow base e size v n xs)
  (ad:Option Addr) (m c:Nat) (news:List Value) (hx:a.eval x=.slice ad m c) (hl:news.length=m*size) (hnews:∀j u,news[j]?=some u→∃x:Addr,ad=some x∧w.cell? (x.add j)=some u) (h1:∀u∈news,u.oneCell'=true)
  (h63:n+m≤maxLen) (hbytes:(n+m)*bytes≤140737488355328) (hbase:base≤w.heap.size)
  (h:∀v' w',w'.ownsRow base e size v' (n+m) (xs++news)→w.grownBy w' v.ownBlock→(v'.ownBlock=v.ownBlock∨v'.ownBlock=some w.heap.size)→wpList P ops Q rest (a.put o.dst v') w'):wpList P ops Q (o::rest) a w:=by
 obtain⟨v',w',hr,h2,h3,h4⟩:=Gl (P:=P) w base t o.type e i z size bytes ht hi hz hsize hby hzs hsz v n xs hown ad m c news hl hnews h1 h63 hbytes hbase
 exact Lib.wpList_append_run w hgd s x t t ho v _ hs hx v' w' hr (h v' w' h2 h3 h4)
theorem info_parts {P:Program} {e:TypeId} {z:Value} {n b:Nat} (h:(P.info? e).map (fun i=>(i.zero,i.size,i.bytes))=some (some z,n,b)):∃i,P.info? e=some i∧i.zero=some z∧i.size=n∧i.bytes=b:=by
 cases hi:P.info? e with
 | none=>rw[hi] at h;cases h
 | some i=>rw[hi] at h;simp at h;exact⟨i,rfl,h.1,h.2.1,h.2.2⟩
end Go.Proofs.YtlhlcdjiafdoeaaGreatDoor.lite
namespace Go.Proofs.YtlhlcdjiafdoeaaGreatDoor.syn
open Go.RowKit
theorem YD {w:World} {base n:Nat} {e:TypeId} {size:Nat} {v:Value} {xs:List Value} (h:w.ownsRow base e size v n xs):∃ad cap,v=.slice ad n cap:=by
 rcases h.2 with ⟨rfl,rfl⟩|⟨g,cap,cur,rfl,_⟩
 ·exact⟨none,0,rfl⟩
 exact⟨_,cap,rfl⟩
theorem own_below {w w':World} {base n:Nat} {e:TypeId} {size:Nat} {v:Value} {xs:List Value} (h:w.ownsRow base e size v n xs) (hb:Below w.heap.size w w'):w'.ownsRow base e size v n xs :=
 h.kept (row:=none) ⟨hb.os,hb.tape,hb.output,hb.size,fun k hk _=>hb.block k hk⟩ (by cases hv:v.ownBlock<;>simp)
theorem info_parts {P:Program} {e:TypeId} {z:Value} {n b:Nat} (h:(P.info? e).map (fun i=>(i.zero,i.size,i.bytes))=some (some z,n,b)):∃i,P.info? e=some i∧i.zero=some z∧i.size=n∧i.bytes=b:=by
 cases hi:P.info? e with
 | none=>rw[hi] at h;cases h
 | some i=>rw[hi] at h;simp at h;exact⟨i,rfl,h.1,h.2.1,h.2.2⟩
theorem YG {w:World} {b:Nat} {v0 v1:Value} {t:TypeId} (h:w.heap[b]?=some (.cells #[v0,v1] t (0,0))):(w.cell? ⟨b,0,none⟩=some v0∧w.cell? ⟨b,1,none⟩=some v1)∧∀o,w.frozen? ⟨b,o,none⟩=false:=by
 refine⟨⟨?_,?_⟩,?_⟩
 all_goals first|(intro o;simp[World.frozen?,h])|simp[World.cell?,h]
theorem YW {w:World} {base:Nat} {e:TypeId} {size n:Nat} {v:Value} {xs:List Value} (h:w.ownsRow base e size v n xs):∀k,v.ownBlock=some k→base≤k:=by
 intro k hk
 rcases h.2 with ⟨rfl,_⟩|⟨g,cap,cur,rfl,hb,_⟩
 ·cases hk
 simp[Value.ownBlock] at hk;omega
theorem Xw {w:World} {base:Nat} {e:TypeId} {size n:Nat} {v:Value} {xs:List Value} (h:w.ownsRow base e size v n xs) {B o:Nat} (hB:B<base) (u:Value):(w.setCell ⟨B,o,none⟩ u).ownsRow base e size v n xs :=
 h.kept (row:=some B) ⟨rfl,rfl,rfl,((Zg 0 w).setCell (p:=⟨B,o,none⟩) (Zk _) u).size,fun k _ hk=>Zr _ _ _ _ (fun e=>hk (by rw[e]))⟩ (Or.inr (fun e=>by have:=YW h _ e;omega))
theorem Y6 {w:World} {base base':Nat} {e:TypeId} {size n:Nat} {v:Value} {xs:List Value} (h:w.ownsRow base e size v n xs) (hb:base'≤base):w.ownsRow base' e size v n xs:=by
 refine⟨h.1,?_⟩
 rcases h.2 with h0|⟨g,cap,cur,hv,hg,rest⟩
 ·exact .inl h0
 exact .inr ⟨g,cap,cur,hv,Zm hb hg,rest⟩
theorem Gc {w w':World} {base:Nat} {e:TypeId} {size n:Nat} {v:Value} {xs:List Value} (h:w.ownsRow base e size v n xs) {B:Nat} (hB:B<base) (hu:Upon B w w'):w'.ownsRow base e size v n xs :=
 h.kept (row:=some B) ⟨hu.os,hu.tape,hu.output,hu.size,fun k hk hne=>hu.block k hk (fun e=>hne (by rw[e]))⟩ (Or.inr (fun e=>by have:=YW h _ e;omega))
theorem Yu {w:World} {b:Nat} {v0 v1 v2 v3:Value} {t:TypeId} (h:w.heap[b]?=some (.cells #[v0,v1,v2,v3] t (0,0))) :
  (w.cell? ⟨b,0,none⟩=some v0∧w.cell? ⟨b,1,none⟩=some v1∧w.cell? ⟨b,2,none⟩=some v2∧w.cell? ⟨b,3,none⟩=some v3)∧∀o,w.frozen? ⟨b,o,none⟩=false:=by
 refine⟨⟨?_,?_,?_,?_⟩,?_⟩
 all_goals first|(intro o;simp[World.frozen?,h])|simp[World.cell?,h]
structure But (S:Nat→Prop) (w w':World):Prop where
 os:w'.os=w.os
 tape:w'.tape=w.tape
 output:w'.output=w.output
 size:w.heap.size≤w'.heap.size
 block:∀k,k<w.heap.size→¬S k→w'.heap[k]?=w.heap[k]?
theorem But.refl (S:Nat→Prop) (w:World):But S w w:=⟨rfl,rfl,rfl,Zc _,fun _ _ _=>rfl⟩
theorem But.trans {S:Nat→Prop} {a b c:World} (h:But S a b) (k:But S b c):But S a c :=
 ⟨k.os.trans h.os,k.tape.trans h.tape,k.output.trans h.output,Zm h.size k.size,fun i hi hr=>(k.block i (Zd hi h.size) hr).trans (h.block i hi hr)⟩
theorem But.then {S T:Nat→Prop} {a b c:World} (h:But S a b) (k:But T b c) (hT:∀i,i<a.heap.size→T i→S i):But S a c :=
 ⟨k.os.trans h.os,k.tape.trans h.tape,k.output.trans h.output,Zm h.size k.size,fun i hi hr=>(k.block i (Zd hi h.size) (fun t=>hr (hT i hi t))).trans (h.block i hi hr)⟩
theorem But.imp {S T:Nat→Prop} {a b:World} (h:But S a b) (hT:∀i,i<a.heap.size→S i→T i):But T a b:=⟨h.os,h.tape,h.output,h.size,fun k hk hr=>h.block k hk (fun s=>hr (hT k hk s))⟩
theorem But.of_below {S:Nat→Prop} {a b:World} (h:Below a.heap.size a b):But S a b:=⟨h.os,h.tape,h.output,h.size,fun k hk _=>h.block k hk⟩
theorem But.of_upon {r:Nat} {a b:World} (h:Upon r a b):But (fun k=>k=r) a b:=⟨h.os,h.tape,h.output,h.size,fun k hk hr=>h.block k hk hr⟩
theorem But.of_grown {row:Option Nat} {a b:World} (h:a.grownBy b row):But (fun k=>row=some k) a b:=⟨h.os,h.tape,h.output,h.size,fun k hk hr=>h.block k hk (fun e=>hr e.symm)⟩
theorem But.below {S:Nat→Prop} {B:Nat} {a b:World} (h:But S a b) (h1:B≤a.heap.size) (h2:∀k,S k→B≤k):Below B a b :=
 ⟨h.os,h.tape,h.output,h.size,fun k hk=>h.block k oq (fun s=>by have:=h2 k s;omega)⟩
theorem But.drewN {S:Nat→Prop} {a w:World} (h:But S a w) (n:Nat):But S a (w.drewN n):=⟨h.os,h.tape,h.output,h.size,h.block⟩
theorem But.drew {S:Nat→Prop} {a w:World} (h:But S a w):But S a w.drew:=⟨h.os,h.tape,h.output,h.size,h.block⟩
theorem But.set {S:Nat→Prop} {w:World} {b o:Nat} (hb:S b) (u:Value):But S w (w.setCell ⟨b,o,none⟩ u) :=
 (But.of_upon ((Upon.refl b w).setAt (.inl rfl) u)).imp (fun i _ e=>e▸hb)
theorem But.alloc {S:Nat→Prop} {a w:World} (h:But S a w) (o:Obj):But S a (w.alloc o):=h.then (But.of_below ((Zg _ _).alloc (Zc _) o)) (fun _ _ t=>t)
theorem But.own {S:Nat→Prop} {w w':World} {base:Nat} {e:TypeId} {size n:Nat} {v:Value} {xs:List Value} (h:But S w w') (ho:w.ownsRow base e size v n xs) (hS:∀k,v.ownBlock=some k→¬S k):w'.ownsRow base e size v n xs:=by
 refine⟨ho.1,?_⟩
 rcases ho.2 with hn|⟨g,cap,cur,rfl,hb,hgg,rest⟩
 ·exact .inl hn
 exact .inr ⟨g,cap,cur,rfl,hb,(h.block g (Zq.1 hgg).1 (hS g rfl)).trans hgg,rest⟩
structure Fam (w:World) (base:Nat) (e:TypeId) (vs:List Value) (xss:List (List Value)):Prop where
 len:vs.length=xss.length
 own:∀(i:Nat) (v:Value) (xs:List Value),vs[i]?=some v→xss[i]?=some xs→w.ownsRow base e 1 v xs.length xs
 dis:∀(i j:Nat) (v u:Value) (k:Nat),vs[i]?=some v→vs[j]?=some u→v.ownBlock=some k→u.ownBlock=some k→i=j
theorem Fam.block {w:World} {base:Nat} {e:TypeId} {vs:List Value} {xss:List (List Value)} (h:Fam w base e vs xss) {i:Nat} {v:Value} (hv:vs[i]?=some v):∀k,v.ownBlock=some k→base≤k∧k<w.heap.size:=by
 have hi:i<xss.length:=by rw[←h.len];exact(Zz.1 hv).1
 exact(h.own i v _ hv (Ze hi)).lt
theorem Fam.but {w w':World} {base:Nat} {e:TypeId} {vs:List Value} {xss:List (List Value)} (h:Fam w base e vs xss) {S:Nat→Prop} (hb:But S w w') (hS:∀(i:Nat) (v:Value) (k:Nat),vs[i]?=some v→v.ownBlock=some k→¬S k):Fam w' base e vs xss :=
 ⟨h.len,fun i v xs h1 h2=>hb.own (h.own i v xs h1 h2) (fun k hk=>hS i v k h1 hk),h.dis⟩
theorem Fam.below {w w':World} {base:Nat} {e:TypeId} {vs:List Value} {xss:List (List Value)} (h:Fam w base e vs xss) (hb:Below w.heap.size w w'):Fam w' base e vs xss :=
 h.but (But.of_below (S:=fun _=>False) hb) (fun _ _ _ _ _ hf=>hf)
theorem Fam.butB {w w':World} {base:Nat} {e:TypeId} {vs:List Value} {xss:List (List Value)} (h:Fam w base e vs xss) {S:Nat→Prop} (hb:But S w w') (hS:∀k,S k→k<base):Fam w' base e vs xss :=
 h.but hb (fun i v k hv hk hs=>by have h1:=(h.block hv k hk).1;have h2:=hS k hs;omega)
theorem Fam.set {w:World} {base:Nat} {e:TypeId} {vs:List Value} {xss:List (List Value)} (h:Fam w base e vs xss) {b o:Nat} (hb:b<base) (u:Value):Fam (w.setCell ⟨b,o,none⟩ u) base e vs xss :=
 h.butB (But.set (S:=fun k=>k=b) rfl u) (fun k hk=>oq)
theorem Fam.put {w w':World} {base:Nat} {e:TypeId} {vs:List Value} {xss:List (List Value)} (h:Fam w base e vs xss) {i:Nat} {v v':Value} {xs':List Value} (hi:vs[i]?=some v) (hg:But (fun k=>v.ownBlock=some k∨k<base) w w')
  (ho:w'.ownsRow base e 1 v' xs'.length xs') (hv:∀k,v'.ownBlock=some k→v.ownBlock=some k∨w.heap.size≤k):Fam w' base e (vs.set i v') (xss.set i xs'):=by
 have hl:=(Zz.1 hi).1
 refine⟨by simp[h.len],?_,?_⟩
 ·intro j u xs h1 h2
  by_cases hj:j=i
  ·subst hj
   rw[List.getElem?_set_self hl] at h1
   rw[List.getElem?_set_self (by rw[←h.len];exact hl)] at h2
   cases h1
   cases h2
   exact ho
  rw[List.getElem?_set_ne (fun e=>hj e.symm)] at h1 h2
  refine hg.own (h.own j u xs h1 h2) (fun k hk hs=>?_)
  rcases hs with hs|hs
  ·exact hj (h.dis j i u v k h1 hi hk hs)
  have:=(h.block h1 k hk).1;omega
 intro j l u x k h1 h2 hu hx
 by_cases hj:j=i
 ·subst hj
  rw[List.getElem?_set_self hl] at h1
  cases h1
  by_cases hl2:l=j
  ·exact hl2.symm
  rw[List.getElem?_set_ne (fun e=>hl2 e.symm)] at h2
  rcases hv k hu with h3|h3
  ·exact h.dis j l v x k hi h2 h3 hx
  have:=(h.block h2 k hx).2
  omega
 rw[List.getElem?_set_ne (fun e=>hj e.symm)] at h1
 by_cases hl2:l=i
 ·subst hl2
  rw[List.getElem?_set_self hl] at h2
  cases h2
  rcases hv k hx with h3|h3
  ·exact h.dis j l u v k h1 hi hu h3
  have:=(h.block h1 k hu).2
  omega
 rw[List.getElem?_set_ne (fun e=>hl2 e.symm)] at h2
 exact h.dis j l u x k h1 h2 hu hx
theorem Fam.nils (w:World) (base:Nat) (e:TypeId) (n:Nat):Fam w base e (List.replicate n (.slice none 0 0)) (List.replicate n []):=by
 refine⟨by simp,?_,?_⟩
 ·intro i v xs h1 h2
  rw[List.getElem?_replicate] at h1 h2
  split at h1
  ·rename_i hlt
   rw[Z0 hlt] at h2
   cases h1
   cases h2
   exact Yd w base e 1
  cases h1
 intro i j v u k h1 h2 hv hu
 rw[List.getElem?_replicate] at h1
 split at h1
 ·cases h1
  cases hv
 cases h1
def ints (l:List Int):List Value:=l.map (fun x=>.int .i64 x)
theorem QX (l:List Int):(ints l).length=l.length:=by simp[ints]
theorem ints_at {l:List Int} {i:Nat} (h:i<l.length):(ints l)[i]?=some (.int .i64 (l.getD i 0)):=by
 unfold ints
 rw[List.getElem?_map,Ze h,Zf,Ze h]
 rfl
theorem ints_set (l:List Int) (i:Nat) (x:Int):(ints l).set i (.int .i64 x)=ints (l.set i x):=by unfold ints;rw[List.map_set]
theorem JU (l:List Int) (x:Int):ints l++[.int .i64 x]=ints (l++[x]):=by simp[ints]
theorem Jy {w:World} {base g n cap:Nat} {e:TypeId} {xs:List Value} (h:w.ownsRow base e 1 (.slice (some ⟨g,0,none⟩) n cap) n xs) (j:Nat) (u:Value) (hj:j<n):(w.setCell ⟨g,j,none⟩ u).ownsRow base e 1 (.slice (some ⟨g,0,none⟩) n cap) n (xs.set j u):=by
 rcases h.2 with ⟨h1,_⟩|⟨g',cap',cur,h1,hb,hg,hnc,hcm,hcs,htk⟩
 ·cases h1
 injection h1 with h1 _ h3
 injection h1 with h1
 injection h1 with h1
 subst h1
 subst h3
 refine⟨by simp[h.1],.inr ⟨g,cap,cur.setIfInBounds j u,rfl,hb,Zj w g j cur e u hg,hnc,hcm,by simp[hcs],?_⟩⟩
 rw[←htk,Array.toList_setIfInBounds,Z6,List.take_set]
theorem yK {w:World} {base g n m cap:Nat} {e:TypeId} {xs:List Value} (h:w.ownsRow base e 1 (.slice (some ⟨g,0,none⟩) n cap) n xs) (hm:m≤n):w.ownsRow base e 1 (.slice (some ⟨g,0,none⟩) m cap) m (xs.take m):=by
 rcases h.2 with ⟨h1,_⟩|⟨g',cap',cur,h1,hb,hg,hnc,hcm,hcs,htk⟩
 ·cases h1
 injection h1 with h1 _ h3
 injection h1 with h1
 injection h1 with h1
 subst h1
 subst h3
 refine⟨by rw[Z9,h.1];omega,.inr ⟨g,cap,cur,rfl,hb,hg,oq,hcm,hcs,?_⟩⟩
 rw[←htk,List.take_take,show min m (n*1)=m*1 by omega]
structure AD where
 src:Int
 ops:List (Int × Int × Int)
structure TD where
 node:Int
 per:Int
 ph:Int
 args:List AD
structure LD where
 per:Int
 ph:Int
 arg:AD
 dl:Int
structure NB where
 bud:Int
 nps:Nat
structure FD where
 ins:List (Int × Int)
 nods:List NB
 tasks:List TD
 tells:List LD
def eu (w:World) (b o:Nat) (c:Int × Int):Prop:=w.cell? ⟨b,o,none⟩=some (.int .i64 c.1)∧w.cell? ⟨b,o+1,none⟩=some (.int .i64 c.2)
def OpR (w:World) (b o:Nat) (x:Int × Int × Int):Prop:=w.cell? ⟨b,o,none⟩=some (.int .i64 x.1)∧w.cell? ⟨b,o+1,none⟩=some (.int .i64 x.2.1)∧w.cell? ⟨b,o+2,none⟩=some (.int .i64 x.2.2)
def xw (w:World) (b o:Nat) (a:AD):Prop:=w.cell? ⟨b,o,none⟩=some (.int .i64 a.src)∧∃ad cap,w.cell? ⟨b,o+1,none⟩=some (.slice ad a.ops.length cap)∧Row OpR 3 w a.ops ad
def uO (w:World) (b o:Nat) (t:TD):Prop:=w.cell? ⟨b,o,none⟩=some (.int .i64 t.node)∧w.cell? ⟨b,o+1,none⟩=some (.int .i64 t.per)∧w.cell? ⟨b,o+2,none⟩=some (.int .i64 t.ph)∧∃ad cap,w.cell? ⟨b,o+3,none⟩=some (.slice ad t.args.length cap)∧Row xw 2 w t.args ad
def eD (w:World) (b o:Nat) (t:LD):Prop:=w.cell? ⟨b,o,none⟩=some (.int .i64 t.per)∧w.cell? ⟨b,o+1,none⟩=some (.int .i64 t.ph)∧w.cell? ⟨b,o+2,none⟩=some (.int .i64 t.arg.src)∧w.cell? ⟨b,o+4,none⟩=some (.int .i64 t.dl)∧∃ad cap,w.cell? ⟨b,o+3,none⟩=some (.slice ad t.arg.ops.length cap)∧Row OpR 3 w t.arg.ops ad
def NdR (w:World) (b o:Nat) (n:NB):Prop:=∃(nm:ByteArray) (pa:Option Addr) (pc:Nat) (k:Int) (nm2:ByteArray) (n2 d2:Int) (ea:Option Addr) (el ec:Nat) (a2 a:Int),
 w.cell? ⟨b,o,none⟩=some (.string nm)∧w.cell? ⟨b,o+1,none⟩=some (.slice pa n.nps pc)∧w.cell? ⟨b,o+2,none⟩=some (.int .i64 n.bud)∧w.cell? ⟨b,o+3,none⟩=some (.int .i64 k)∧w.cell? ⟨b,o+4,none⟩=some (.string nm2)∧w.cell? ⟨b,o+5,none⟩=some (.int .i64 n2) ∧
 w.cell? ⟨b,o+6,none⟩=some (.int .i64 d2)∧w.cell? ⟨b,o+7,none⟩=some (.slice ea el ec)∧w.cell? ⟨b,o+8,none⟩=some (.int .i64 a2)∧w.cell? ⟨b,o+9,none⟩=some (.int .i64 a)
theorem Zbl:Sta eu:=fun w w' b o x hb hlt h=>⟨(hb.cell (p:=⟨b,_,none⟩) hlt).trans h.1,(hb.cell (p:=⟨b,_,none⟩) hlt).trans h.2⟩
theorem Ed:Sta OpR:=fun w w' b o x hb hlt h=>⟨(hb.cell (p:=⟨b,_,none⟩) hlt).trans h.1,(hb.cell (p:=⟨b,_,none⟩) hlt).trans h.2.1,(hb.cell (p:=⟨b,_,none⟩) hlt).trans h.2.2⟩
theorem EB:Sta xw:=fun w w' b o x hb hlt h=>by
 obtain⟨h0,ad,cap,h1,h2⟩:=h
 exact⟨(hb.cell (p:=⟨b,_,none⟩) hlt).trans h0,ad,cap,(hb.cell (p:=⟨b,_,none⟩) hlt).trans h1,h2.below Ed hb⟩
theorem gY:Sta uO:=fun w w' b o x hb hlt h=>by
 obtain⟨h0,h1,h2,ad,cap,h3,h4⟩:=h
 exact⟨(hb.cell (p:=⟨b,_,none⟩) hlt).trans h0,(hb.cell (p:=⟨b,_,none⟩) hlt).trans h1,(hb.cell (p:=⟨b,_,none⟩) hlt).trans h2,ad,cap,(hb.cell (p:=⟨b,_,none⟩) hlt).trans h3,h4.below EB hb⟩
theorem ZbV:Sta eD:=fun w w' b o x hb hlt h=>by
 obtain⟨h0,h1,h2,h3,ad,cap,h4,h5⟩:=h
 exact⟨(hb.cell (p:=⟨b,_,none⟩) hlt).trans h0,(hb.cell (p:=⟨b,_,none⟩) hlt).trans h1,(hb.cell (p:=⟨b,_,none⟩) hlt).trans h2,(hb.cell (p:=⟨b,_,none⟩) hlt).trans h3,ad,cap,(hb.cell (p:=⟨b,_,none⟩) hlt).trans h4,h5.below Ed hb⟩
theorem ZcF:Sta NdR:=fun w w' b o x hb hlt h=>by
 obtain⟨nm,pa,pc,k,nm2,n2,d2,ea,el,ec,a2,a,h0,h1,h2,h3,h4,h5,h6,h7,h8,h9⟩:=h
 have hc:=fun o=>hb.cell (p:=⟨b,o,none⟩) hlt
 exact⟨nm,pa,pc,k,nm2,n2,d2,ea,el,ec,a2,a,(hc _).trans h0,(hc _).trans h1,(hc _).trans h2,(hc _).trans h3,(hc _).trans h4,(hc _).trans h5,(hc _).trans h6,(hc _).trans h7,(hc _).trans h8,(hc _).trans h9⟩
structure FAP (w:World) (f:FD) (ai an aT al:Option Addr):Prop where
 ins:Row eu 2 w f.ins ai
 nods:Row NdR 10 w f.nods an
 tasks:Row uO 4 w f.tasks aT
 tells:Row eD 5 w f.tells al
 lens:f.ins.length≤1000∧f.nods.length≤1000∧f.tasks.length≤1000∧f.tells.length≤1000
 args:∀t∈f.tasks,t.args.length≤1000∧∀a∈t.args,a.ops.length≤1000∧I64 a.src
 tops:∀t∈f.tells,t.arg.ops.length≤1000∧I64 t.arg.src
theorem FAP.below {w w':World} {f:FD} {ai an aT al:Option Addr} (h:FAP w f ai an aT al) (hb:Below w.heap.size w w'):FAP w' f ai an aT al :=
 ⟨h.ins.below Zbl hb,h.nods.below ZcF hb,h.tasks.below gY hb,h.tells.below ZbV hb,h.lens,h.args,h.tops⟩
def fv (f:FD) (ai an aT al:Option Addr) (ci cn ct cl:Nat):Value:=.agg #[.slice ai f.ins.length ci,.slice an f.nods.length cn,.slice aT f.tasks.length ct,.slice al f.tells.length cl]
def Q2 (f:FD) (i:Int):Option (Int × Int):=if i<0 then none else if i<(f.ins.length:Int) then f.ins[i.toNat]? else (f.tasks[(i-(f.ins.length:Int)).toNat]?).map (fun t=>(t.per,t.ph))
def UC (o:Option (Int × Int)):Value:=.tuple #[.agg #[.int .i64 (o.getD (0,0)).1,.int .i64 (o.getD (0,0)).2],.bool o.isSome]
theorem zj {f:FD} {i:Int} (h:i<0):Q2 f i=none:=Z0 h
theorem ZbS {f:FD} {k:Nat} (h:k<f.ins.length):Q2 f (k:Int)=some f.ins[k]:=by
 unfold Q2
 rw[ZZ oq,Z0 oq,ZP,Ze h]
theorem gO {f:FD} {k:Nat} (h:k<f.tasks.length):Q2 f ((f.ins.length:Int)+(k:Int))=some (f.tasks[k].per,f.tasks[k].ph):=by
 unfold Q2
 rw[ZZ oq,ZZ oq,show((f.ins.length:Int)+(k:Int)-(f.ins.length:Int)).toNat=k by omega,Ze h]
 rfl
theorem jL {f:FD} {i:Int} (h0:¬i<0) (h1:¬i<(f.ins.length:Int)) (h2:¬i-(f.ins.length:Int)<(f.tasks.length:Int)):Q2 f i=none:=by
 unfold Q2
 rw[ZZ h0,ZZ h1,Ya oq]
 rfl
theorem Gs {w:World} (f:FD) (ai an aT al:Option Addr) (ci cn ct cl:Nat) (hf:FAP w f ai an aT al) (i:Int) (hi64:I64 i) :
  Calls Tryz.prog 124 #[fv f ai an aT al ci cn ct cl,.int .i64 i] w fun x w'=>x=.returned (UC (Q2 f i))∧Below w.heap.size w w':=by
 have hlens:=hf.lens
 have HF:=hid hf
 unfold I64 at hi64
 clear hf
 unfold fv
 obtain⟨ans,hans⟩:∃ans,Q2 f i=ans:=⟨_,rfl⟩
 rw[hans]
 go_enter Tryz.func124,Tryz.ntmps124
 go_upto_region 1 with fail
 obtain⟨W2,hW2⟩:∃W2,(w.alloc (.cells #[.slice ai f.ins.length ci,.slice an f.nods.length cn,.slice aT f.tasks.length ct,.slice al f.tells.length cl] 35)).alloc (.cells #[.int .i64 0,.int .i64 0] 50)=W2:=⟨_,rfl⟩
 rw[hW2]
 have hB:Below w.heap.size w W2:=by rw[←hW2];exact bq
 have hq0:W2.heap[w.heap.size]?=some (.cells #[.slice ai f.ins.length ci,.slice an f.nods.length cn,.slice aT f.tasks.length ct,.slice al f.tells.length cl] 35 (0,0)):=by rw[←hW2];exact(Za _ _ _ (by simp)).trans (Yt w _)
 have hq1:W2.heap[w.heap.size+1]?=some (.cells #[.int .i64 0,.int .i64 0] 50 (0,0)):=by rw[←hW2];simpa using Yt (w.alloc (.cells #[.slice ai f.ins.length ci,.slice an f.nods.length cn,.slice aT f.tasks.length ct,.slice al f.tells.length cl] 35)) (.cells #[.int .i64 0,.int .i64 0] 50)
 obtain⟨⟨x0,x1,x2,x3⟩,xf⟩:=Yu hq0
 obtain⟨⟨q0,q1⟩,qf⟩:=YG hq1
 have HB:=hid hB
 clear hW2 hB hq0 hq1
 by_cases h0:i<0
 ·obtain rfl:ans=none:=hans.symm.trans (zj h0)
  clear hans
  have h0d:¬i≥0:=oq
  go_wp2
  exact Zl (v:=UC none) (by unfold UC;simp only[results,Tryz.results124];go_simp) rfl ⟨rfl,bq⟩
 have h0d:i≥0:=oq
 by_cases h1:i<(f.ins.length:Int)
 ·obtain⟨k,rfl⟩:∃k:Nat,i=(k:Int):=⟨i.toNat,oq⟩
  have hk:k<f.ins.length:=oq
  obtain⟨b,o,rfl,hb,hc0,hc1⟩:=HF.out.ins.at hk
  obtain⟨⟨pp,ff⟩,hpf⟩:∃c,f.ins[k]=c:=⟨_,rfl⟩
  obtain rfl:ans=some (pp,ff):=hans.symm.trans ((ZbS hk).trans (Z1 some hpf))
  rw[hpf] at hc0 hc1
  simp only at hc0 hc1
  have y0:=(HB.out.cell (p:=⟨b,o+k*2,none⟩) hb).trans hc0
  have y1:=(HB.out.cell (p:=⟨b,o+k*2+1,none⟩) hb).trans hc1
  have hk0:(0:Int)≤(k:Int):=oq
  clear hc0 hc1 hpf hans
  go_wp2
  exact Zl (v:=UC (some (pp,ff))) (by unfold UC;simp only[Z7,Option.isSome_some];simp only[results,Tryz.results124];go_simp) rfl ⟨rfl,bq⟩
 have h1d:i≥(f.ins.length:Int):=oq
 by_cases h2:i-(f.ins.length:Int)<(f.tasks.length:Int)
 ·obtain⟨k,rfl⟩:∃k:Nat,i=(f.ins.length:Int)+(k:Int):=⟨(i-(f.ins.length:Int)).toNat,oq⟩
  have hk:k<f.tasks.length:=oq
  obtain⟨b,o,rfl,hb,_,hc0,hc1,_⟩:=HF.out.tasks.at hk
  obtain⟨pp,hpp⟩:∃c,f.tasks[k].per=c:=⟨_,rfl⟩
  obtain⟨ff,hff⟩:∃c,f.tasks[k].ph=c:=⟨_,rfl⟩
  obtain rfl:ans=some (pp,ff):=hans.symm.trans ((gO hk).trans (by rw[hpp,hff]))
  rw[hpp] at hc0
  rw[hff] at hc1
  have y0:=(HB.out.cell (p:=⟨b,o+k*4+1,none⟩) hb).trans hc0
  have y1:=(HB.out.cell (p:=⟨b,o+k*4+2,none⟩) hb).trans hc1
  have hk0:(0:Int)≤(k:Int):=oq
  have hk1:(k:Int)<(f.tasks.length:Int):=oq
  have hw1:IntKind.i64.wrap ((f.ins.length:Int)+(k:Int)-(f.ins.length:Int))=(k:Int):=by rw[show(f.ins.length:Int)+(k:Int)-(f.ins.length:Int)=(k:Int) by omega];exact ZJ _ oq
  have hw2:IntKind.i64.wrap ((f.ins.length:Int)+(f.tasks.length:Int))=(f.ins.length:Int)+(f.tasks.length:Int):=ZJ _ oq
  have hw3:(f.ins.length:Int)+(k:Int)<(f.ins.length:Int)+(f.tasks.length:Int):=oq
  clear hc0 hc1 hpp hff hans
  go_wp2
  exact Zl (v:=UC (some (pp,ff))) (by unfold UC;simp only[Z7,Option.isSome_some];simp only[results,Tryz.results124];go_simp) rfl ⟨rfl,bq⟩
 obtain rfl:ans=none:=hans.symm.trans (jL h0 h1 h2)
 clear hans
 have hw1:IntKind.i64.wrap (i-(f.ins.length:Int))=i-(f.ins.length:Int):=ZJ _ oq
 have hw2:IntKind.i64.wrap ((f.ins.length:Int)+(f.tasks.length:Int))=(f.ins.length:Int)+(f.tasks.length:Int):=ZJ _ oq
 have hw3:¬i<(f.ins.length:Int)+(f.tasks.length:Int):=oq
 go_wp2
 exact Zl (v:=UC none) (by unfold UC;simp only[results,Tryz.results124];go_simp) rfl ⟨rfl,bq⟩
def swp (l:List Int) (i j:Nat):List Int:=(l.set i (l.getD j 0)).set j (l.getD i 0)
theorem Xk (l:List Int) (i j:Nat):(swp l i j).length=l.length:=by simp[swp]
theorem Jj {l:List Int} {i:Nat} (h:i<l.length):l.getD i 0∈l:=by rw[Zf,Ze h];exact Zi h
theorem Qs {α:Type} {l:List α} {i:Nat} {a x:α} (h:x∈l.set i a):x∈l∨x=a:=by
 rcases List.mem_or_eq_of_mem_set h with h|h
 ·exact .inl h
 exact .inr h
theorem zk {Q:Int→Prop} {l:List Int} {i j:Nat} (hi:i<l.length) (hj:j<l.length) (h:∀x∈l,Q x):∀x∈swp l i j,Q x:=by
 intro x hx
 unfold swp at hx
 rcases Qs hx with hx|hx
 ·rcases Qs hx with hx|hx
  ·exact h x hx
  rw[hx];exact h _ (Jj hj)
 rw[hx];exact h _ (Jj hi)
def upP:Nat→List Int→Nat→List Int
 | 0,l,_=>l
 | n+1,l,j=>if (j-1)/2=j then l else if l.getD j 0<l.getD ((j-1)/2) 0 then upP n (swp l ((j-1)/2) j) ((j-1)/2) else l
theorem ZaN:∀(n:Nat) (l:List Int) (j:Nat),(upP n l j).length=l.length:=by
 intro n
 induction n with
 | zero=>intro l j;rfl
 | succ n ih =>
  intro l j
  rw[upP]
  split
  ·rfl
  split
  ·rw[ih,Xk]
  rfl
theorem ZaM {Q:Int→Prop}:∀(n:Nat) (l:List Int) (j:Nat),j<l.length→(∀x∈l,Q x)→∀x∈upP n l j,Q x:=by
 intro n
 induction n with
 | zero=>intro l j _ h;exact h
 | succ n ih =>
  intro l j hj h
  rw[upP]
  split
  ·exact h
  split
  ·refine ih _ _ (by rw[Xk];omega) (zk oq hj h)
  exact h
def E5 (l:List Int) (i n:Nat):Nat:=if 2*i+2<n∧l.getD (2*i+2) 0<l.getD (2*i+1) 0 then 2*i+2 else 2*i+1
def Ql:Nat→List Int→Nat→Nat→List Int
 | 0,l,_,_=>l
 | k+1,l,i,n=>if n≤2*i+1 then l else if l.getD (E5 l i n) 0<l.getD i 0 then Ql k (swp l i (E5 l i n)) (E5 l i n) n else l
theorem qu {l:List Int} {i n:Nat} (h:¬n≤2*i+1):E5 l i n<n∧i<E5 l i n:=by
 unfold E5
 split<;>omega
theorem vd:∀(k:Nat) (l:List Int) (i n:Nat),(Ql k l i n).length=l.length:=by
 intro k
 induction k with
 | zero=>intro l i n;rfl
 | succ k ih =>
  intro l i n
  rw[Ql]
  split
  ·rfl
  split
  ·rw[ih,Xk]
  rfl
theorem vc {Q:Int→Prop}:∀(k:Nat) (l:List Int) (i n:Nat),n≤l.length→(∀x∈l,Q x)→∀x∈Ql k l i n,Q x:=by
 intro k
 induction k with
 | zero=>intro l i n _ h;exact h
 | succ k ih =>
  intro l i n hn h
  rw[Ql]
  split
  ·exact h
  rename_i h1
  have h2:=qu (l:=l) h1
  split
  ·exact ih _ _ _ (by rw[Xk];exact hn) (zk oq oq h)
  exact h
def QI (l:List Int) (x:Int):List Int:=upP (l.length+1) (l++[x]) l.length
def XP (l:List Int):List Int:=Ql l.length (swp l 0 (l.length-1)) 0 (l.length-1)
def Qe (l:List Int):Int × List Int:=((XP l).getD (l.length-1) 0,(XP l).take (l.length-1))
theorem Ef (l:List Int) (x:Int):(QI l x).length=l.length+1:=by unfold QI;rw[ZaN];simp
theorem QQ (l:List Int):(XP l).length=l.length:=by unfold XP;rw[vd,Xk]
theorem yN (l:List Int):(Qe l).2.length=l.length-1:=by unfold Qe;rw[Z9,QQ];omega
theorem J9 {Q:Int→Prop} {l:List Int} {x:Int} (h:∀y∈l,Q y) (hx:Q x):∀y∈QI l x,Q y:=by
 unfold QI
 refine ZaM _ _ _ (by simp) ?_
 intro y hy
 rcases List.mem_append.1 hy with hy|hy
 ·exact h y hy
 rw[List.mem_singleton.1 hy];exact hx
theorem ug {Q:Int→Prop} {l:List Int} (hl:l≠[]) (h:∀y∈l,Q y):∀y∈XP l,Q y:=by
 have h0:0<l.length:=by cases l with
  | nil=>exact absurd rfl hl
  | cons _ _=>simp
 unfold XP
 exact vc _ _ _ _ (by rw[Xk];omega) (zk h0 oq h)
theorem Gf {Q:Int→Prop} {l:List Int} (hl:l≠[]) (h:∀y∈l,Q y):Q (Qe l).1∧∀y∈(Qe l).2,Q y:=by
 have h0:0<l.length:=by cases l with
  | nil=>exact absurd rfl hl
  | cons _ _=>simp
 have h1:=ug hl h
 exact⟨h1 _ (Jj (by rw[QQ];omega)),fun y hy=>h1 y (List.mem_of_mem_take hy)⟩
def xY (o:Int × Int × Int):Bool:=decide (o.1=6∨(o.1=5∧¬o.2.1=0))
def qS (f:FD) (i:Int):Option Int:=if (Q2 f i).isSome=true∧(f.ins.length:Int)≤i then some (i-(f.ins.length:Int)) else none
def QW (f:FD) (a:AD):Option Int:=if a.ops.any xY=true then none else qS f a.src
def GE (f:FD) (t:TD):List Int:=t.args.filterMap (QW f)
def YU (f:FD) (t:TD):List Int:=Lib.compact ((GE f t).mergeSort (fun x y=>decide (x≤y)))
theorem xb {f:FD} {i:Int} (h:(Q2 f i).isSome=true) (h2:(f.ins.length:Int)≤i):i-(f.ins.length:Int)<(f.tasks.length:Int):=by
 by_cases h3:i-(f.ins.length:Int)<(f.tasks.length:Int)
 ·exact h3
 rw[jL oq oq h3] at h
 cases h
theorem ZbZ {f:FD} {i x:Int} (h:qS f i=some x):0≤x∧x<(f.tasks.length:Int):=by
 unfold qS at h
 split at h
 ·rename_i h1
  cases h
  exact⟨oq,xb h1.1 h1.2⟩
 cases h
theorem Zbv {f:FD} {t:TD}:∀x∈GE f t,0≤x∧x<(f.tasks.length:Int):=by
 intro x hx
 obtain⟨a,_,ha⟩:=List.mem_filterMap.1 hx
 unfold QW at ha
 split at ha
 ·cases ha
 exact ZbZ ha
structure WS where
 q:List Int
 many:List Int
 rd:List (List Int)
def addR (t:Nat) (r:List (List Int)) (x:Int):List (List Int):=r.set x.toNat (r.getD x.toNat []++[(t:Int)])
def Qv (f:FD) (s:WS) (t:Nat):WS:=match f.tasks[t]? with
 | none=>s
 | some d=>⟨if YU f d=[] then QI s.q (t:Int) else s.q,s.many.set t ((YU f d).length:Int),(YU f d).foldl (addR t) s.rd⟩
def K4 (f:FD):WS:=(List.range f.tasks.length).foldl (Qv f) ⟨[],List.replicate f.tasks.length 0,List.replicate f.tasks.length []⟩
def Yy (s:WS) (r:Int):WS:=⟨if s.many.getD r.toNat 0-1=0 then QI s.q r else s.q,s.many.set r.toNat (s.many.getD r.toNat 0-1),s.rd⟩
def YH (s:WS):Int × WS:=((Qe s.q).1,(s.rd.getD (Qe s.q).1.toNat []).foldl Yy ⟨(Qe s.q).2,s.many,s.rd⟩)
def YY:Nat→WS→List Int→List Int
 | 0,_,l=>l
 | n+1,s,l=>if s.q=[] then l else YY n (YH s).2 (l++[(YH s).1])
def muW (s:WS):Nat:=s.q.length+s.many.countP (fun x=>decide (0<x))
def ofP (f:FD):Option (List Int):=if (YY (muW (K4 f)) (K4 f) []).length<f.tasks.length then none else some (YY (muW (K4 f)) (K4 f) [])
structure WOk (T:Nat) (s:WS):Prop where
 q:∀x∈s.q,0≤x∧x<(T:Int)
 many:s.many.length=T
 rd:s.rd.length=T
 rds:∀r∈s.rd,∀x∈r,0≤x∧x<(T:Int)
theorem xX {l:List Int} {i:Nat} {x:Int} {p:Int→Bool} (h:i<l.length):(l.set i x).countP p+(if p (l.getD i 0)=true then 1 else 0)=l.countP p+(if p x=true then 1 else 0):=by
 induction l generalizing i with
 | nil=>simp at h
 | cons a l ih =>
  cases i with
  | zero =>
   simp only[List.set_cons_zero,List.countP_cons,List.getD_cons_zero]
   omega
  | succ i =>
   have:=ih (i:=i) (by simpa using h)
   simp only[List.set_cons_succ,List.countP_cons,List.getD_cons_succ]
   omega
theorem Zaz (s:WS) (r:Int):muW (Yy s r)≤muW s:=by
 unfold muW Yy
 simp only
 by_cases hr:r.toNat<s.many.length
 ·have h:=xX (x:=s.many.getD r.toNat 0-1) (p:=fun x=>decide (0<x)) hr
  generalize s.many.getD r.toNat 0=m at h ⊢
  simp only[Yh] at h
  by_cases hm:m-1=0
  ·rw[Z0 hm,Ef]
   rw[Z0 oq,ZZ oq] at h
   omega
  rw[ZZ hm]
  by_cases h1:0<m
  ·rw[Z0 h1,Z0 oq] at h
   omega
  rw[ZZ h1,ZZ oq] at h
  omega
 have h0:s.many.getD r.toNat 0=0:=by rw[Zf,Ya oq];rfl
 rw[h0,ZZ oq,List.set_eq_of_length_le oq]
 exact Zc _
theorem Gh:∀(l:List Int) (s:WS),muW (l.foldl Yy s)≤muW s
 | [],s=>Zc _
 | r::l,s=>Zm (Gh l (Yy s r)) (Zaz s r)
theorem za {s:WS} (h:s.q≠[]):muW (YH s).2+1≤muW s:=by
 have h1:=Gh (s.rd.getD (Qe s.q).1.toNat []) ⟨(Qe s.q).2,s.many,s.rd⟩
 have h2:=yN s.q
 have h3:0<s.q.length:=by cases hq:s.q with
  | nil=>exact absurd hq h
  | cons _ _=>simp
 unfold YH
 simp only
 unfold muW at h1 ⊢
 simp only at h1 ⊢
 omega
theorem yA:∀(n:Nat) (s:WS) (l:List Int),muW s≤n→YY (n+1) s l=YY n s l:=by
 intro n
 induction n with
 | zero =>
  intro s l h
  have:s.q=[]:=by cases hq:s.q with
   | nil=>rfl
   | cons a b=>unfold muW at h;rw[hq] at h;simp at h
  (conv=>lhs;rw[YY,Z0 this]);rfl
 | succ n ih =>
  intro s l h
  conv=>lhs;rw[YY]
  conv=>rhs;rw[YY]
  split
  ·rfl
  rename_i hq
  have:=za hq
  exact ih _ _ oq
theorem yB {s:WS} (l:List Int) (h:s.q≠[]):YY (muW s) s l=YY (muW (YH s).2) (YH s).2 (l++[(YH s).1]):=by
 have h1:=za h
 have key:∀d n,n=muW (YH s).2+d→YY n (YH s).2 (l++[(YH s).1])=YY (muW (YH s).2) (YH s).2 (l++[(YH s).1]):=by
  intro d
  induction d with
  | zero=>intro n hn;rw[hn];rfl
  | succ d ih =>
   intro n hn
   rw[show n=(muW (YH s).2+d)+1 by omega,yA _ _ _ oq]
   exact ih _ rfl
 obtain⟨m,hm⟩:∃m,muW s=m+1:=⟨muW s-1,oq⟩
 rw[hm,YY,ZZ h]
 exact key (m-muW (YH s).2) m oq
theorem qC {s:WS} (n:Nat) (l:List Int) (h:s.q=[]):YY n s l=l:=by
 cases n with
 | zero=>rfl
 | succ n=>rw[YY,Z0 h]
theorem gx {T:Nat} {s:WS} (h:WOk T s) (i:Nat):∀x∈s.rd.getD i [],0≤x∧x<(T:Int):=by
 intro x hx
 by_cases hi:i<s.rd.length
 ·rw[Zf,Ze hi] at hx
  exact h.rds _ (Zi hi) x hx
 rw[Zf,Ya oq] at hx
 cases hx
theorem WOk.read {T:Nat} {s:WS} (h:WOk T s) {r:Int} (hr:0≤r∧r<(T:Int)):WOk T (Yy s r):=by
 refine⟨?_,by simp[Yy,h.many],h.rd,h.rds⟩
 unfold Yy
 simp only
 split
 ·exact J9 h.q hr
 exact h.q
theorem WOk.reads {T:Nat}:∀(l:List Int) (s:WS),WOk T s→(∀x∈l,0≤x∧x<(T:Int))→WOk T (l.foldl Yy s)
 | [],s,h,_=>h
 | r::l,s,h,hl=>WOk.reads l _ (h.read (hl r (by simp))) (fun x hx=>hl x (by simp[hx]))
theorem WOk.next {T:Nat} {s:WS} (h:WOk T s) (hq:s.q≠[]):(0≤(YH s).1∧(YH s).1<(T:Int))∧WOk T (YH s).2:=by
 have h1:=Gf hq h.q
 exact⟨h1.1,WOk.reads _ _ ⟨h1.2,h.many,h.rd,h.rds⟩ (gx h _)⟩
theorem zM {d:Array Int} {m:Nat} (hm:m≤d.size):∀x∈Lib.compactUpTo d m,x∈d.toList:=by
 intro x hx
 unfold Lib.compactUpTo at hx
 obtain⟨j,hj,rfl⟩:=Yc.1 hx
 have hj2:=List.mem_range.1 (List.mem_filter.1 hj).1
 have hj3:j<d.size:=oq
 simp only[getElem!_pos d j hj3]
 simp
theorem zU {f:FD} {t:TD}:∀x∈YU f t,0≤x∧x<(f.tasks.length:Int):=by
 intro x hx
 have h1:=zM (Nat.le_of_eq (by simp)) x hx
 exact Zbv x (List.mem_mergeSort.1 h1)
theorem JN (q:List Int):(Lib.compact q).length≤q.length:=by
 unfold Lib.compact Lib.compactUpTo
 rw[Zo]
 exact Zm (List.length_filter_le _ _) (by simp)
theorem WOk.addR {T:Nat} {t:Nat} (ht:t<T) {r:List (List Int)} {x:Int} (hl:r.length=T) (h:∀s∈r,∀y∈s,0≤y∧y<(T:Int)):(addR t r x).length=T∧∀s∈addR t r x,∀y∈s,0≤y∧y<(T:Int):=by
 refine⟨by simp[syn.addR,hl],?_⟩
 intro s hs y hy
 unfold syn.addR at hs
 rcases Qs hs with hs|rfl
 ·exact h s hs y hy
 rcases List.mem_append.1 hy with hy|hy
 ·by_cases hi:x.toNat<r.length
  ·rw[Zf,Ze hi] at hy
   exact h _ (Zi hi) y hy
  rw[Zf,Ya oq] at hy
  cases hy
 rw[List.mem_singleton.1 hy]
 omega
theorem WOk.addRs {T:Nat} {t:Nat} (ht:t<T):∀(l:List Int) (r:List (List Int)),r.length=T→(∀s∈r,∀y∈s,0≤y∧y<(T:Int))→(l.foldl (syn.addR t) r).length=T∧∀s∈l.foldl (syn.addR t) r,∀y∈s,0≤y∧y<(T:Int)
 | [],r,h1,h2=>⟨h1,h2⟩
 | x::l,r,h1,h2=>by
  obtain⟨h3,h4⟩:=WOk.addR (x:=x) ht h1 h2
  exact WOk.addRs ht l _ h3 h4
theorem WOk.newS {f:FD} {s:WS} {t:Nat} (ht:t<f.tasks.length) (h:WOk f.tasks.length s):WOk f.tasks.length (Qv f s t):=by
 unfold Qv
 rw[Ze ht]
 simp only
 obtain⟨h1,h2⟩:=WOk.addRs ht (YU f f.tasks[t]) s.rd h.rd h.rds
 refine⟨?_,by simp[h.many],h1,h2⟩
 simp only
 split
 ·exact J9 h.q oq
 exact h.q
def Y2 (f:FD) (n:Nat):WS:=(List.range n).foldl (Qv f) ⟨[],List.replicate f.tasks.length 0,List.replicate f.tasks.length []⟩
theorem QP (f:FD) (n:Nat):Y2 f (n+1)=Qv f (Y2 f n) n:=by
 unfold Y2
 rw[List.range_succ,List.foldl_append]
 rfl
theorem J7 (f:FD):∀n,n≤f.tasks.length→WOk f.tasks.length (Y2 f n)
 | 0,_=>⟨by simp[Y2],by simp[Y2],by simp[Y2],by
   intro r hr x hx
   have:=List.eq_of_mem_replicate (show r∈List.replicate f.tasks.length [] from hr)
   subst this
   cases hx⟩
 | n+1,h=>by
  rw[QP]
  exact WOk.newS oq (J7 f n oq)
theorem QY {f:FD} {s:WS} {t:Nat} {d:TD} (h:f.tasks[t]?=some d):Qv f s t=⟨if YU f d=[] then QI s.q (t:Int) else s.q,s.many.set t ((YU f d).length:Int),(YU f d).foldl (addR t) s.rd⟩:=by
 unfold Qv
 rw[h]
theorem J8 (f:FD):∀n,(Y2 f n).q.length≤n
 | 0=>by simp[Y2]
 | n+1=>by
  have ih:=J8 f n
  rw[QP]
  cases h:f.tasks[n]? with
  | none=>unfold Qv;rw[h];simp only;omega
  | some d =>
   rw[QY h]
   simp only
   split
   ·rw[Ef];omega
   omega
def RB (c:Nat) (rd:List (List Int)):Prop:=∀r∈rd,r.length≤c
theorem RB.getD {c:Nat} {rd:List (List Int)} (h:RB c rd) (i:Nat):(rd.getD i []).length≤c:=by
 by_cases hi:i<rd.length
 ·rw[Zf,Ze hi]
  exact h _ (Zi hi)
 rw[Zf,Ya oq]
 simp
theorem RB.mono {c d:Nat} {rd:List (List Int)} (h:RB c rd) (hd:c≤d):RB d rd:=fun r hr=>Zm (h r hr) hd
theorem RB.add {c t:Nat} {rd:List (List Int)} (h:RB c rd) (x:Int):RB (c+1) (addR t rd x):=by
 intro r hr
 unfold addR at hr
 rcases Qs hr with hr|rfl
 ·exact Nat.le_succ_of_le (h r hr)
 rw[Zw]
 have:=h.getD x.toNat
 simp only[Zp,Zv]
 omega
theorem RB.adds {t:Nat}:∀(l:List Int) (c:Nat) (rd:List (List Int)),RB c rd→RB (c+l.length) (l.foldl (addR t) rd)
 | [],c,rd,h=>h
 | x::l,c,rd,h=>by
  have:=RB.adds (t:=t) l (c+1) _ (h.add (t:=t) x)
  rw[show c+(x::l).length=c+1+l.length by simp;omega]
  exact this
theorem E9 (f:FD) (hh:∀(n:Nat) (d:TD),f.tasks[n]?=some d→(YU f d).length≤1000):∀n,RB (n*1000) (Y2 f n).rd
 | 0=>by
  intro r hr
  have:=List.eq_of_mem_replicate (show r∈List.replicate f.tasks.length [] from hr)
  subst this
  simp
 | n+1=>by
  have ih:=E9 f hh n
  rw[QP]
  cases h:f.tasks[n]? with
  | none=>unfold Qv;rw[h];exact ih.mono oq
  | some d =>
   rw[QY h]
   exact(RB.adds (YU f d) _ _ ih).mono (by have:=hh n d h;omega)
def MB (c:Nat) (l:List Int):Prop:=∀x∈l,-(c:Int)≤x∧x≤100000
theorem MB.getD {c:Nat} {l:List Int} (h:MB c l) (i:Nat):-(c:Int)≤l.getD i 0∧l.getD i 0≤100000:=by
 by_cases hi:i<l.length
 ·rw[Zf,Ze hi]
  exact h _ (Zi hi)
 rw[Zf,Ya oq]
 simp
theorem MB.mono {c d:Nat} {l:List Int} (h:MB c l) (hd:c≤d):MB d l:=fun x hx=>⟨by have:=(h x hx).1;omega,(h x hx).2⟩
theorem MB.read {c:Nat} {s:WS} (h:MB c s.many) (r:Int):MB (c+1) (Yy s r).many:=by
 intro x hx
 unfold Yy at hx
 rcases Qs hx with hx|rfl
 ·have:=h x hx;omega
 have:=h.getD r.toNat;omega
theorem MB.reads:∀(l:List Int) (c:Nat) (s:WS),MB c s.many→MB (c+l.length) (l.foldl Yy s).many
 | [],c,s,h=>h
 | r::l,c,s,h=>by
  have:=MB.reads l (c+1) _ (h.read r)
  rw[show c+(r::l).length=c+1+l.length by simp;omega]
  exact this
theorem jA (f:FD) (hh:∀(n:Nat) (d:TD),f.tasks[n]?=some d→(YU f d).length≤1000):∀n,MB 0 (Y2 f n).many
 | 0=>by
  intro x hx
  have:=List.eq_of_mem_replicate (show x∈List.replicate f.tasks.length (0:Int) from hx)
  subst this
  omega
 | n+1=>by
  have ih:=jA f hh n
  rw[QP]
  cases h:f.tasks[n]? with
  | none=>unfold Qv;rw[h];exact ih
  | some d =>
   rw[QY h]
   intro x hx
   rcases Qs hx with hx|rfl
   ·exact ih x hx
   have:=hh n d h;omega
theorem Gi:∀(l:List Int) (s:WS),(l.foldl Yy s).rd=s.rd
 | [],s=>rfl
 | r::l,s=>(Gi l (Yy s r)).trans rfl
theorem Zag (s:WS):(YH s).2.rd=s.rd:=by unfold YH;simp only;rw[Gi]
theorem MB.next {c d:Nat} {s:WS} (h:MB c s.many) (hr:RB d s.rd):MB (c+d) (YH s).2.many:=by
 unfold YH
 simp only
 exact(MB.reads _ _ ⟨(Qe s.q).2,s.many,s.rd⟩ h).mono (by have:=hr.getD (Qe s.q).1.toNat;omega)
theorem ZcE (s:WS):s.q.length≤muW s:=by unfold muW;omega
theorem Gv {l:List Int} {i j:Nat} (hi:i<l.length) (hj:j<l.length):(swp l i j).Perm l:=by
 have h:((l.set i l[j]).set j l[i]).Perm l:=List.set_set_perm hi hj
 unfold swp
 rw[Zf,Zf,Ze hi,Ze hj]
 exact h
theorem eh:∀(n:Nat) (l:List Int) (j:Nat),j<l.length→(upP n l j).Perm l:=by
 intro n
 induction n with
 | zero=>intro l j _;exact List.Perm.refl _
 | succ n ih =>
  intro l j hj
  rw[upP]
  split
  ·exact List.Perm.refl _
  split
  ·exact(ih _ _ (by rw[Xk];omega)).trans (Gv oq hj)
  exact List.Perm.refl _
theorem qa:∀(k:Nat) (l:List Int) (i n:Nat),n≤l.length→(Ql k l i n).Perm l:=by
 intro k
 induction k with
 | zero=>intro l i n _;exact List.Perm.refl _
 | succ k ih =>
  intro l i n hn
  rw[Ql]
  split
  ·exact List.Perm.refl _
  rename_i h1
  have h2:=qu (l:=l) h1
  split
  ·exact(ih _ _ _ (by rw[Xk];exact hn)).trans (Gv oq oq)
  exact List.Perm.refl _
theorem Jz (l:List Int) (x:Int):(QI l x).Perm (x::l):=by
 unfold QI
 exact(eh _ _ _ (by simp)).trans (List.perm_append_singleton _ _)
theorem vW {l:List Int} (hl:l≠[]):((Qe l).1::(Qe l).2).Perm l:=by
 have h0:0<l.length:=by cases l with
  | nil=>exact absurd rfl hl
  | cons _ _=>simp
 have h1:(XP l).Perm l:=by
  unfold XP
  exact(qa _ _ _ _ (by rw[Xk];omega)).trans (Gv h0 oq)
 refine List.Perm.trans ?_ h1
 have hs:=QQ l
 have hi:l.length-1<(XP l).length:=oq
 have e:XP l=(Qe l).2++[(Qe l).1]:=by
  unfold Qe
  simp only
  rw[Zf,Ze hi]
  have:=Zu hi
  rw[show l.length-1+1=(XP l).length by omega,ZR] at this
  exact this
 rw[e]
 exact(List.perm_append_singleton _ _).symm
def Y5 (f:FD) (t:Nat):List Int:=match f.tasks[t]? with
 | none=>[]
 | some d=>YU f d
theorem vA {f:FD} {t:Nat} {d:TD} (h:f.tasks[t]?=some d):Y5 f t=YU f d:=by unfold Y5;rw[h]
theorem KJ {α:Type} (l:List α) (i j:Nat) (a z:α) (hi:i<l.length):(l.set i a).getD j z=if i=j then a else l.getD j z:=by
 rw[Zf,Zf]
 by_cases h:i=j
 ·subst h;rw[Z0 rfl,List.getElem?_set_self hi];rfl
 rw[ZZ h,List.getElem?_set_ne h]
theorem yT {T:Nat}:∀(R:List Int) (s:WS),WOk T s→(∀x∈R,0≤x∧x<(T:Int))→(∀t:Nat,t<T→((R.count (t:Int):Nat):Int)≤s.many.getD t 0) →
  (R.foldl Yy s).rd=s.rd∧(∀t:Nat,t<T→(R.foldl Yy s).many.getD t 0=s.many.getD t 0-((R.count (t:Int):Nat):Int)) ∧
  (∀t:Nat,t<T→(R.foldl Yy s).q.count (t:Int)=s.q.count (t:Int)+(if 0<R.count (t:Int)∧s.many.getD t 0=((R.count (t:Int):Nat):Int) then 1 else 0))
 | [],s,_,_,_=>⟨rfl,fun t _=>by simp,fun t _=>by simp⟩
 | r::R,s,hs,hR,hc=>by
  have hr:=hR r (by simp)
  obtain⟨k,rfl⟩:∃k:Nat,r=(k:Int):=⟨r.toNat,oq⟩
  have hk:k<T:=oq
  have hm:=hs.many
  have hck:=hc k hk
  simp only[List.count_cons_self] at hck
  have hmany:∀t:Nat,t<T→(Yy s (k:Int)).many.getD t 0=if k=t then s.many.getD k 0-1 else s.many.getD t 0:=fun t ht=>by
   unfold Yy
   simp only[ZP]
   exact KJ _ _ _ _ _ oq
  have hcnt:∀t:Nat,((k:Int)::R).count (t:Int)=R.count (t:Int)+(if k=t then 1 else 0):=fun t=>by
   rw[List.count_cons]
   by_cases h:k=t
   ·subst h;simp
   rw[ZZ h,ZZ]
   intro h2
   have:=eq_of_beq h2
   omega
  obtain⟨h1,h2,h3⟩:=yT R (Yy s (k:Int)) (hs.read hr) (fun x hx=>hR x (by simp[hx])) (fun t ht=>by
   have:=hc t ht
   rw[hcnt t] at this
   rw[hmany t ht]
   by_cases h:k=t
   ·subst h;rw[Z0 rfl] at this ⊢;omega
   rw[ZZ h] at this ⊢;exact this)
  refine⟨h1,fun t ht=>?_,fun t ht=>?_⟩
  ·show(R.foldl Yy (Yy s (k:Int))).many.getD t 0=_
   rw[h2 t ht,hmany t ht,hcnt t]
   by_cases h:k=t
   ·subst h;rw[Z0 rfl,Z0 rfl];omega
   rw[ZZ h,ZZ h];omega
  show(R.foldl Yy (Yy s (k:Int))).q.count (t:Int)=_
  rw[h3 t ht,hmany t ht,hcnt t]
  have hq:(Yy s (k:Int)).q=if s.many.getD k 0-1=0 then QI s.q (k:Int) else s.q:=rfl
  rw[hq]
  by_cases h:k=t
  ·subst h
   simp only[Z0]
   by_cases h0:s.many.getD k 0-1=0
   ·rw[Z0 h0,(Jz _ _).count_eq,List.count_cons_self,ZZ oq,Z0 oq]
   rw[ZZ h0]
   by_cases h4:0<R.count (k:Int)∧s.many.getD k 0-1=((R.count (k:Int):Nat):Int)
   ·rw[Z0 h4,Z0 oq]
   rw[ZZ h4,ZZ oq]
  simp only[ZZ h,Nat.add_zero]
  have hne:¬((k:Int) == (t:Int))=true:=fun h2=>by have:=eq_of_beq h2;omega
  by_cases h0:s.many.getD k 0-1=0
  ·rw[Z0 h0,(Jz _ _).count_eq,List.count_cons,ZZ hne];rfl
  rw[ZZ h0]
structure jQ (f:FD) (s:WS) (l:List Int):Prop where
 ok:WOk f.tasks.length s
 rd:∀x t:Nat,x<f.tasks.length→t<f.tasks.length→(s.rd.getD x []).count (t:Int)=(Y5 f t).count (x:Int)
 many:∀t:Nat,t<f.tasks.length→s.many.getD t 0=(((Y5 f t).countP (fun y=>decide (y∉l)):Nat):Int)
 inn:∀t:Nat,t<f.tasks.length→(((t:Int)∈s.q∨(t:Int)∈l)↔∀y∈Y5 f t,y∈l)
 nd:∀t:Nat,t<f.tasks.length→s.q.count (t:Int)+l.count (t:Int)≤1
 rng:∀x∈l,0≤x∧x<(f.tasks.length:Int)
 top:∀(i:Nat) (x:Int),l[i]?=some x→∀y∈Y5 f x.toNat,y∈l.take i
theorem countP_split (h:List Int) (l:List Int) (x:Int) (hx:x∉l):h.countP (fun y=>decide (y∉l))=h.countP (fun y=>decide (y∉l++[x]))+h.count x:=by
 induction h with
 | nil=>rfl
 | cons a h ih =>
  rw[List.countP_cons,List.countP_cons,List.count_cons,ih]
  by_cases ha:a=x
  ·subst ha
   simp[hx]
   omega
  by_cases hl:a∈l
  ·simp[hl,ha]
  simp[hl,ha]
  omega
theorem jQ.next {f:FD} {s:WS} {l:List Int} (h:jQ f s l) (hq:s.q≠[]):jQ f (YH s).2 (l++[(YH s).1]):=by
 have hp:=vW hq
 have hn:=h.ok.next hq
 have hx0:(YH s).1=(Qe s.q).1:=rfl
 have hs':(YH s).2=(s.rd.getD (Qe s.q).1.toNat []).foldl Yy ⟨(Qe s.q).2,s.many,s.rd⟩:=rfl
 obtain⟨hxr,hok⟩:=hn
 rw[hx0] at hxr ⊢
 rw[hs'] at hok ⊢
 have hall:=Gf hq h.ok.q
 obtain⟨x,hx⟩:∃x,(Qe s.q).1=x:=⟨_,rfl⟩
 obtain⟨q1,hq1⟩:∃q1,(Qe s.q).2=q1:=⟨_,rfl⟩
 rw[hx,hq1] at hp hall
 rw[hx] at hxr hok ⊢
 rw[hq1] at hok ⊢
 obtain⟨k,rfl⟩:∃k:Nat,x=(k:Int):=⟨x.toNat,oq⟩
 have hk:k<f.tasks.length:=oq
 simp only[ZP] at hok ⊢
 have hcq:∀t:Nat,s.q.count (t:Int)=q1.count (t:Int)+(if k=t then 1 else 0):=fun t=>by
  rw[←hp.count_eq,List.count_cons]
  by_cases e:k=t
  ·subst e;simp
  rw[ZZ e,ZZ]
  intro h2
  have:=eq_of_beq h2
  omega
 have hkl:(k:Int)∉l:=fun hm=>by
  have:=h.nd k hk
  rw[hcq k,Z0 rfl] at this
  have:=List.count_pos_iff.2 hm
  omega
 have hmem:∀t:Nat,((t:Int)∈s.q↔(t:Int)∈q1∨t=k):=fun t=>by
  rw[←hp.mem_iff,ZQ]
  constructor
  ·rintro (h1|h1)
   ·exact .inr oq
   exact .inl h1
  rintro (h1|h1)
  ·exact .inr h1
  exact .inl oq
 have hRin:=gx h.ok k
 have hle:∀t:Nat,t<f.tasks.length→(((s.rd.getD k []).count (t:Int):Nat):Int)≤s.many.getD t 0:=fun t ht=>by
  rw[h.rd k t hk ht,h.many t ht,countP_split _ l (k:Int) hkl]
  omega
 obtain⟨r1,r2,r3⟩:=yT (T:=f.tasks.length) (s.rd.getD k []) ⟨q1,s.many,s.rd⟩ ⟨hall.2,h.ok.many,h.ok.rd,h.ok.rds⟩ hRin hle
 have hmany:∀t:Nat,t<f.tasks.length→((s.rd.getD k []).foldl Yy ⟨q1,s.many,s.rd⟩).many.getD t 0=(((Y5 f t).countP (fun y=>decide (y∉l++[(k:Int)])):Nat):Int):=fun t ht=>by
  rw[r2 t ht,h.rd k t hk ht]
  show s.many.getD t 0-_=_
  rw[h.many t ht,countP_split _ l (k:Int) hkl]
  omega
 have hz:∀t:Nat,t<f.tasks.length→(((Y5 f t).countP (fun y=>decide (y∉l++[(k:Int)]))=0)↔∀y∈Y5 f t,y∈l++[(k:Int)]):=fun t ht=>by
  rw[List.countP_eq_zero]
  simp only[Yh,Decidable.not_not]
 have hz0:∀t:Nat,t<f.tasks.length→(((Y5 f t).countP (fun y=>decide (y∉l))=0)↔∀y∈Y5 f t,y∈l):=fun t ht=>by
  rw[List.countP_eq_zero]
  simp only[Yh,Decidable.not_not]
 refine⟨hok,fun x t hx ht=>by rw[r1];exact h.rd x t hx ht,hmany,fun t ht=>?_,fun t ht=>?_,?_,?_⟩
 ·have hsp:=countP_split (Y5 f t) l (k:Int) hkl
  have hc3:=r3 t ht
  have hrd:=h.rd k t hk ht
  have hmt:=h.many t ht
  have hin:=h.inn t ht
  rw[hmem t] at hin
  rw[←hz t ht]
  constructor
  ·rintro (h1|h1)
   ·have h1:=List.count_pos_iff.2 h1
    rw[hc3] at h1
    by_cases hcnd:0<(s.rd.getD k []).count (t:Int)∧s.many.getD t 0=(((s.rd.getD k []).count (t:Int):Nat):Int)
    ·have:=hcnd.2
     rw[hrd,hmt] at this
     omega
    rw[show(⟨q1,s.many,s.rd⟩:WS).many=s.many from rfl,ZZ hcnd] at h1
    have:=(hz0 t ht).2 (hin.1 (.inl (.inl (List.count_pos_iff.1 (by simpa using h1)))))
    omega
   rw[List.mem_append,List.mem_singleton] at h1
   have:=(hz0 t ht).2 (hin.1 (by
    rcases h1 with h1|h1
    ·exact .inr h1
    exact .inl (.inr oq)))
   omega
  intro h0
  by_cases hc0:(Y5 f t).countP (fun y=>decide (y∉l))=0
  ·rcases hin.2 ((hz0 t ht).1 hc0) with (h1|h1)|h1
   ·refine .inl (List.count_pos_iff.1 ?_)
    rw[hc3]
    have:=List.count_pos_iff.2 h1
    show 0<q1.count (t:Int)+_
    omega
   ·exact .inr (by rw[h1];simp)
   exact .inr (by simp[h1])
  refine .inl (List.count_pos_iff.1 ?_)
  rw[hc3,Z0]
  ·omega
  show _∧s.many.getD t 0=_
  rw[hmt,hrd]
  omega
 ·rw[r3 t ht,List.count_append]
  have h1:=h.nd t ht
  rw[hcq t] at h1
  have hrd:=h.rd k t hk ht
  have hmt:=h.many t ht
  have hsp:=countP_split (Y5 f t) l (k:Int) hkl
  show q1.count (t:Int)+_+_≤1
  have hsing:List.count (t:Int) [(k:Int)]=if k=t then 1 else 0:=by
   rw[List.count_singleton]
   by_cases e:k=t
   ·subst e;simp
   rw[ZZ e,ZZ]
   intro h2
   have:=eq_of_beq h2
   omega
  rw[hsing]
  by_cases hcnd:0<(s.rd.getD k []).count (t:Int)∧(⟨q1,s.many,s.rd⟩:WS).many.getD t 0=(((s.rd.getD k []).count (t:Int):Nat):Int)
  ·rw[Z0 hcnd]
   have h2:s.many.getD t 0=(((s.rd.getD k []).count (t:Int):Nat):Int):=hcnd.2
   have hpos:=hcnd.1
   have hno:¬∀y∈Y5 f t,y∈l:=fun hc=>by
    have:=(hz0 t ht).2 hc
    rw[hmt] at h2
    omega
   have hin:=h.inn t ht
   have h3:¬(t:Int)∈s.q:=fun hm=>hno (hin.1 (.inl hm))
   have h4:¬(t:Int)∈l:=fun hm=>hno (hin.1 (.inr hm))
   have h5:=List.count_eq_zero.2 h3
   have h6:=List.count_eq_zero.2 h4
   rw[hcq t] at h5
   omega
  rw[ZZ hcnd]
  omega
 ·intro y hy
  rcases List.mem_append.1 hy with hy|hy
  ·exact h.rng y hy
  rw[List.mem_singleton.1 hy];omega
 intro i y hi z hz2
 by_cases hil:i<l.length
 ·rw[List.getElem?_append_left hil] at hi
  rw[List.take_append_of_le_length oq]
  exact h.top i y hi z hz2
 have hlen:=(Zz.1 hi).1
 rw[Zw,List.length_singleton] at hlen
 obtain rfl:i=l.length:=oq
 rw[List.getElem?_append_right (Zc _),Nat.sub_self] at hi
 injection hi with hi
 subst hi
 rw[List.take_left]
 exact(h.inn k hk).1 (.inl ((hmem k).2 (.inr rfl))) z hz2
theorem UI {T:Nat} {t:Nat} (ht:t<T):∀(H:List Int) (r:List (List Int)),r.length=T→(∀x∈H,0≤x∧x<(T:Int))→(H.foldl (addR t) r).length=T∧∀x u:Nat,x<T→((H.foldl (addR t) r).getD x []).count (u:Int)=(r.getD x []).count (u:Int)+(if u=t then H.count (x:Int) else 0)
 | [],r,hr,_=>⟨hr,fun x u _=>by simp⟩
 | a::H,r,hr,hH=>by
  have ha:=hH a (by simp)
  obtain⟨k,rfl⟩:∃k:Nat,a=(k:Int):=⟨a.toNat,oq⟩
  have hl:(addR t r (k:Int)).length=T:=by unfold addR;rw[List.length_set];exact hr
  obtain⟨h1,h2⟩:=UI ht H (addR t r (k:Int)) hl (fun x hx=>hH x (by simp[hx]))
  refine⟨h1,fun x u hx=>?_⟩
  show((H.foldl (addR t) (addR t r (k:Int))).getD x []).count (u:Int)=_
  rw[h2 x u hx]
  have e:(addR t r (k:Int)).getD x []=if k=x then r.getD k []++[(t:Int)] else r.getD x []:=by
   unfold addR
   simp only[ZP]
   exact KJ _ _ _ _ _ oq
  rw[e,List.count_cons]
  by_cases hkx:k=x
  ·subst hkx
   rw[Z0 rfl,List.count_append,List.count_singleton]
   by_cases hu:u=t
   ·subst hu;simp;omega
   rw[ZZ hu,ZZ hu,ZZ]
   intro h3
   have:=eq_of_beq h3
   omega
  rw[ZZ hkx]
  have hne:¬((k:Int) == (x:Int))=true:=fun h3=>by have:=eq_of_beq h3;omega
  rw[ZZ hne,Nat.add_zero]
theorem yx (f:FD):∀n,n≤f.tasks.length →
  (∀x t:Nat,x<f.tasks.length→t<f.tasks.length→((Y2 f n).rd.getD x []).count (t:Int)=if t<n then (Y5 f t).count (x:Int) else 0) ∧
  (∀t:Nat,t<f.tasks.length→(Y2 f n).many.getD t 0=if t<n then ((Y5 f t).length:Int) else 0) ∧
  (∀t:Nat,t<f.tasks.length→(Y2 f n).q.count (t:Int)=if t<n∧Y5 f t=[] then 1 else 0)
 | 0,_=>by
  refine⟨fun x t hx _=>?_,fun t ht=>?_,fun t _=>by simp[Y2]⟩
  ·have:((Y2 f 0).rd.getD x [])=[]:=by simp[Y2,Zf,List.getElem?_replicate,hx]
   rw[this];simp
  simp[Y2,Zf,List.getElem?_replicate,ht]
 | n+1,h=>by
  obtain⟨h1,h2,h3⟩:=yx f n oq
  have hn:n<f.tasks.length:=oq
  have hok:=J7 f n oq
  have hd:f.tasks[n]?=some f.tasks[n]:=Ze hn
  have hg:=vA hd
  rw[QP,QY hd]
  obtain⟨a1,a2⟩:=UI hn (YU f f.tasks[n]) (Y2 f n).rd hok.rd (fun x hx=>zU x hx)
  refine⟨fun x t hx ht=>?_,fun t ht=>?_,fun t ht=>?_⟩
  ·show(((YU f f.tasks[n]).foldl (addR n) (Y2 f n).rd).getD x []).count (t:Int)=_
   rw[a2 x t hx,h1 x t hx ht]
   by_cases e:t=n
   ·subst e;rw[ZZ oq,Z0 rfl,Z0 oq,hg];omega
   rw[ZZ e]
   by_cases hlt:t<n
   ·rw[Z0 hlt,Z0 oq];rfl
   rw[ZZ hlt,ZZ oq]
  ·show((Y2 f n).many.set n ((YU f f.tasks[n]).length:Int)).getD t 0=_
   rw[KJ _ _ _ _ _ (by rw[hok.many];exact hn)]
   by_cases e:n=t
   ·subst e;rw[Z0 rfl,Z0 oq,hg]
   rw[ZZ e,h2 t ht]
   by_cases hlt:t<n
   ·rw[Z0 hlt,Z0 oq]
   rw[ZZ hlt,ZZ oq]
  show(if YU f f.tasks[n]=[] then QI (Y2 f n).q (n:Int) else (Y2 f n).q).count (t:Int)=_
  by_cases e:t=n
  ·subst e
   have h3t:=h3 t ht
   rw[ZZ oq] at h3t
   by_cases he:YU f f.tasks[t]=[]
   ·rw[Z0 he,(Jz _ _).count_eq,List.count_cons_self,h3t,Z0 ⟨oq,by rw[hg];exact he⟩]
   rw[ZZ he,h3t,ZZ (fun hc=>he (by rw[←hg];exact hc.2))]
  have hne:¬((n:Int) == (t:Int))=true:=fun h4=>by have:=eq_of_beq h4;omega
  have e2:(if YU f f.tasks[n]=[] then QI (Y2 f n).q (n:Int) else (Y2 f n).q).count (t:Int)=(Y2 f n).q.count (t:Int):=by
   split
   ·rw[(Jz _ _).count_eq,List.count_cons,ZZ hne,Nat.add_zero]
   rfl
  rw[e2,h3 t ht]
  by_cases hc:t<n∧Y5 f t=[]
  ·rw[Z0 hc,Z0 ⟨oq,hc.2⟩]
  rw[ZZ hc,ZZ (fun h5=>hc ⟨oq,h5.2⟩)]
theorem Zaf (f:FD):K4 f=Y2 f f.tasks.length:=rfl
theorem kW (f:FD):jQ f (K4 f) []:=by
 obtain⟨h1,h2,h3⟩:=yx f _ (Zc _)
 rw[Zaf]
 have hok:=J7 f f.tasks.length (Zc _)
 refine⟨hok,fun x t hx ht=>by rw[h1 x t hx ht,Z0 ht],fun t ht=>?_,fun t ht=>?_,fun t ht=>?_,(fun x hx=>by cases hx),(fun i x hi=>by simp at hi)⟩
 ·rw[h2 t ht,Z0 ht]
  simp
 ·have h4:=h3 t ht
  constructor
  ·rintro (h5|h5)
   ·have:=List.count_pos_iff.2 h5
    rw[h4] at this
    by_cases hc:t<f.tasks.length∧Y5 f t=[]
    ·rw[hc.2];intro y hy;cases hy
    rw[ZZ hc] at this;omega
   cases h5
  intro h5
  have he:Y5 f t=[]:=by
   cases hh:Y5 f t with
   | nil=>rfl
   | cons a _=>rw[hh] at h5;exact absurd (h5 a (by simp)) (by simp)
  rw[Z0 ⟨ht,he⟩] at h4
  exact .inl (List.count_pos_iff.1 oq)
 rw[h3 t ht]
 simp only[List.count_nil,Nat.add_zero]
 split<;>omega
theorem K8 {f:FD}:∀(n:Nat) (s:WS) (l:List Int),jQ f s l→∃s',jQ f s' (YY n s l)
 | 0,s,l,h=>⟨s,h⟩
 | n+1,s,l,h=>by
  rw[YY]
  split
  ·exact⟨s,h⟩
  rename_i hq
  exact K8 n _ _ (h.next hq)
structure eC (f:FD) (l:List Int):Prop where
 rng:∀x∈l,0≤x∧x<(f.tasks.length:Int)
 nd:l.Nodup
 all:∀t:Nat,t<f.tasks.length→(t:Int)∈l
 top:∀(i:Nat) (x:Int),l[i]?=some x→∀y∈Y5 f x.toNat,y∈l.take i
theorem yC {f:FD} {l:List Int} (h:ofP f=some l):eC f l:=by
 unfold ofP at h
 split at h
 ·cases h
 rename_i hlen
 cases h
 obtain⟨s',hI⟩:=K8 (f:=f) (muW (K4 f)) (K4 f) [] (kW f)
 obtain⟨l,hl⟩:∃l,YY (muW (K4 f)) (K4 f) []=l:=⟨_,rfl⟩
 rw[hl] at hI hlen ⊢
 have hnd:l.Nodup:=by
  rw[List.nodup_iff_count]
  intro a
  by_cases ha:a∈l
  ·have:=hI.rng a ha
   obtain⟨k,rfl⟩:∃k:Nat,a=(k:Int):=⟨a.toNat,oq⟩
   have:=hI.nd k oq
   omega
  rw[List.count_eq_zero.2 ha];omega
 refine⟨hI.rng,hnd,fun t ht=>?_,hI.top⟩
 apply Yf
 intro hno
 have h1:((t:Int)::l).Nodup:=List.nodup_cons.2 ⟨hno,hnd⟩
 have h2:=List.Nodup.length_le_of_subset (l₂:=(List.range f.tasks.length).map (fun k:Nat=>(k:Int))) h1 (by
  intro y hy
  rcases ZQ.1 hy with rfl|hy
  ·exact Yc.2 ⟨t,List.mem_range.2 ht,rfl⟩
  have:=hI.rng y hy
  exact Yc.2 ⟨y.toNat,List.mem_range.2 oq,oq⟩)
 rw[Zp,Zo,List.length_range] at h2
 omega
end Go.Proofs.YtlhlcdjiafdoeaaGreatDoor.syn
