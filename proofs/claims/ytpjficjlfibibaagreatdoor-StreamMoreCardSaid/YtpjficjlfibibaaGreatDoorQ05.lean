/-
  Parts of the proof: App, Own, Fam, Evl1, Evl2.
-/
import Derived.Maps.AppendAt
import Derived.Deep.Upon
import Derived.Lib.AppendZeros
import Derived.Test.YtpjficjlfibibaaGreatDoorQ04
import Derived.Test.YtpjficjlfibibaaGreatDoorQ00
import Derived.Test.YtpjficjlfibibaaGreatDoorQ01
import Derived.Deep.DeepCutAuto
import Derived.Deep.CutBlock
import Derived.Deep.RegionLaw
import Derived.StillTailTactics
import Derived.Test.YtpjficjlfibibaaGreatDoorQ02
namespace Go.Proofs.YtpjficjlfibibaaGreatDoor.lite
open Go.RowKit
set_option linter.unusedVariables false
set_option linter.unusedSimpArgs false
theorem run_append_gen {P:Program} (w:World) (base:Nat) (t ty e:TypeId) (i:TypeInfo) (z:Value) (size bytes:Nat) (ht:P.underlying t = some (.slice e)) (hi:P.info? e = some i) (hz:i.zero = some z)
  (hsize:i.size = size) (hby:i.bytes = bytes) (hzs:z.cells.size = size) (hsz:0 < size)
  (v:Value) (n:Nat) (xs:List Value) (hown:w.ownsRow base e size v n xs)
  (ad:Option Addr) (m c:Nat) (news:List Value) (hl:news.length = m * size) (hnews:∀ j u,news[j]? = some u → ∃ x:Addr,ad = some x ∧ w.cell? (x.add j) = some u) (h1:∀ u ∈ news,u.oneCell' = true)
  (h63:n + m ≤ maxLen) (hbytes:(n + m) * bytes ≤ 140737488355328) (hbase:base ≤ w.heap.size) :
  ∃ v' w',(Builtin.append_ #[t,t] ty #[v,.slice ad m c]).run P w = .ok v' w' ∧ w'.ownsRow base e size v' (n + m) (xs ++ news) ∧ w.grownBy w' v.ownBlock ∧ (v'.ownBlock = v.ownBlock ∨ v'.ownBlock = some w.heap.size):=by
 cases ad with
 | some a =>
  obtain ⟨v',w',hr,h2,h3,_,h5⟩:=run_append_own_at (P:=P) w base t ty e i z size bytes ht hi hz hsize hby hzs hsz v n xs hown a m c news hl (fun j u h => by obtain ⟨x,hx,hc⟩:=hnews j u h;cases hx;exact hc) h1 h63 hbytes hbase
  exact ⟨v',w',hr,h2,h3,h5⟩
 | none =>
  have hm:m = 0:=by
   cases news with
   | nil =>
    have h:m * size = 0:=hl.symm
    rcases Nat.mul_eq_zero.1 h with h | h
    ·exact h
    ·omega
   | cons u us => obtain ⟨x,hx,_⟩:=hnews 0 u rfl;cases hx
  subst hm
  obtain rfl:news = []:=by simpa using hl
  have key:∀ (b:Option Addr) (k cp:Nat),k ≤ cp → (Builtin.append_ #[t,t] ty #[.slice b k cp,.slice none 0 c]).run P w = .ok (.slice b k cp) w:=by
   intro b k cp hle
   refine run_append_nothing w t t ty e i ht hi b k cp hle _ ⟨.inl ⟨_,ht⟩,?_,?_,?_,by simp,by simp⟩
   ·intro w';simp [Builtin.lenOf]
   ·simp [Builtin.firstCells]
   ·simp [Builtin.firstCells]
  have hown':=hown
  rcases hown.2 with ⟨rfl,rfl⟩ | ⟨g,cap,cur,rfl,hb,hg,hnc,hcm,hcs,htk⟩
  ·refine ⟨_,w,key _ _ _ (Nat.le_refl _),by simpa using hown',World.grownBy.refl _ _,.inl rfl⟩
  ·refine ⟨_,w,key _ _ _ hnc,by simpa using hown',World.grownBy.refl _ _,.inl rfl⟩
theorem wpList_append_gen {P:Program} (w:World) {ops:Array Oper} {rest:List Oper} {o:Oper} {a:Act} {Q:Exit → Act → World → Prop} (hgd:o.guard = none) (s x:Operand) (t:TypeId)
  (ho:o.op = .call { callee:=.builtin .append,args:=#[s,x],argTypes:=#[t,t] })
  (base:Nat) (e:TypeId) (i:TypeInfo) (z:Value) (size bytes:Nat) (ht:P.underlying t = some (.slice e)) (hi:P.info? e = some i) (hz:i.zero = some z)
  (hsize:i.size = size) (hby:i.bytes = bytes) (hzs:z.cells.size = size) (hsz:0 < size)
  (v:Value) (n:Nat) (xs:List Value) (hs:a.eval s = v) (hown:w.ownsRow base e size v n xs)
  (ad:Option Addr) (m c:Nat) (news:List Value) (hx:a.eval x = .slice ad m c) (hl:news.length = m * size) (hnews:∀ j u,news[j]? = some u → ∃ x:Addr,ad = some x ∧ w.cell? (x.add j) = some u) (h1:∀ u ∈ news,u.oneCell' = true)
  (h63:n + m ≤ maxLen) (hbytes:(n + m) * bytes ≤ 140737488355328) (hbase:base ≤ w.heap.size)
  (h:∀ v' w',w'.ownsRow base e size v' (n + m) (xs ++ news) → w.grownBy w' v.ownBlock → (v'.ownBlock = v.ownBlock ∨ v'.ownBlock = some w.heap.size) → wpList P ops Q rest (a.put o.dst v') w'):wpList P ops Q (o :: rest) a w:=by
 obtain ⟨v',w',hr,h2,h3,h4⟩:=run_append_gen (P:=P) w base t o.type e i z size bytes ht hi hz hsize hby hzs hsz v n xs hown ad m c news hl hnews h1 h63 hbytes hbase
 exact Lib.wpList_append_run w hgd s x t t ho v _ hs hx v' w' hr (h v' w' h2 h3 h4)
theorem info_parts {P:Program} {e:TypeId} {z:Value} {n b:Nat} (h:(P.info? e).map (fun i => (i.zero,i.size,i.bytes)) = some (some z,n,b)):∃ i,P.info? e = some i ∧ i.zero = some z ∧ i.size = n ∧ i.bytes = b:=by
 cases hi:P.info? e with
 | none => rw [hi] at h;cases h
 | some i => rw [hi] at h;simp at h;exact ⟨i,rfl,h.1,h.2.1,h.2.2⟩
end Go.Proofs.YtpjficjlfibibaaGreatDoor.lite
namespace Go.Proofs.YtpjficjlfibibaaGreatDoor.syn
open Go.RowKit
set_option linter.unusedVariables false
set_option linter.unusedSimpArgs false
theorem ownR_form {w:World} {base n:Nat} {e:TypeId} {size:Nat} {v:Value} {xs:List Value} (h:w.ownsRow base e size v n xs):∃ ad cap,v = .slice ad n cap:=by
 rcases h.2 with ⟨rfl,rfl⟩ | ⟨g,cap,cur,rfl,_⟩
 ·exact ⟨none,0,rfl⟩
 ·exact ⟨_,cap,rfl⟩
theorem own_below {w w':World} {base n:Nat} {e:TypeId} {size:Nat} {v:Value} {xs:List Value} (h:w.ownsRow base e size v n xs) (hb:Below w.heap.size w w'):w'.ownsRow base e size v n xs :=
 h.kept (row:=none) ⟨hb.os,hb.tape,hb.output,hb.size,fun k hk _ => hb.block k hk⟩ (by cases hv:v.ownBlock <;> simp)
theorem info_parts {P:Program} {e:TypeId} {z:Value} {n b:Nat} (h:(P.info? e).map (fun i => (i.zero,i.size,i.bytes)) = some (some z,n,b)):∃ i,P.info? e = some i ∧ i.zero = some z ∧ i.size = n ∧ i.bytes = b:=by
 cases hi:P.info? e with
 | none => rw [hi] at h;cases h
 | some i => rw [hi] at h;simp at h;exact ⟨i,rfl,h.1,h.2.1,h.2.2⟩
theorem cells2 {w:World} {b:Nat} {v0 v1:Value} {t:TypeId} (h:w.heap[b]? = some (.cells #[v0,v1] t (0,0))):(w.cell? ⟨b,0,none⟩ = some v0 ∧ w.cell? ⟨b,1,none⟩ = some v1) ∧ ∀ o,w.frozen? ⟨b,o,none⟩ = false:=by
 refine ⟨⟨?_,?_⟩,?_⟩
 all_goals first | (intro o;simp [World.frozen?,h]) | simp [World.cell?,h]
theorem own_ge' {w:World} {base:Nat} {e:TypeId} {size n:Nat} {v:Value} {xs:List Value} (h:w.ownsRow base e size v n xs):∀ k,v.ownBlock = some k → base ≤ k:=by
 intro k hk
 rcases h.2 with ⟨rfl,_⟩ | ⟨g,cap,cur,rfl,hb,_⟩
 ·cases hk
 ·simp [Value.ownBlock] at hk;omega
theorem own_set {w:World} {base:Nat} {e:TypeId} {size n:Nat} {v:Value} {xs:List Value} (h:w.ownsRow base e size v n xs) {B o:Nat} (hB:B < base) (u:Value):(w.setCell ⟨B,o,none⟩ u).ownsRow base e size v n xs :=
 h.kept (row:=some B) ⟨rfl,rfl,rfl,((Below.refl 0 w).setCell (p:=⟨B,o,none⟩) (Nat.zero_le _) u).size,fun k _ hk => Below.heap_setCell _ _ _ _ (fun e => hk (by rw [e]))⟩ (Or.inr (fun e => by have:=own_ge' h _ e;omega))
theorem own_mono {w:World} {base base':Nat} {e:TypeId} {size n:Nat} {v:Value} {xs:List Value} (h:w.ownsRow base e size v n xs) (hb:base' ≤ base):w.ownsRow base' e size v n xs:=by
 refine ⟨h.1,?_⟩
 rcases h.2 with h0 | ⟨g,cap,cur,hv,hg,rest⟩
 ·exact .inl h0
 ·exact .inr ⟨g,cap,cur,hv,Nat.le_trans hb hg,rest⟩
theorem own_upon {w w':World} {base:Nat} {e:TypeId} {size n:Nat} {v:Value} {xs:List Value} (h:w.ownsRow base e size v n xs) {B:Nat} (hB:B < base) (hu:Upon B w w'):w'.ownsRow base e size v n xs :=
 h.kept (row:=some B) ⟨hu.os,hu.tape,hu.output,hu.size,fun k hk hne => hu.block k hk (fun e => hne (by rw [e]))⟩ (Or.inr (fun e => by have:=own_ge' h _ e;omega))
theorem cells4 {w:World} {b:Nat} {v0 v1 v2 v3:Value} {t:TypeId} (h:w.heap[b]? = some (.cells #[v0,v1,v2,v3] t (0,0))) :
  (w.cell? ⟨b,0,none⟩ = some v0 ∧ w.cell? ⟨b,1,none⟩ = some v1 ∧ w.cell? ⟨b,2,none⟩ = some v2 ∧ w.cell? ⟨b,3,none⟩ = some v3) ∧ ∀ o,w.frozen? ⟨b,o,none⟩ = false:=by
 refine ⟨⟨?_,?_,?_,?_⟩,?_⟩
 all_goals first | (intro o;simp [World.frozen?,h]) | simp [World.cell?,h]
structure But (S:Nat → Prop) (w w':World):Prop where
 os:w'.os = w.os
 tape:w'.tape = w.tape
 output:w'.output = w.output
 size:w.heap.size ≤ w'.heap.size
 block:∀ k,k < w.heap.size → ¬ S k → w'.heap[k]? = w.heap[k]?
theorem But.refl (S:Nat → Prop) (w:World):But S w w:=⟨rfl,rfl,rfl,Nat.le_refl _,fun _ _ _ => rfl⟩
theorem But.trans {S:Nat → Prop} {a b c:World} (h:But S a b) (k:But S b c):But S a c :=
 ⟨k.os.trans h.os,k.tape.trans h.tape,k.output.trans h.output,Nat.le_trans h.size k.size,fun i hi hr => (k.block i (Nat.lt_of_lt_of_le hi h.size) hr).trans (h.block i hi hr)⟩
theorem But.then {S T:Nat → Prop} {a b c:World} (h:But S a b) (k:But T b c) (hT:∀ i,i < a.heap.size → T i → S i):But S a c :=
 ⟨k.os.trans h.os,k.tape.trans h.tape,k.output.trans h.output,Nat.le_trans h.size k.size,fun i hi hr => (k.block i (Nat.lt_of_lt_of_le hi h.size) (fun t => hr (hT i hi t))).trans (h.block i hi hr)⟩
theorem But.imp {S T:Nat → Prop} {a b:World} (h:But S a b) (hT:∀ i,i < a.heap.size → S i → T i):But T a b:=⟨h.os,h.tape,h.output,h.size,fun k hk hr => h.block k hk (fun s => hr (hT k hk s))⟩
theorem But.of_below {S:Nat → Prop} {a b:World} (h:Below a.heap.size a b):But S a b:=⟨h.os,h.tape,h.output,h.size,fun k hk _ => h.block k hk⟩
theorem But.of_upon {r:Nat} {a b:World} (h:Upon r a b):But (fun k => k = r) a b:=⟨h.os,h.tape,h.output,h.size,fun k hk hr => h.block k hk hr⟩
theorem But.of_grown {row:Option Nat} {a b:World} (h:a.grownBy b row):But (fun k => row = some k) a b:=⟨h.os,h.tape,h.output,h.size,fun k hk hr => h.block k hk (fun e => hr e.symm)⟩
theorem But.below {S:Nat → Prop} {B:Nat} {a b:World} (h:But S a b) (h1:B ≤ a.heap.size) (h2:∀ k,S k → B ≤ k):Below B a b :=
 ⟨h.os,h.tape,h.output,h.size,fun k hk => h.block k oq (fun s => by have:=h2 k s;omega)⟩
theorem But.drewN {S:Nat → Prop} {a w:World} (h:But S a w) (n:Nat):But S a (w.drewN n):=⟨h.os,h.tape,h.output,h.size,h.block⟩
theorem But.drew {S:Nat → Prop} {a w:World} (h:But S a w):But S a w.drew:=⟨h.os,h.tape,h.output,h.size,h.block⟩
theorem But.set {S:Nat → Prop} {w:World} {b o:Nat} (hb:S b) (u:Value):But S w (w.setCell ⟨b,o,none⟩ u) :=
 (But.of_upon ((Upon.refl b w).setAt (.inl rfl) u)).imp (fun i _ e => e ▸ hb)
theorem But.alloc {S:Nat → Prop} {a w:World} (h:But S a w) (o:Obj):But S a (w.alloc o):=h.then (But.of_below ((Below.refl _ _).alloc (Nat.le_refl _) o)) (fun _ _ t => t)
theorem But.own {S:Nat → Prop} {w w':World} {base:Nat} {e:TypeId} {size n:Nat} {v:Value} {xs:List Value} (h:But S w w') (ho:w.ownsRow base e size v n xs) (hS:∀ k,v.ownBlock = some k → ¬ S k):w'.ownsRow base e size v n xs:=by
 refine ⟨ho.1,?_⟩
 rcases ho.2 with hn | ⟨g,cap,cur,rfl,hb,hgg,rest⟩
 ·exact .inl hn
 ·exact .inr ⟨g,cap,cur,rfl,hb,(h.block g (Array.getElem?_eq_some_iff.1 hgg).1 (hS g rfl)).trans hgg,rest⟩
structure Fam (w:World) (base:Nat) (e:TypeId) (vs:List Value) (xss:List (List Value)):Prop where
 len:vs.length = xss.length
 own:∀ (i:Nat) (v:Value) (xs:List Value),vs[i]? = some v → xss[i]? = some xs → w.ownsRow base e 1 v xs.length xs
 dis:∀ (i j:Nat) (v u:Value) (k:Nat),vs[i]? = some v → vs[j]? = some u → v.ownBlock = some k → u.ownBlock = some k → i = j
theorem Fam.block {w:World} {base:Nat} {e:TypeId} {vs:List Value} {xss:List (List Value)} (h:Fam w base e vs xss) {i:Nat} {v:Value} (hv:vs[i]? = some v):∀ k,v.ownBlock = some k → base ≤ k ∧ k < w.heap.size:=by
 have hi:i < xss.length:=by rw [← h.len];exact (List.getElem?_eq_some_iff.1 hv).1
 exact (h.own i v _ hv (List.getElem?_eq_getElem hi)).lt
theorem Fam.but {w w':World} {base:Nat} {e:TypeId} {vs:List Value} {xss:List (List Value)} (h:Fam w base e vs xss) {S:Nat → Prop} (hb:But S w w') (hS:∀ (i:Nat) (v:Value) (k:Nat),vs[i]? = some v → v.ownBlock = some k → ¬ S k):Fam w' base e vs xss :=
 ⟨h.len,fun i v xs h1 h2 => hb.own (h.own i v xs h1 h2) (fun k hk => hS i v k h1 hk),h.dis⟩
theorem Fam.below {w w':World} {base:Nat} {e:TypeId} {vs:List Value} {xss:List (List Value)} (h:Fam w base e vs xss) (hb:Below w.heap.size w w'):Fam w' base e vs xss :=
 h.but (But.of_below (S:=fun _ => False) hb) (fun _ _ _ _ _ hf => hf)
theorem Fam.butB {w w':World} {base:Nat} {e:TypeId} {vs:List Value} {xss:List (List Value)} (h:Fam w base e vs xss) {S:Nat → Prop} (hb:But S w w') (hS:∀ k,S k → k < base):Fam w' base e vs xss :=
 h.but hb (fun i v k hv hk hs => by have h1:=(h.block hv k hk).1;have h2:=hS k hs;omega)
theorem Fam.set {w:World} {base:Nat} {e:TypeId} {vs:List Value} {xss:List (List Value)} (h:Fam w base e vs xss) {b o:Nat} (hb:b < base) (u:Value):Fam (w.setCell ⟨b,o,none⟩ u) base e vs xss :=
 h.butB (But.set (S:=fun k => k = b) rfl u) (fun k hk => by omega)
theorem Fam.put {w w':World} {base:Nat} {e:TypeId} {vs:List Value} {xss:List (List Value)} (h:Fam w base e vs xss) {i:Nat} {v v':Value} {xs':List Value} (hi:vs[i]? = some v) (hg:But (fun k => v.ownBlock = some k ∨ k < base) w w')
  (ho:w'.ownsRow base e 1 v' xs'.length xs') (hv:∀ k,v'.ownBlock = some k → v.ownBlock = some k ∨ w.heap.size ≤ k):Fam w' base e (vs.set i v') (xss.set i xs'):=by
 have hl:=(List.getElem?_eq_some_iff.1 hi).1
 refine ⟨by simp [h.len],?_,?_⟩
 ·intro j u xs h1 h2
  by_cases hj:j = i
  ·subst hj
   rw [List.getElem?_set_self hl] at h1
   rw [List.getElem?_set_self (by rw [← h.len];exact hl)] at h2
   cases h1
   cases h2
   exact ho
  ·rw [List.getElem?_set_ne (fun e => hj e.symm)] at h1 h2
   refine hg.own (h.own j u xs h1 h2) (fun k hk hs => ?_)
   rcases hs with hs | hs
   ·exact hj (h.dis j i u v k h1 hi hk hs)
   ·have:=(h.block h1 k hk).1;omega
 ·intro j l u x k h1 h2 hu hx
  by_cases hj:j = i
  ·subst hj
   rw [List.getElem?_set_self hl] at h1
   cases h1
   by_cases hl2:l = j
   ·exact hl2.symm
   ·rw [List.getElem?_set_ne (fun e => hl2 e.symm)] at h2
    rcases hv k hu with h3 | h3
    ·exact h.dis j l v x k hi h2 h3 hx
    ·have:=(h.block h2 k hx).2
     omega
  ·rw [List.getElem?_set_ne (fun e => hj e.symm)] at h1
   by_cases hl2:l = i
   ·subst hl2
    rw [List.getElem?_set_self hl] at h2
    cases h2
    rcases hv k hx with h3 | h3
    ·exact h.dis j l u v k h1 hi hu h3
    ·have:=(h.block h1 k hu).2
     omega
   ·rw [List.getElem?_set_ne (fun e => hl2 e.symm)] at h2
    exact h.dis j l u x k h1 h2 hu hx
theorem Fam.nils (w:World) (base:Nat) (e:TypeId) (n:Nat):Fam w base e (List.replicate n (.slice none 0 0)) (List.replicate n []):=by
 refine ⟨by simp,?_,?_⟩
 ·intro i v xs h1 h2
  rw [List.getElem?_replicate] at h1 h2
  split at h1
  ·rename_i hlt
   rw [if_pos hlt] at h2
   cases h1
   cases h2
   exact World.ownsRow_nil w base e 1
  ·cases h1
 ·intro i j v u k h1 h2 hv hu
  rw [List.getElem?_replicate] at h1
  split at h1
  ·cases h1
   cases hv
  ·cases h1
def ints (l:List Int):List Value:=l.map (fun x => .int .i64 x)
theorem ints_len (l:List Int):(ints l).length = l.length:=by simp [ints]
theorem ints_at {l:List Int} {i:Nat} (h:i < l.length):(ints l)[i]? = some (.int .i64 (l.getD i 0)):=by
 unfold ints
 rw [List.getElem?_map,List.getElem?_eq_getElem h,List.getD_eq_getElem?_getD,List.getElem?_eq_getElem h]
 rfl
theorem ints_set (l:List Int) (i:Nat) (x:Int):(ints l).set i (.int .i64 x) = ints (l.set i x):=by unfold ints;rw [List.map_set]
theorem ints_app (l:List Int) (x:Int):ints l ++ [.int .i64 x] = ints (l ++ [x]):=by simp [ints]
theorem own_put {w:World} {base g n cap:Nat} {e:TypeId} {xs:List Value} (h:w.ownsRow base e 1 (.slice (some ⟨g,0,none⟩) n cap) n xs) (j:Nat) (u:Value) (hj:j < n):(w.setCell ⟨g,j,none⟩ u).ownsRow base e 1 (.slice (some ⟨g,0,none⟩) n cap) n (xs.set j u):=by
 rcases h.2 with ⟨h1,_⟩ | ⟨g',cap',cur,h1,hb,hg,hnc,hcm,hcs,htk⟩
 ·cases h1
 ·injection h1 with h1 _ h3
  injection h1 with h1
  injection h1 with h1
  subst h1
  subst h3
  refine ⟨by simp [h.1],.inr ⟨g,cap,cur.setIfInBounds j u,rfl,hb,heap_setCell_same w g j cur e u hg,hnc,hcm,by simp [hcs],?_⟩⟩
  rw [← htk,Array.toList_setIfInBounds,Nat.mul_one,List.take_set]
theorem own_take {w:World} {base g n m cap:Nat} {e:TypeId} {xs:List Value} (h:w.ownsRow base e 1 (.slice (some ⟨g,0,none⟩) n cap) n xs) (hm:m ≤ n):w.ownsRow base e 1 (.slice (some ⟨g,0,none⟩) m cap) m (xs.take m):=by
 rcases h.2 with ⟨h1,_⟩ | ⟨g',cap',cur,h1,hb,hg,hnc,hcm,hcs,htk⟩
 ·cases h1
 ·injection h1 with h1 _ h3
  injection h1 with h1
  injection h1 with h1
  subst h1
  subst h3
  refine ⟨by rw [List.length_take,h.1];omega,.inr ⟨g,cap,cur,rfl,hb,hg,by omega,hcm,hcs,?_⟩⟩
  rw [← htk,List.take_take,show min m (n * 1) = m * 1 by omega]
theorem argsMap:StrMap 289 9 2 (.int .i64 0):=⟨by kernel_rfl,by kernel_rfl,fun w => by kernel_rfl,fun b s w => by cases b <;> kernel_rfl⟩
structure RkM (w:World) (rb tb ma mq:Nat) (La:List (ByteArray × Value)) (L:List (Addr × Value)):Prop where
 box:w.heap[rb]? = some (.cells #[.func (.func 193) #[] #[.pointer (some ⟨tb,0,none⟩)],.map (some mq)] 275 (0,0))
 tb:w.heap[tb]? = some (.cells #[.map (some ma)] 289 (0,0))
 args:MapS w ma La
 vals:MapQ w mq L
 ks:∀ p ∈ L,K0 w p.1
def TV (La:List (ByteArray × Value)) (T:ByteArray → Int):Prop:=∀ nm,(getS nm La).getD (.int .i64 0) = .int .i64 (T nm)
theorem cells1k {w:World} {b:Nat} {v0:Value} {t:TypeId} (h:w.heap[b]? = some (.cells #[v0] t (0,0))):w.cell? ⟨b,0,none⟩ = some v0:=by simp [World.cell?,h]
theorem tellOne_any {w:World} {tb ma:Nat} {La:List (ByteArray × Value)} {T:ByteArray → Int} (h1:w.heap[tb]? = some (.cells #[.map (some ma)] 289 (0,0))) (h2:MapS w ma La) (hT:TV La T) (nm:ByteArray) :
  Calls Tryz.prog 193 #[.string nm,.pointer (some ⟨tb,0,none⟩)] w fun x w' => x = .returned (.int .i64 (T nm)) ∧ w' = w:=by
 have c0:=cells1k h1
 have HM:=hid h2
 have HT:=hid (hT nm)
 clear h1 h2 hT
 go_enter Tryz.func193,Tryz.ntmps193
 go_wp2_with (at_lookup;refine wpList_lookI argsMap _ rfl _ _ rfl ma La nm _ rfl rfl HM.out HT.out ?_)
 go_ret
 exact ⟨rfl,rfl⟩
theorem At.cells {w:World} {x:Addr} {e:PE} (h:At w x e):∃ b o ad cap,x = ⟨b,o,none⟩ ∧ w.cell? ⟨b,o,none⟩ = some (.int .i64 e.k) ∧ w.cell? ⟨b,o + 1,none⟩ = some (.string e.nm) ∧ w.cell? ⟨b,o + 2,none⟩ = some (.int .i64 e.n) ∧ w.cell? ⟨b,o + 4,none⟩ = some (.slice ad e.args.len cap):=by
 obtain ⟨b,o,ad,cap,h0,_,h1,h2,h3,_,_,h4,_⟩:=h
 exact ⟨b,o,ad,cap,h0,h1,h2,h3,h4⟩
theorem At.keep {w w':World} {x:Addr} {e:PE} (h:At w x e) (hs:Same (fun _ => True) w w'):At w' x e:=by
 obtain ⟨b,o,ad,cap,h0,⟨cs,t,h1⟩,h2,h3,h4,h5,h6,h7,h8,h9⟩:=h
 have hb:=hs.block b trivial (lt_of_block h1)
 have hc:∀ o,w'.cell? ⟨b,o,none⟩ = w.cell? ⟨b,o,none⟩:=fun o => World.cell?_of_block (w:=w) (a:=⟨b,o,none⟩) hb
 exact ⟨b,o,ad,cap,h0,⟨cs,t,hb.trans h1⟩,(hc _).trans h2,(hc _).trans h3,(hc _).trans h4,(hc _).trans h5,(hc _).trans h6,(hc _).trans h7,h8,h9.keep hs⟩
theorem At.drewN {w:World} {x:Addr} {e:PE} (h:At w x e) (n:Nat):At (w.drewN n) x e:=h.keep ((Same.refl _ _).drewN n)
theorem At.k0 {w:World} {x:Addr} {e:PE} (h:At w x e):K0 w x:=by
 obtain ⟨b,o,ad,cap,h0,⟨cs,t,h1⟩,_⟩:=h
 exact ⟨b,o,cs,t,h0,h1⟩
set_option maxRecDepth 100000 in
set_option maxHeartbeats 4000000 in
theorem single_any {w:World} {rb tb ma mq:Nat} {La:List (ByteArray × Value)} {L:List (Addr × Value)} {T:ByteArray → Int} (hr:RkM w rb tb ma mq La L) (hT:TV La T) {x:Addr} {e:PE} (he:At w x e) :
  Calls Tryz.prog 204 #[.pointer (some ⟨rb,0,none⟩),.pointer (some x)] w fun y w' => y = .returned (.int .i64 (sgE T e.k e.nm e.n)) ∧ ∃ m,w' = w.drewN m:=by
 obtain ⟨b,o,ad,cap,rfl,c0,c1,c2,_⟩:=he.cells
 have q0:w.cell? ⟨rb,0,none⟩ = some (.func (.func 193) #[] #[.pointer (some ⟨tb,0,none⟩)]):=by simp [World.cell?,hr.box]
 have HTO:=hid (fun m nm => tellOne_any (w:=w.drewN m) hr.tb hr.args hT nm)
 obtain ⟨ans,hans⟩:∃ ans,sgE T e.k e.nm e.n = ans:=⟨_,rfl⟩
 rw [hans]
 obtain ⟨k,hk⟩:∃ k,e.k = k:=⟨_,rfl⟩
 obtain ⟨nm,hnm⟩:∃ nm,e.nm = nm:=⟨_,rfl⟩
 obtain ⟨n,hn⟩:∃ n,e.n = n:=⟨_,rfl⟩
 rw [hk] at c0 hans
 rw [hnm] at c1 hans
 rw [hn] at c2 hans
 unfold sgE at hans
 clear hr hT he hk hnm hn
 by_cases h11:k = 11
 ·rw [if_pos h11] at hans
  subst hans
  subst h11
  go_enter Tryz.func204,Tryz.ntmps204
  go_wp2
  go_region_with (go_at_call 193;refine (HTO.out _ _).mono ?_;rintro y w2 ⟨rfl,rfl⟩)
  all_goals go_wp2
  all_goals (go_ret;exact ⟨rfl,_,rfl⟩)
 ·rw [if_neg h11] at hans
  have e11:(k == 11) = false:=beq_eq_false_iff_ne.2 h11
  by_cases h12:k = 12
  ·rw [if_pos h12] at hans
   subst hans
   subst h12
   go_enter Tryz.func204,Tryz.ntmps204
   go_wp2
   go_ret
   exact ⟨rfl,0,rfl⟩
  ·rw [if_neg h12] at hans
   have e12:(k == 12) = false:=beq_eq_false_iff_ne.2 h12
   subst hans
   go_enter Tryz.func204,Tryz.ntmps204
   go_wp2
   go_ret
   exact ⟨rfl,0,rfl⟩
def argQ (T:ByteArray → Int) (L:List (Addr × Value)) (l:PL) (b o i:Nat):Value × Option Addr:=match l.at i with
 | none => (.int .i64 0,none)
 | some e => if e.k = 13 then (match getQ ⟨b,o + i * 6,none⟩ L with
   | some v => (v,none)
   | none => (.int .i64 0,some ⟨b,o + i * 6,none⟩))
  else (.int .i64 (sgE T e.k e.nm e.n),none)
theorem PL.at_none:∀ (l:PL) (i:Nat),l.len ≤ i → l.at i = none
 | .nil,_,_ => rfl
 | .cons _ _ _ _ _ _ tl,0,h => by simp [PL.len] at h
 | .cons _ _ _ _ _ _ tl,i + 1,h => PL.at_none tl i (by simp only [PL.len] at h;omega)
theorem RkM.drewN {w:World} {rb tb ma mq:Nat} {La:List (ByteArray × Value)} {L:List (Addr × Value)} (h:RkM w rb tb ma mq La L) (n:Nat):RkM (w.drewN n) rb tb ma mq La L:=⟨h.box,h.tb,h.args,h.vals,h.ks⟩
set_option maxRecDepth 100000 in
set_option maxHeartbeats 4000000 in
theorem argument_any {w:World} {rb tb ma mq:Nat} {La:List (ByteArray × Value)} {L:List (Addr × Value)} {T:ByteArray → Int} (hr:RkM w rb tb ma mq La L) (hT:TV La T) {bx ox:Nat} {e:PE} (he:At w ⟨bx,ox,none⟩ e) (hl:e.args.len ≤ 1000) (i:Nat) (hi:i ≤ 2) (b o:Nat)
  (hbo:∀ ad cap,w.cell? ⟨bx,ox + 4,none⟩ = some (.slice ad e.args.len cap) → e.args.len = 0 ∨ ad = some ⟨b,o,none⟩) :
  Calls Tryz.prog 205 #[.pointer (some ⟨rb,0,none⟩),.pointer (some ⟨bx,ox,none⟩),.int .i64 (i:Int)] w fun y w' => y = .returned (.tuple #[(argQ T L e.args b o i).1,.pointer (argQ T L e.args b o i).2]) ∧ ∃ m,w' = w.drewN m:=by
 obtain ⟨b',o',ad,cap,hx,c0,c1,c2,c4⟩:=he.cells
 injection hx with hx1 hx2
 subst hx1;subst hx2
 have hbo2:=hbo ad cap c4
 by_cases hil:i < e.args.len
 ·obtain ⟨b2,o2,cap2,d4,e',he',hat⟩:=he.arg hil
  rw [show (⟨bx,ox,none⟩:Addr).block = bx from rfl,show (⟨bx,ox,none⟩:Addr).off = ox from rfl,c4] at d4
  injection d4 with d4
  injection d4 with d4 _ d5
  subst d4
  subst d5
  rcases hbo2 with h | h
  ·omega
  ·injection h with h
   injection h with h h'
   subst h;subst h'
   obtain ⟨b3,o3,ad3,cap3,hx,f0,f1,f2,f4⟩:=hat.cells
   injection hx with hx1 hx2
   subst hx1;subst hx2
   have HSI:=hid (fun m => single_any (w:=w.drewN m) (hr.drewN m) hT (x:=⟨b2,o2 + i * 6,none⟩) (e:=e') (hat.drewN m))
   have q1:w.cell? ⟨rb,1,none⟩ = some (.map (some mq)):=by simp [World.cell?,hr.box]
   have HV:=hid hr.vals
   have HKS:=hid hr.ks
   have HK0:=hid hat.k0
   have hans:argQ T L e.args b2 o2 i = if e'.k = 13 then (match getQ ⟨b2,o2 + i * 6,none⟩ L with
     | some v => (v,none)
     | none => (.int .i64 0,some ⟨b2,o2 + i * 6,none⟩)) else (.int .i64 (sgE T e'.k e'.nm e'.n),none):=by unfold argQ;rw [he']
   obtain ⟨ans,ha⟩:∃ ans,argQ T L e.args b2 o2 i = ans:=⟨_,rfl⟩
   rw [ha] at hans ⊢
   have i0:(0:Int) ≤ (i:Int):=by omega
   have i1:(i:Int) < (e.args.len:Int):=by omega
   have i2:¬ (i:Int) ≥ (e.args.len:Int):=by omega
   obtain ⟨k',hk'⟩:∃ k',e'.k = k':=⟨_,rfl⟩
   rw [hk'] at f0 hans HSI
   obtain ⟨ln,hln⟩:∃ ln,e.args.len = ln:=⟨_,rfl⟩
   rw [hln] at c4 i1 i2 hl
   clear hr hT he hbo ha he' hat c0 c1 c2 f1 f2 f4 hk' hln hil
   by_cases h13:k' = 13
   ·rw [if_pos h13] at hans
    subst h13
    cases hg:getQ ⟨b2,o2 + i * 6,none⟩ L with
    | some v =>
     rw [hg] at hans
     subst hans
     have HG:=hid (show Value.tuple #[(getQ ⟨b2,o2 + i * 6,none⟩ L).getD (.int .i64 0),.bool (getQ ⟨b2,o2 + i * 6,none⟩ L).isSome] = .tuple #[v,.bool true] by rw [hg];rfl)
     clear hg
     go_enter Tryz.func205,Tryz.ntmps205
     go_wp2_with (at_lookup;refine wpList_lookQ valuesMap _ rfl _ _ true rfl mq L ⟨b2,o2 + i * 6,none⟩ rfl rfl HV.out HKS.out HK0.out _ HG.out ?_)
     go_ret2
     exact ⟨rfl,0,rfl⟩
    | none =>
     rw [hg] at hans
     subst hans
     have HG:=hid (show Value.tuple #[(getQ ⟨b2,o2 + i * 6,none⟩ L).getD (.int .i64 0),.bool (getQ ⟨b2,o2 + i * 6,none⟩ L).isSome] = .tuple #[.int .i64 0,.bool false] by rw [hg];rfl)
     clear hg
     go_enter Tryz.func205,Tryz.ntmps205
     go_wp2_with (at_lookup;refine wpList_lookQ valuesMap _ rfl _ _ true rfl mq L ⟨b2,o2 + i * 6,none⟩ rfl rfl HV.out HKS.out HK0.out _ HG.out ?_)
     go_ret2
     exact ⟨rfl,0,rfl⟩
   ·rw [if_neg h13] at hans
    subst hans
    have e13:(k' != 13) = true:=bne_iff_ne.2 h13
    go_enter Tryz.func205,Tryz.ntmps205
    go_wp2_with (go_at_call 204;refine (HSI.out 0).mono ?_;rintro y w2 ⟨rfl,m2,rfl⟩)
    go_ret2
    exact ⟨rfl,_,rfl⟩
 ·have hans:argQ T L e.args b o i = (.int .i64 0,none):=by unfold argQ;rw [PL.at_none _ _ oq]
  rw [hans]
  have i2:(i:Int) ≥ (e.args.len:Int):=by omega
  clear hr hT he hbo hbo2 hans hil
  go_enter Tryz.func205,Tryz.ntmps205
  go_wp2
  go_ret2
  exact ⟨rfl,0,rfl⟩
structure ArgQ (T:ByteArray → Int) (e:PE) (i:Nat) (r:Value × Option Addr):Prop where
 val:r.2 = none → r.1 = .int .i64 (evA T e.args i)
 mis:∀ a,r.2 = some a → r.1 = .int .i64 0
def rkV (T:ByteArray → Int) (e:PE) (r:Nat → Value × Option Addr):Value × Option Addr :=
 if e.k = 13 then
  (if (r 0).2 ≠ none then (.int .i64 0,(r 0).2)
  else if e.nm.toList = [63] then (if evA T e.args 0 ≠ 0 then r 1 else r 2)
  else if (r 1).2 ≠ none then (.int .i64 0,(r 1).2) else (.int .i64 (evE T e),none))
 else (.int .i64 (sgE T e.k e.nm e.n),none)
def I64v (T:ByteArray → Int) (l:PL):Prop:=∀ i,-9223372036854775808 ≤ evA T l i ∧ evA T l i ≤ 9223372036854775807
set_option maxRecDepth 100000 in
set_option maxHeartbeats 8000000 in
theorem reckon_any {w:World} {rb tb ma mq:Nat} {La:List (ByteArray × Value)} {L:List (Addr × Value)} {T:ByteArray → Int} (hr:RkM w rb tb ma mq La L) (hT:TV La T) {bx ox:Nat} {e:PE} (he:At w ⟨bx,ox,none⟩ e) (hl:e.args.len ≤ 1000) (h64:I64v T e.args) (b o:Nat)
  (hbo:∀ ad cap,w.cell? ⟨bx,ox + 4,none⟩ = some (.slice ad e.args.len cap) → e.args.len = 0 ∨ ad = some ⟨b,o,none⟩) (hq:∀ i,ArgQ T e i (argQ T L e.args b o i)) :
  Calls Tryz.prog 194 #[.pointer (some ⟨rb,0,none⟩),.pointer (some ⟨bx,ox,none⟩)] w fun y w' => y = .returned (.tuple #[(rkV T e (argQ T L e.args b o)).1,.pointer (rkV T e (argQ T L e.args b o)).2]) ∧ ∃ m,w' = w.drewN m:=by
 obtain ⟨b',o',ad,cap,hx,c0,c1,c2,c4⟩:=he.cells
 injection hx with hx1 hx2
 subst hx1;subst hx2
 have HAR:=hid (fun (m i:Nat) (hi:i ≤ 2) => argument_any (w:=w.drewN m) (hr.drewN m) hT (he.drewN m) hl i hi b o hbo)
 have HSI:=hid (fun m => single_any (w:=w.drewN m) (hr.drewN m) hT (x:=⟨bx,ox,none⟩) (e:=e) (he.drewN m))
 obtain ⟨r,hrr⟩:∃ r,argQ T L e.args b o = r:=⟨_,rfl⟩
 rw [hrr] at HAR hq ⊢
 obtain ⟨k,hk⟩:∃ k,e.k = k:=⟨_,rfl⟩
 obtain ⟨nm,hnm⟩:∃ nm,e.nm = nm:=⟨_,rfl⟩
 obtain ⟨ans,hans⟩:∃ ans,rkV T e r = ans:=⟨_,rfl⟩
 rw [hans]
 unfold rkV at hans
 rw [hk] at c0 hans
 have HEV:=hid (show k = 13 → evE T e = opE nm (evA T e.args 0) (evA T e.args 1) (evA T e.args 2) from fun h => by unfold evE;rw [hk,if_pos h,hnm])
 rw [hk,hnm] at HSI
 rw [hnm] at c1 hans
 have q0:=hq 0
 have q1:=hq 1
 have H0:=hid (fun m => HAR.out m 0 oq)
 have H1:=hid (fun m => HAR.out m 1 oq)
 have H2:=hid (fun m => HAR.out m 2 oq)
 rw [show ((0:Nat):Int) = 0 from rfl] at H0
 rw [show ((1:Nat):Int) = 1 from rfl] at H1
 rw [show ((2:Nat):Int) = 2 from rfl] at H2
 have HOP:=hid (fun m => body.op_any nm (evA T e.args 0) (evA T e.args 1) (w.drewN m) (h64 0).1 (h64 0).2 (h64 1).1 (h64 1).2)
 obtain ⟨x0,hx0⟩:∃ x0,evA T e.args 0 = x0:=⟨_,rfl⟩
 obtain ⟨x1,hx1⟩:∃ x1,evA T e.args 1 = x1:=⟨_,rfl⟩
 have hv0:=q0.val
 have hv1:=q1.val
 rw [hx0] at hans HOP hv0
 rw [hx1] at HOP hv1
 have HEV2:=hid (show k = 13 → evE T e = opE nm x0 x1 (evA T e.args 2) from fun h => by rw [HEV.out h,hx0,hx1])
 obtain ⟨ev,hev⟩:∃ ev,evE T e = ev:=⟨_,rfl⟩
 rw [hev] at hans HEV2
 clear hr hT he hl h64 hbo hq HAR hrr hk hnm q0 q1 hx0 hx1 HEV hev
 by_cases h13:k = 13
 ·have hE:=HEV2.out h13
  rw [if_pos h13] at hans
  subst h13
  cases h0:r 0 with
  | mk v0 a0 =>
   rw [h0] at H0 hans hv0
   simp only at H0 hans hv0
   cases a0 with
   | some a =>
    rw [if_pos (by simp)] at hans
    subst hans
    clear H1 H2 HOP hv0 hv1 hE HEV2 h0
    go_enter Tryz.func194,Tryz.ntmps194
    go_wp2_with (go_at_call 205;refine (H0.out 0).mono ?_;rintro y w2 ⟨rfl,m2,rfl⟩)
    go_ret2
    exact ⟨rfl,_,rfl⟩
   | none =>
    rw [if_neg (by simp)] at hans
    have hvv:=hv0 rfl
    subst hvv
    by_cases hq:nm.toList = [63]
    ·rw [if_pos hq] at hans
     obtain rfl:=body.list_of hq
     by_cases hz:x0 = 0
     ·rw [if_neg (by simp [hz])] at hans
      subst hz
      cases h2:r 2 with
      | mk v2 a2 =>
       rw [h2] at H2 hans
       subst hans
       simp only at H2
       clear H1 HOP hv0 hv1 hE HEV2 h0 h2 hq
       go_enter Tryz.func194,Tryz.ntmps194
       go_wp2_with (first | (go_at_call 205;refine (H0.out 0).mono ?_;rintro y w2 ⟨rfl,m2,rfl⟩;clear H0) | (go_at_call 205;refine (H2.out _).mono ?_;rintro y w3 ⟨rfl,m3,rfl⟩))
       go_ret2
       exact ⟨rfl,_,rfl⟩
     ·rw [if_pos hz] at hans
      have hz1:(x0 != 0) = true:=bne_iff_ne.2 hz
      cases h1:r 1 with
      | mk v1 a1 =>
       rw [h1] at H1 hans
       subst hans
       simp only at H1
       clear H2 HOP hv0 hv1 hE HEV2 h0 h1 hq
       go_enter Tryz.func194,Tryz.ntmps194
       go_wp2_with (first | (go_at_call 205;refine (H0.out 0).mono ?_;rintro y w2 ⟨rfl,m2,rfl⟩;clear H0) | (go_at_call 205;refine (H1.out _).mono ?_;rintro y w3 ⟨rfl,m3,rfl⟩))
       go_ret2
       exact ⟨rfl,_,rfl⟩
    ·rw [if_neg hq] at hans
     have hq1:(nm.toList == [63]) = false:=by simpa using hq
     cases h1:r 1 with
     | mk v1 a1 =>
      rw [h1] at H1 hans hv1
      simp only at H1 hans hv1
      cases a1 with
      | some a =>
       rw [if_pos (by simp)] at hans
       subst hans
       clear H2 HOP hv0 hv1 hE HEV2 h0 h1
       go_enter Tryz.func194,Tryz.ntmps194
       go_wp2_with (first | (go_at_call 205;refine (H0.out 0).mono ?_;rintro y w2 ⟨rfl,m2,rfl⟩;clear H0) | (go_at_call 205;refine (H1.out _).mono ?_;rintro y w3 ⟨rfl,m3,rfl⟩))
       go_ret2
       exact ⟨rfl,_,rfl⟩
      | none =>
       rw [if_neg (by simp)] at hans
       have hvv:=hv1 rfl
       subst hvv
       have hE2:ev = body.opP nm.toList x0 x1:=by rw [hE];unfold opE;rw [if_neg hq]
       rw [← hE2] at HOP
       subst hans
       clear H2 hv0 hv1 hE HEV2 h0 h1 hE2
       go_enter Tryz.func194,Tryz.ntmps194
       go_wp2_with (first | (go_at_call 205;refine (H0.out 0).mono ?_;rintro y w2 ⟨rfl,m2,rfl⟩;clear H0) | (go_at_call 205;refine (H1.out _).mono ?_;rintro y w3 ⟨rfl,m3,rfl⟩) | (go_at_call 206;refine (HOP.out _).mono ?_;rintro y w4 ⟨rfl,m4,rfl⟩))
       go_ret2
       exact ⟨rfl,_,rfl⟩
 ·rw [if_neg h13] at hans
  subst hans
  have e13:(k != 13) = true:=bne_iff_ne.2 h13
  clear H0 H1 H2 HOP hv0 hv1 HEV2
  go_enter Tryz.func194,Tryz.ntmps194
  go_wp2_with (go_at_call 204;refine (HSI.out 0).mono ?_;rintro y w2 ⟨rfl,m2,rfl⟩)
  go_ret2
  exact ⟨rfl,_,rfl⟩
end Go.Proofs.YtpjficjlfibibaaGreatDoor.syn
