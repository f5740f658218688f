/-
  Parts of the proof: OrdP, OrdT, DlP.
-/
import Derived.Lib.SlicesCompact
import Derived.Test.YtgigilkpndhddaaGreatDoorQ05
namespace Go.Proofs.YtgigilkpndhddaaGreatDoor.syn
set_option linter.unusedVariables false
set_option linter.unusedSimpArgs false
set_option linter.unnecessarySimpa false
set_option maxRecDepth 100000
set_option maxHeartbeats 16000000
open Go.RowKit
def swp (l:List Int) (i j:Nat):List Int:=(l.set i (l.getD j 0)).set j (l.getD i 0)
theorem Xl (l:List Int) (i j:Nat):(swp l i j).length=l.length:=by simp[swp]
theorem Js {l:List Int} {i:Nat} (h:i<l.length):l.getD i 0∈l:=by rw[Zf,Ze h];exact Zi h
theorem Qv {α:Type} {l:List α} {i:Nat} {a x:α} (h:x∈l.set i a):x∈l∨x=a:=by
 rcases List.mem_or_eq_of_mem_set h with h|h
 ·exact .inl h
 exact .inr h
theorem zH {Q:Int→Prop} {l:List Int} {i j:Nat} (hi:i<l.length) (hj:j<l.length) (h:∀x∈l,Q x):∀x∈swp l i j,Q x:=by
 intro x hx
 unfold swp at hx
 rcases Qv hx with hx|hx
 ·rcases Qv hx with hx|hx
  ·exact h x hx
  rw[hx];exact h _ (Js hj)
 rw[hx];exact h _ (Js hi)
def upP:Nat→List Int→Nat→List Int
 | 0,l,_=>l
 | n+1,l,j=>if (j-1)/2=j then l else if l.getD j 0<l.getD ((j-1)/2) 0 then upP n (swp l ((j-1)/2) j) ((j-1)/2) else l
theorem ZaW:∀(n:Nat) (l:List Int) (j:Nat),(upP n l j).length=l.length:=by
 intro n
 induction n with
 | zero=>intro l j;rfl
 | succ n ih =>
  intro l j
  rw[upP]
  split
  ·rfl
  split
  ·rw[ih,Xl]
  rfl
theorem ZaT {Q:Int→Prop}:∀(n:Nat) (l:List Int) (j:Nat),j<l.length→(∀x∈l,Q x)→∀x∈upP n l j,Q x:=by
 intro n
 induction n with
 | zero=>intro l j _ h;exact h
 | succ n ih =>
  intro l j hj h
  rw[upP]
  split
  ·exact h
  split
  ·refine ih _ _ (by rw[Xl];omega) (zH oq hj h)
  exact h
def za (l:List Int) (i n:Nat):Nat:=if 2*i+2<n∧l.getD (2*i+2) 0<l.getD (2*i+1) 0 then 2*i+2 else 2*i+1
def Qi:Nat→List Int→Nat→Nat→List Int
 | 0,l,_,_=>l
 | k+1,l,i,n=>if n≤2*i+1 then l else if l.getD (za l i n) 0<l.getD i 0 then Qi k (swp l i (za l i n)) (za l i n) n else l
theorem jj {l:List Int} {i n:Nat} (h:¬n≤2*i+1):za l i n<n∧i<za l i n:=by
 unfold za
 split<;>omega
theorem vD:∀(k:Nat) (l:List Int) (i n:Nat),(Qi k l i n).length=l.length:=by
 intro k
 induction k with
 | zero=>intro l i n;rfl
 | succ k ih =>
  intro l i n
  rw[Qi]
  split
  ·rfl
  split
  ·rw[ih,Xl]
  rfl
theorem vM {Q:Int→Prop}:∀(k:Nat) (l:List Int) (i n:Nat),n≤l.length→(∀x∈l,Q x)→∀x∈Qi k l i n,Q x:=by
 intro k
 induction k with
 | zero=>intro l i n _ h;exact h
 | succ k ih =>
  intro l i n hn h
  rw[Qi]
  split
  ·exact h
  rename_i h1
  have h2:=jj (l:=l) h1
  split
  ·exact ih _ _ _ (by rw[Xl];exact hn) (zH oq oq h)
  exact h
def QR (l:List Int) (x:Int):List Int:=upP (l.length+1) (l++[x]) l.length
def XO (l:List Int):List Int:=Qi l.length (swp l 0 (l.length-1)) 0 (l.length-1)
def X9 (l:List Int):Int × List Int:=((XO l).getD (l.length-1) 0,(XO l).take (l.length-1))
theorem Ep (l:List Int) (x:Int):(QR l x).length=l.length+1:=by unfold QR;rw[ZaW];simp
theorem Q1 (l:List Int):(XO l).length=l.length:=by unfold XO;rw[vD,Xl]
theorem yG (l:List Int):(X9 l).2.length=l.length-1:=by unfold X9;rw[Yb,Q1];omega
theorem Ve {Q:Int→Prop} {l:List Int} {x:Int} (h:∀y∈l,Q y) (hx:Q x):∀y∈QR l x,Q y:=by
 unfold QR
 refine ZaT _ _ _ (by simp) ?_
 intro y hy
 rcases List.mem_append.1 hy with hy|hy
 ·exact h y hy
 rw[List.mem_singleton.1 hy];exact hx
theorem vB {Q:Int→Prop} {l:List Int} (hl:l≠[]) (h:∀y∈l,Q y):∀y∈XO l,Q y:=by
 have h0:0<l.length:=by cases l with
  | nil=>exact absurd rfl hl
  | cons _ _=>simp
 unfold XO
 exact vM _ _ _ _ (by rw[Xl];omega) (zH h0 oq h)
theorem KG {Q:Int→Prop} {l:List Int} (hl:l≠[]) (h:∀y∈l,Q y):Q (X9 l).1∧∀y∈(X9 l).2,Q y:=by
 have h0:0<l.length:=by cases l with
  | nil=>exact absurd rfl hl
  | cons _ _=>simp
 have h1:=vB hl h
 exact⟨h1 _ (Js (by rw[Q1];omega)),fun y hy=>h1 y (List.mem_of_mem_take hy)⟩
def Gn (o:Int × Int × Int):Bool:=decide (o.1=6∨(o.1=5∧¬o.2.1=0))
def yx (f:FD) (i:Int):Option Int:=if (JB f i).isSome=true∧(f.ins.length:Int)≤i then some (i-(f.ins.length:Int)) else none
def QT (f:FD) (a:AD):Option Int:=if a.ops.any Gn=true then none else yx f a.src
def Ed (f:FD) (t:TD):List Int:=t.args.filterMap (QT f)
def YP (f:FD) (t:TD):List Int:=Lib.compact ((Ed f t).mergeSort (fun x y=>decide (x≤y)))
theorem Gt {f:FD} {i:Int} (h:(JB f i).isSome=true) (h2:(f.ins.length:Int)≤i):i-(f.ins.length:Int)<(f.tasks.length:Int):=by
 by_cases h3:i-(f.ins.length:Int)<(f.tasks.length:Int)
 ·exact h3
 rw[j8 oq oq h3] at h
 cases h
theorem ZbV {f:FD} {i x:Int} (h:yx f i=some x):0≤x∧x<(f.tasks.length:Int):=by
 unfold yx at h
 split at h
 ·rename_i h1
  cases h
  exact⟨oq,Gt h1.1 h1.2⟩
 cases h
theorem Zct {f:FD} {t:TD}:∀x∈Ed f t,0≤x∧x<(f.tasks.length:Int):=by
 intro x hx
 obtain⟨a,_,ha⟩:=List.mem_filterMap.1 hx
 unfold QT at ha
 split at ha
 ·cases ha
 exact ZbV ha
structure WS where
 q:List Int
 many:List Int
 rd:List (List Int)
def addR (t:Nat) (r:List (List Int)) (x:Int):List (List Int):=r.set x.toNat (r.getD x.toNat []++[(t:Int)])
def Qx (f:FD) (s:WS) (t:Nat):WS:=match f.tasks[t]? with
 | none=>s
 | some d=>⟨if YP f d=[] then QR s.q (t:Int) else s.q,s.many.set t ((YP f d).length:Int),(YP f d).foldl (addR t) s.rd⟩
def GH (f:FD):WS:=(List.range f.tasks.length).foldl (Qx f) ⟨[],List.replicate f.tasks.length 0,List.replicate f.tasks.length []⟩
def Yw (s:WS) (r:Int):WS:=⟨if s.many.getD r.toNat 0-1=0 then QR s.q r else s.q,s.many.set r.toNat (s.many.getD r.toNat 0-1),s.rd⟩
def YD (s:WS):Int × WS:=((X9 s.q).1,(s.rd.getD (X9 s.q).1.toNat []).foldl Yw ⟨(X9 s.q).2,s.many,s.rd⟩)
def Xa:Nat→WS→List Int→List Int
 | 0,_,l=>l
 | n+1,s,l=>if s.q=[] then l else Xa n (YD s).2 (l++[(YD s).1])
def muW (s:WS):Nat:=s.q.length+s.many.countP (fun x=>decide (0<x))
def ofP (f:FD):Option (List Int):=if (Xa (muW (GH f)) (GH f) []).length<f.tasks.length then none else some (Xa (muW (GH f)) (GH f) [])
structure WOk (T:Nat) (s:WS):Prop where
 q:∀x∈s.q,0≤x∧x<(T:Int)
 many:s.many.length=T
 rd:s.rd.length=T
 rds:∀r∈s.rd,∀x∈r,0≤x∧x<(T:Int)
theorem je {l:List Int} {i:Nat} {x:Int} {p:Int→Bool} (h:i<l.length):(l.set i x).countP p+(if p (l.getD i 0)=true then 1 else 0)=l.countP p+(if p x=true then 1 else 0):=by
 induction l generalizing i with
 | nil=>simp at h
 | cons a l ih =>
  cases i with
  | zero =>
   simp only[List.set_cons_zero,List.countP_cons,List.getD_cons_zero]
   omega
  | succ i =>
   have:=ih (i:=i) (by simpa using h)
   simp only[List.set_cons_succ,List.countP_cons,List.getD_cons_succ]
   omega
theorem ZaD (s:WS) (r:Int):muW (Yw s r)≤muW s:=by
 unfold muW Yw
 simp only
 by_cases hr:r.toNat<s.many.length
 ·have h:=je (x:=s.many.getD r.toNat 0-1) (p:=fun x=>decide (0<x)) hr
  generalize s.many.getD r.toNat 0=m at h ⊢
  simp only[Yj] at h
  by_cases hm:m-1=0
  ·rw[Z2 hm,Ep]
   rw[Z2 oq,Z1 oq] at h
   omega
  rw[Z1 hm]
  by_cases h1:0<m
  ·rw[Z2 h1,Z2 oq] at h
   omega
  rw[Z1 h1,Z1 oq] at h
  omega
 have h0:s.many.getD r.toNat 0=0:=by rw[Zf,Yc oq];rfl
 rw[h0,Z1 oq,List.set_eq_of_length_le oq]
 exact Zc _
theorem GK:∀(l:List Int) (s:WS),muW (l.foldl Yw s)≤muW s
 | [],s=>Zc _
 | r::l,s=>Zm (GK l (Yw s r)) (ZaD s r)
theorem zp {s:WS} (h:s.q≠[]):muW (YD s).2+1≤muW s:=by
 have h1:=GK (s.rd.getD (X9 s.q).1.toNat []) ⟨(X9 s.q).2,s.many,s.rd⟩
 have h2:=yG s.q
 have h3:0<s.q.length:=by cases hq:s.q with
  | nil=>exact absurd hq h
  | cons _ _=>simp
 unfold YD
 simp only
 unfold muW at h1 ⊢
 simp only at h1 ⊢
 omega
theorem yp:∀(n:Nat) (s:WS) (l:List Int),muW s≤n→Xa (n+1) s l=Xa n s l:=by
 intro n
 induction n with
 | zero =>
  intro s l h
  have:s.q=[]:=by cases hq:s.q with
   | nil=>rfl
   | cons a b=>unfold muW at h;rw[hq] at h;simp at h
  (conv=>lhs;rw[Xa,Z2 this]);rfl
 | succ n ih =>
  intro s l h
  conv=>lhs;rw[Xa]
  conv=>rhs;rw[Xa]
  split
  ·rfl
  rename_i hq
  have:=zp hq
  exact ih _ _ oq
theorem yb {s:WS} (l:List Int) (h:s.q≠[]):Xa (muW s) s l=Xa (muW (YD s).2) (YD s).2 (l++[(YD s).1]):=by
 have h1:=zp h
 have key:∀d n,n=muW (YD s).2+d→Xa n (YD s).2 (l++[(YD s).1])=Xa (muW (YD s).2) (YD s).2 (l++[(YD s).1]):=by
  intro d
  induction d with
  | zero=>intro n hn;rw[hn];rfl
  | succ d ih =>
   intro n hn
   rw[show n=(muW (YD s).2+d)+1 by omega,yp _ _ _ oq]
   exact ih _ rfl
 obtain⟨m,hm⟩:∃m,muW s=m+1:=⟨muW s-1,oq⟩
 rw[hm,Xa,Z1 h]
 exact key (m-muW (YD s).2) m oq
theorem jq {s:WS} (n:Nat) (l:List Int) (h:s.q=[]):Xa n s l=l:=by
 cases n with
 | zero=>rfl
 | succ n=>rw[Xa,Z2 h]
theorem gj {T:Nat} {s:WS} (h:WOk T s) (i:Nat):∀x∈s.rd.getD i [],0≤x∧x<(T:Int):=by
 intro x hx
 by_cases hi:i<s.rd.length
 ·rw[Zf,Ze hi] at hx
  exact h.rds _ (Zi hi) x hx
 rw[Zf,Yc oq] at hx
 cases hx
theorem WOk.read {T:Nat} {s:WS} (h:WOk T s) {r:Int} (hr:0≤r∧r<(T:Int)):WOk T (Yw s r):=by
 refine⟨?_,by simp[Yw,h.many],h.rd,h.rds⟩
 unfold Yw
 simp only
 split
 ·exact Ve h.q hr
 exact h.q
theorem WOk.reads {T:Nat}:∀(l:List Int) (s:WS),WOk T s→(∀x∈l,0≤x∧x<(T:Int))→WOk T (l.foldl Yw s)
 | [],s,h,_=>h
 | r::l,s,h,hl=>WOk.reads l _ (h.read (hl r (by simp))) (fun x hx=>hl x (by simp[hx]))
theorem WOk.next {T:Nat} {s:WS} (h:WOk T s) (hq:s.q≠[]):(0≤(YD s).1∧(YD s).1<(T:Int))∧WOk T (YD s).2:=by
 have h1:=KG hq h.q
 exact⟨h1.1,WOk.reads _ _ ⟨h1.2,h.many,h.rd,h.rds⟩ (gj h _)⟩
theorem U3 {d:Array Int} {m:Nat} (hm:m≤d.size):∀x∈Lib.compactUpTo d m,x∈d.toList:=by
 intro x hx
 unfold Lib.compactUpTo at hx
 obtain⟨j,hj,rfl⟩:=Ye.1 hx
 have hj2:=List.mem_range.1 (List.mem_filter.1 hj).1
 have hj3:j<d.size:=oq
 simp only[getElem!_pos d j hj3]
 simp
theorem yR {f:FD} {t:TD}:∀x∈YP f t,0≤x∧x<(f.tasks.length:Int):=by
 intro x hx
 have h1:=U3 (Nat.le_of_eq (by simp)) x hx
 exact Zct x (List.mem_mergeSort.1 h1)
theorem QB (q:List Int):(Lib.compact q).length≤q.length:=by
 unfold Lib.compact Lib.compactUpTo
 rw[Zo]
 exact Zm (List.length_filter_le _ _) (by simp)
theorem WOk.addR {T:Nat} {t:Nat} (ht:t<T) {r:List (List Int)} {x:Int} (hl:r.length=T) (h:∀s∈r,∀y∈s,0≤y∧y<(T:Int)):(addR t r x).length=T∧∀s∈addR t r x,∀y∈s,0≤y∧y<(T:Int):=by
 refine⟨by simp[syn.addR,hl],?_⟩
 intro s hs y hy
 unfold syn.addR at hs
 rcases Qv hs with hs|rfl
 ·exact h s hs y hy
 rcases List.mem_append.1 hy with hy|hy
 ·by_cases hi:x.toNat<r.length
  ·rw[Zf,Ze hi] at hy
   exact h _ (Zi hi) y hy
  rw[Zf,Yc oq] at hy
  cases hy
 rw[List.mem_singleton.1 hy]
 omega
theorem WOk.addRs {T:Nat} {t:Nat} (ht:t<T):∀(l:List Int) (r:List (List Int)),r.length=T→(∀s∈r,∀y∈s,0≤y∧y<(T:Int))→(l.foldl (syn.addR t) r).length=T∧∀s∈l.foldl (syn.addR t) r,∀y∈s,0≤y∧y<(T:Int)
 | [],r,h1,h2=>⟨h1,h2⟩
 | x::l,r,h1,h2=>by
  obtain⟨h3,h4⟩:=WOk.addR (x:=x) ht h1 h2
  exact WOk.addRs ht l _ h3 h4
theorem WOk.newS {f:FD} {s:WS} {t:Nat} (ht:t<f.tasks.length) (h:WOk f.tasks.length s):WOk f.tasks.length (Qx f s t):=by
 unfold Qx
 rw[Ze ht]
 simp only
 obtain⟨h1,h2⟩:=WOk.addRs ht (YP f f.tasks[t]) s.rd h.rd h.rds
 refine⟨?_,by simp[h.many],h1,h2⟩
 simp only
 split
 ·exact Ve h.q oq
 exact h.q
def Xb (f:FD) (n:Nat):WS:=(List.range n).foldl (Qx f) ⟨[],List.replicate f.tasks.length 0,List.replicate f.tasks.length []⟩
theorem QZ (f:FD) (n:Nat):Xb f (n+1)=Qx f (Xb f n) n:=by
 unfold Xb
 rw[List.range_succ,List.foldl_append]
 rfl
theorem Kk (f:FD):∀n,n≤f.tasks.length→WOk f.tasks.length (Xb f n)
 | 0,_=>⟨by simp[Xb],by simp[Xb],by simp[Xb],by
   intro r hr x hx
   have:=List.eq_of_mem_replicate (show r∈List.replicate f.tasks.length [] from hr)
   subst this
   cases hx⟩
 | n+1,h=>by
  rw[QZ]
  exact WOk.newS oq (Kk f n oq)
theorem Q9 {f:FD} {s:WS} {t:Nat} {d:TD} (h:f.tasks[t]?=some d):Qx f s t=⟨if YP f d=[] then QR s.q (t:Int) else s.q,s.many.set t ((YP f d).length:Int),(YP f d).foldl (addR t) s.rd⟩:=by
 unfold Qx
 rw[h]
theorem UP (f:FD):∀n,(Xb f n).q.length≤n
 | 0=>by simp[Xb]
 | n+1=>by
  have ih:=UP f n
  rw[QZ]
  cases h:f.tasks[n]? with
  | none=>unfold Qx;rw[h];simp only;omega
  | some d =>
   rw[Q9 h]
   simp only
   split
   ·rw[Ep];omega
   omega
theorem K4 {l:List Int} {i j:Nat} (hi:i<l.length) (hj:j<l.length):(swp l i j).Perm l:=by
 have h:((l.set i l[j]).set j l[i]).Perm l:=List.set_set_perm hi hj
 unfold swp
 rw[Zf,Zf,Ze hi,Ze hj]
 exact h
theorem eE:∀(n:Nat) (l:List Int) (j:Nat),j<l.length→(upP n l j).Perm l:=by
 intro n
 induction n with
 | zero=>intro l j _;exact List.Perm.refl _
 | succ n ih =>
  intro l j hj
  rw[upP]
  split
  ·exact List.Perm.refl _
  split
  ·exact(ih _ _ (by rw[Xl];omega)).trans (K4 oq hj)
  exact List.Perm.refl _
theorem qZ:∀(k:Nat) (l:List Int) (i n:Nat),n≤l.length→(Qi k l i n).Perm l:=by
 intro k
 induction k with
 | zero=>intro l i n _;exact List.Perm.refl _
 | succ k ih =>
  intro l i n hn
  rw[Qi]
  split
  ·exact List.Perm.refl _
  rename_i h1
  have h2:=jj (l:=l) h1
  split
  ·exact(ih _ _ _ (by rw[Xl];exact hn)).trans (K4 oq oq)
  exact List.Perm.refl _
theorem JE (l:List Int) (x:Int):(QR l x).Perm (x::l):=by
 unfold QR
 exact(eE _ _ _ (by simp)).trans (List.perm_append_singleton _ _)
theorem vS {l:List Int} (hl:l≠[]):((X9 l).1::(X9 l).2).Perm l:=by
 have h0:0<l.length:=by cases l with
  | nil=>exact absurd rfl hl
  | cons _ _=>simp
 have h1:(XO l).Perm l:=by
  unfold XO
  exact(qZ _ _ _ _ (by rw[Xl];omega)).trans (K4 h0 oq)
 refine List.Perm.trans ?_ h1
 have hs:=Q1 l
 have hi:l.length-1<(XO l).length:=oq
 have e:XO l=(X9 l).2++[(X9 l).1]:=by
  unfold X9
  simp only
  rw[Zf,Ze hi]
  have:=Zv hi
  rw[show l.length-1+1=(XO l).length by omega,ZS] at this
  exact this
 rw[e]
 exact(List.perm_append_singleton _ _).symm
def Y1 (f:FD) (t:Nat):List Int:=match f.tasks[t]? with
 | none=>[]
 | some d=>YP f d
theorem EG {f:FD} {t:Nat} {d:TD} (h:f.tasks[t]?=some d):Y1 f t=YP f d:=by unfold Y1;rw[h]
theorem Gx {α:Type} (l:List α) (i j:Nat) (a z:α) (hi:i<l.length):(l.set i a).getD j z=if i=j then a else l.getD j z:=by
 rw[Zf,Zf]
 by_cases h:i=j
 ·subst h;rw[Z2 rfl,List.getElem?_set_self hi];rfl
 rw[Z1 h,List.getElem?_set_ne h]
theorem yz {T:Nat}:∀(R:List Int) (s:WS),WOk T s→(∀x∈R,0≤x∧x<(T:Int))→(∀t:Nat,t<T→((R.count (t:Int):Nat):Int)≤s.many.getD t 0) →
  (R.foldl Yw s).rd=s.rd∧(∀t:Nat,t<T→(R.foldl Yw s).many.getD t 0=s.many.getD t 0-((R.count (t:Int):Nat):Int)) ∧
  (∀t:Nat,t<T→(R.foldl Yw s).q.count (t:Int)=s.q.count (t:Int)+(if 0<R.count (t:Int)∧s.many.getD t 0=((R.count (t:Int):Nat):Int) then 1 else 0))
 | [],s,_,_,_=>⟨rfl,fun t _=>by simp,fun t _=>by simp⟩
 | r::R,s,hs,hR,hc=>by
  have hr:=hR r (by simp)
  obtain⟨k,rfl⟩:∃k:Nat,r=(k:Int):=⟨r.toNat,oq⟩
  have hk:k<T:=oq
  have hm:=hs.many
  have hck:=hc k hk
  simp only[List.count_cons_self] at hck
  have hmany:∀t:Nat,t<T→(Yw s (k:Int)).many.getD t 0=if k=t then s.many.getD k 0-1 else s.many.getD t 0:=fun t ht=>by
   unfold Yw
   simp only[ZQ]
   exact Gx _ _ _ _ _ oq
  have hcnt:∀t:Nat,((k:Int)::R).count (t:Int)=R.count (t:Int)+(if k=t then 1 else 0):=fun t=>by
   rw[List.count_cons]
   by_cases h:k=t
   ·subst h;simp
   rw[Z1 h,Z1]
   intro h2
   have:=eq_of_beq h2
   omega
  obtain⟨h1,h2,h3⟩:=yz R (Yw s (k:Int)) (hs.read hr) (fun x hx=>hR x (by simp[hx])) (fun t ht=>by
   have:=hc t ht
   rw[hcnt t] at this
   rw[hmany t ht]
   by_cases h:k=t
   ·subst h;rw[Z2 rfl] at this ⊢;omega
   rw[Z1 h] at this ⊢;exact this)
  refine⟨h1,fun t ht=>?_,fun t ht=>?_⟩
  ·show(R.foldl Yw (Yw s (k:Int))).many.getD t 0=_
   rw[h2 t ht,hmany t ht,hcnt t]
   by_cases h:k=t
   ·subst h;rw[Z2 rfl,Z2 rfl];omega
   rw[Z1 h,Z1 h];omega
  show(R.foldl Yw (Yw s (k:Int))).q.count (t:Int)=_
  rw[h3 t ht,hmany t ht,hcnt t]
  have hq:(Yw s (k:Int)).q=if s.many.getD k 0-1=0 then QR s.q (k:Int) else s.q:=rfl
  rw[hq]
  by_cases h:k=t
  ·subst h
   simp only[Z2]
   by_cases h0:s.many.getD k 0-1=0
   ·rw[Z2 h0,(JE _ _).count_eq,List.count_cons_self,Z1 oq,Z2 oq]
   rw[Z1 h0]
   by_cases h4:0<R.count (k:Int)∧s.many.getD k 0-1=((R.count (k:Int):Nat):Int)
   ·rw[Z2 h4,Z2 oq]
   rw[Z1 h4,Z1 oq]
  simp only[Z1 h,Nat.add_zero]
  have hne:¬((k:Int) == (t:Int))=true:=fun h2=>by have:=eq_of_beq h2;omega
  by_cases h0:s.many.getD k 0-1=0
  ·rw[Z2 h0,(JE _ _).count_eq,List.count_cons,Z1 hne];rfl
  rw[Z1 h0]
structure vP (f:FD) (s:WS) (l:List Int):Prop where
 ok:WOk f.tasks.length s
 rd:∀x t:Nat,x<f.tasks.length→t<f.tasks.length→(s.rd.getD x []).count (t:Int)=(Y1 f t).count (x:Int)
 many:∀t:Nat,t<f.tasks.length→s.many.getD t 0=(((Y1 f t).countP (fun y=>decide (y∉l)):Nat):Int)
 inn:∀t:Nat,t<f.tasks.length→(((t:Int)∈s.q∨(t:Int)∈l)↔∀y∈Y1 f t,y∈l)
 nd:∀t:Nat,t<f.tasks.length→s.q.count (t:Int)+l.count (t:Int)≤1
 rng:∀x∈l,0≤x∧x<(f.tasks.length:Int)
 top:∀(i:Nat) (x:Int),l[i]?=some x→∀y∈Y1 f x.toNat,y∈l.take i
theorem countP_split (h:List Int) (l:List Int) (x:Int) (hx:x∉l):h.countP (fun y=>decide (y∉l))=h.countP (fun y=>decide (y∉l++[x]))+h.count x:=by
 induction h with
 | nil=>rfl
 | cons a h ih =>
  rw[List.countP_cons,List.countP_cons,List.count_cons,ih]
  by_cases ha:a=x
  ·subst ha
   simp[hx]
   omega
  by_cases hl:a∈l
  ·simp[hl,ha]
  simp[hl,ha]
  omega
theorem vP.next {f:FD} {s:WS} {l:List Int} (h:vP f s l) (hq:s.q≠[]):vP f (YD s).2 (l++[(YD s).1]):=by
 have hp:=vS hq
 have hn:=h.ok.next hq
 have hx0:(YD s).1=(X9 s.q).1:=rfl
 have hs':(YD s).2=(s.rd.getD (X9 s.q).1.toNat []).foldl Yw ⟨(X9 s.q).2,s.many,s.rd⟩:=rfl
 obtain⟨hxr,hok⟩:=hn
 rw[hx0] at hxr ⊢
 rw[hs'] at hok ⊢
 have hall:=KG hq h.ok.q
 obtain⟨x,hx⟩:∃x,(X9 s.q).1=x:=⟨_,rfl⟩
 obtain⟨q1,hq1⟩:∃q1,(X9 s.q).2=q1:=⟨_,rfl⟩
 rw[hx,hq1] at hp hall
 rw[hx] at hxr hok ⊢
 rw[hq1] at hok ⊢
 obtain⟨k,rfl⟩:∃k:Nat,x=(k:Int):=⟨x.toNat,oq⟩
 have hk:k<f.tasks.length:=oq
 simp only[ZQ] at hok ⊢
 have hcq:∀t:Nat,s.q.count (t:Int)=q1.count (t:Int)+(if k=t then 1 else 0):=fun t=>by
  rw[←hp.count_eq,List.count_cons]
  by_cases e:k=t
  ·subst e;simp
  rw[Z1 e,Z1]
  intro h2
  have:=eq_of_beq h2
  omega
 have hkl:(k:Int)∉l:=fun hm=>by
  have:=h.nd k hk
  rw[hcq k,Z2 rfl] at this
  have:=List.count_pos_iff.2 hm
  omega
 have hmem:∀t:Nat,((t:Int)∈s.q↔(t:Int)∈q1∨t=k):=fun t=>by
  rw[←hp.mem_iff,ZR]
  constructor
  ·rintro (h1|h1)
   ·exact .inr oq
   exact .inl h1
  rintro (h1|h1)
  ·exact .inr h1
  exact .inl oq
 have hRin:=gj h.ok k
 have hle:∀t:Nat,t<f.tasks.length→(((s.rd.getD k []).count (t:Int):Nat):Int)≤s.many.getD t 0:=fun t ht=>by
  rw[h.rd k t hk ht,h.many t ht,countP_split _ l (k:Int) hkl]
  omega
 obtain⟨r1,r2,r3⟩:=yz (T:=f.tasks.length) (s.rd.getD k []) ⟨q1,s.many,s.rd⟩ ⟨hall.2,h.ok.many,h.ok.rd,h.ok.rds⟩ hRin hle
 have hmany:∀t:Nat,t<f.tasks.length→((s.rd.getD k []).foldl Yw ⟨q1,s.many,s.rd⟩).many.getD t 0=(((Y1 f t).countP (fun y=>decide (y∉l++[(k:Int)])):Nat):Int):=fun t ht=>by
  rw[r2 t ht,h.rd k t hk ht]
  show s.many.getD t 0-_=_
  rw[h.many t ht,countP_split _ l (k:Int) hkl]
  omega
 have hz:∀t:Nat,t<f.tasks.length→(((Y1 f t).countP (fun y=>decide (y∉l++[(k:Int)]))=0)↔∀y∈Y1 f t,y∈l++[(k:Int)]):=fun t ht=>by
  rw[List.countP_eq_zero]
  simp only[Yj,Decidable.not_not]
 have hz0:∀t:Nat,t<f.tasks.length→(((Y1 f t).countP (fun y=>decide (y∉l))=0)↔∀y∈Y1 f t,y∈l):=fun t ht=>by
  rw[List.countP_eq_zero]
  simp only[Yj,Decidable.not_not]
 refine⟨hok,fun x t hx ht=>by rw[r1];exact h.rd x t hx ht,hmany,fun t ht=>?_,fun t ht=>?_,?_,?_⟩
 ·have hsp:=countP_split (Y1 f t) l (k:Int) hkl
  have hc3:=r3 t ht
  have hrd:=h.rd k t hk ht
  have hmt:=h.many t ht
  have hin:=h.inn t ht
  rw[hmem t] at hin
  rw[←hz t ht]
  constructor
  ·rintro (h1|h1)
   ·have h1:=List.count_pos_iff.2 h1
    rw[hc3] at h1
    by_cases hcnd:0<(s.rd.getD k []).count (t:Int)∧s.many.getD t 0=(((s.rd.getD k []).count (t:Int):Nat):Int)
    ·have:=hcnd.2
     rw[hrd,hmt] at this
     omega
    rw[show(⟨q1,s.many,s.rd⟩:WS).many=s.many from rfl,Z1 hcnd] at h1
    have:=(hz0 t ht).2 (hin.1 (.inl (.inl (List.count_pos_iff.1 (by simpa using h1)))))
    omega
   rw[List.mem_append,List.mem_singleton] at h1
   have:=(hz0 t ht).2 (hin.1 (by
    rcases h1 with h1|h1
    ·exact .inr h1
    exact .inl (.inr oq)))
   omega
  intro h0
  by_cases hc0:(Y1 f t).countP (fun y=>decide (y∉l))=0
  ·rcases hin.2 ((hz0 t ht).1 hc0) with (h1|h1)|h1
   ·refine .inl (List.count_pos_iff.1 ?_)
    rw[hc3]
    have:=List.count_pos_iff.2 h1
    show 0<q1.count (t:Int)+_
    omega
   ·exact .inr (by rw[h1];simp)
   exact .inr (by simp[h1])
  refine .inl (List.count_pos_iff.1 ?_)
  rw[hc3,Z2]
  ·omega
  show _∧s.many.getD t 0=_
  rw[hmt,hrd]
  omega
 ·rw[r3 t ht,List.count_append]
  have h1:=h.nd t ht
  rw[hcq t] at h1
  have hrd:=h.rd k t hk ht
  have hmt:=h.many t ht
  have hsp:=countP_split (Y1 f t) l (k:Int) hkl
  show q1.count (t:Int)+_+_≤1
  have hsing:List.count (t:Int) [(k:Int)]=if k=t then 1 else 0:=by
   rw[List.count_singleton]
   by_cases e:k=t
   ·subst e;simp
   rw[Z1 e,Z1]
   intro h2
   have:=eq_of_beq h2
   omega
  rw[hsing]
  by_cases hcnd:0<(s.rd.getD k []).count (t:Int)∧(⟨q1,s.many,s.rd⟩:WS).many.getD t 0=(((s.rd.getD k []).count (t:Int):Nat):Int)
  ·rw[Z2 hcnd]
   have h2:s.many.getD t 0=(((s.rd.getD k []).count (t:Int):Nat):Int):=hcnd.2
   have hpos:=hcnd.1
   have hno:¬∀y∈Y1 f t,y∈l:=fun hc=>by
    have:=(hz0 t ht).2 hc
    rw[hmt] at h2
    omega
   have hin:=h.inn t ht
   have h3:¬(t:Int)∈s.q:=fun hm=>hno (hin.1 (.inl hm))
   have h4:¬(t:Int)∈l:=fun hm=>hno (hin.1 (.inr hm))
   have h5:=List.count_eq_zero.2 h3
   have h6:=List.count_eq_zero.2 h4
   rw[hcq t] at h5
   omega
  rw[Z1 hcnd]
  omega
 ·intro y hy
  rcases List.mem_append.1 hy with hy|hy
  ·exact h.rng y hy
  rw[List.mem_singleton.1 hy];omega
 intro i y hi z hz2
 by_cases hil:i<l.length
 ·rw[List.getElem?_append_left hil] at hi
  rw[List.take_append_of_le_length oq]
  exact h.top i y hi z hz2
 have hlen:=(ZA.1 hi).1
 rw[Zx,List.length_singleton] at hlen
 obtain rfl:i=l.length:=oq
 rw[List.getElem?_append_right (Zc _),Nat.sub_self] at hi
 injection hi with hi
 subst hi
 rw[List.take_left]
 exact(h.inn k hk).1 (.inl ((hmem k).2 (.inr rfl))) z hz2
theorem UZ {T:Nat} {t:Nat} (ht:t<T):∀(H:List Int) (r:List (List Int)),r.length=T→(∀x∈H,0≤x∧x<(T:Int))→(H.foldl (addR t) r).length=T∧∀x u:Nat,x<T→((H.foldl (addR t) r).getD x []).count (u:Int)=(r.getD x []).count (u:Int)+(if u=t then H.count (x:Int) else 0)
 | [],r,hr,_=>⟨hr,fun x u _=>by simp⟩
 | a::H,r,hr,hH=>by
  have ha:=hH a (by simp)
  obtain⟨k,rfl⟩:∃k:Nat,a=(k:Int):=⟨a.toNat,oq⟩
  have hl:(addR t r (k:Int)).length=T:=by unfold addR;rw[List.length_set];exact hr
  obtain⟨h1,h2⟩:=UZ ht H (addR t r (k:Int)) hl (fun x hx=>hH x (by simp[hx]))
  refine⟨h1,fun x u hx=>?_⟩
  show((H.foldl (addR t) (addR t r (k:Int))).getD x []).count (u:Int)=_
  rw[h2 x u hx]
  have e:(addR t r (k:Int)).getD x []=if k=x then r.getD k []++[(t:Int)] else r.getD x []:=by
   unfold addR
   simp only[ZQ]
   exact Gx _ _ _ _ _ oq
  rw[e,List.count_cons]
  by_cases hkx:k=x
  ·subst hkx
   rw[Z2 rfl,List.count_append,List.count_singleton]
   by_cases hu:u=t
   ·subst hu;simp;omega
   rw[Z1 hu,Z1 hu,Z1]
   intro h3
   have:=eq_of_beq h3
   omega
  rw[Z1 hkx]
  have hne:¬((k:Int) == (x:Int))=true:=fun h3=>by have:=eq_of_beq h3;omega
  rw[Z1 hne,Nat.add_zero]
theorem xD (f:FD):∀n,n≤f.tasks.length →
  (∀x t:Nat,x<f.tasks.length→t<f.tasks.length→((Xb f n).rd.getD x []).count (t:Int)=if t<n then (Y1 f t).count (x:Int) else 0) ∧
  (∀t:Nat,t<f.tasks.length→(Xb f n).many.getD t 0=if t<n then ((Y1 f t).length:Int) else 0) ∧
  (∀t:Nat,t<f.tasks.length→(Xb f n).q.count (t:Int)=if t<n∧Y1 f t=[] then 1 else 0)
 | 0,_=>by
  refine⟨fun x t hx _=>?_,fun t ht=>?_,fun t _=>by simp[Xb]⟩
  ·have:((Xb f 0).rd.getD x [])=[]:=by simp[Xb,Zf,List.getElem?_replicate,hx]
   rw[this];simp
  simp[Xb,Zf,List.getElem?_replicate,ht]
 | n+1,h=>by
  obtain⟨h1,h2,h3⟩:=xD f n oq
  have hn:n<f.tasks.length:=oq
  have hok:=Kk f n oq
  have hd:f.tasks[n]?=some f.tasks[n]:=Ze hn
  have hg:=EG hd
  rw[QZ,Q9 hd]
  obtain⟨a1,a2⟩:=UZ hn (YP f f.tasks[n]) (Xb f n).rd hok.rd (fun x hx=>yR x hx)
  refine⟨fun x t hx ht=>?_,fun t ht=>?_,fun t ht=>?_⟩
  ·show(((YP f f.tasks[n]).foldl (addR n) (Xb f n).rd).getD x []).count (t:Int)=_
   rw[a2 x t hx,h1 x t hx ht]
   by_cases e:t=n
   ·subst e;rw[Z1 oq,Z2 rfl,Z2 oq,hg];omega
   rw[Z1 e]
   by_cases hlt:t<n
   ·rw[Z2 hlt,Z2 oq];rfl
   rw[Z1 hlt,Z1 oq]
  ·show((Xb f n).many.set n ((YP f f.tasks[n]).length:Int)).getD t 0=_
   rw[Gx _ _ _ _ _ (by rw[hok.many];exact hn)]
   by_cases e:n=t
   ·subst e;rw[Z2 rfl,Z2 oq,hg]
   rw[Z1 e,h2 t ht]
   by_cases hlt:t<n
   ·rw[Z2 hlt,Z2 oq]
   rw[Z1 hlt,Z1 oq]
  show(if YP f f.tasks[n]=[] then QR (Xb f n).q (n:Int) else (Xb f n).q).count (t:Int)=_
  by_cases e:t=n
  ·subst e
   have h3t:=h3 t ht
   rw[Z1 oq] at h3t
   by_cases he:YP f f.tasks[t]=[]
   ·rw[Z2 he,(JE _ _).count_eq,List.count_cons_self,h3t,Z2 ⟨oq,by rw[hg];exact he⟩]
   rw[Z1 he,h3t,Z1 (fun hc=>he (by rw[←hg];exact hc.2))]
  have hne:¬((n:Int) == (t:Int))=true:=fun h4=>by have:=eq_of_beq h4;omega
  have e2:(if YP f f.tasks[n]=[] then QR (Xb f n).q (n:Int) else (Xb f n).q).count (t:Int)=(Xb f n).q.count (t:Int):=by
   split
   ·rw[(JE _ _).count_eq,List.count_cons,Z1 hne,Nat.add_zero]
   rfl
  rw[e2,h3 t ht]
  by_cases hc:t<n∧Y1 f t=[]
  ·rw[Z2 hc,Z2 ⟨oq,hc.2⟩]
  rw[Z1 hc,Z1 (fun h5=>hc ⟨oq,h5.2⟩)]
theorem Zbr (f:FD):GH f=Xb f f.tasks.length:=rfl
theorem Zae (f:FD):vP f (GH f) []:=by
 obtain⟨h1,h2,h3⟩:=xD f _ (Zc _)
 rw[Zbr]
 have hok:=Kk f f.tasks.length (Zc _)
 refine⟨hok,fun x t hx ht=>by rw[h1 x t hx ht,Z2 ht],fun t ht=>?_,fun t ht=>?_,fun t ht=>?_,(fun x hx=>by cases hx),(fun i x hi=>by simp at hi)⟩
 ·rw[h2 t ht,Z2 ht]
  simp
 ·have h4:=h3 t ht
  constructor
  ·rintro (h5|h5)
   ·have:=List.count_pos_iff.2 h5
    rw[h4] at this
    by_cases hc:t<f.tasks.length∧Y1 f t=[]
    ·rw[hc.2];intro y hy;cases hy
    rw[Z1 hc] at this;omega
   cases h5
  intro h5
  have he:Y1 f t=[]:=by
   cases hh:Y1 f t with
   | nil=>rfl
   | cons a _=>rw[hh] at h5;exact absurd (h5 a (by simp)) (by simp)
  rw[Z2 ⟨ht,he⟩] at h4
  exact .inl (List.count_pos_iff.1 oq)
 rw[h3 t ht]
 simp only[List.count_nil,Nat.add_zero]
 split<;>omega
theorem Gr {f:FD}:∀(n:Nat) (s:WS) (l:List Int),vP f s l→∃s',vP f s' (Xa n s l)
 | 0,s,l,h=>⟨s,h⟩
 | n+1,s,l,h=>by
  rw[Xa]
  split
  ·exact⟨s,h⟩
  rename_i hq
  exact Gr n _ _ (h.next hq)
structure YN (f:FD) (l:List Int):Prop where
 rng:∀x∈l,0≤x∧x<(f.tasks.length:Int)
 nd:l.Nodup
 all:∀t:Nat,t<f.tasks.length→(t:Int)∈l
 top:∀(i:Nat) (x:Int),l[i]?=some x→∀y∈Y1 f x.toNat,y∈l.take i
theorem yw {f:FD} {l:List Int} (h:ofP f=some l):YN f l:=by
 unfold ofP at h
 split at h
 ·cases h
 rename_i hlen
 cases h
 obtain⟨s',hI⟩:=Gr (f:=f) (muW (GH f)) (GH f) [] (Zae f)
 obtain⟨l,hl⟩:∃l,Xa (muW (GH f)) (GH f) []=l:=⟨_,rfl⟩
 rw[hl] at hI hlen ⊢
 have hnd:l.Nodup:=by
  rw[List.nodup_iff_count]
  intro a
  by_cases ha:a∈l
  ·have:=hI.rng a ha
   obtain⟨k,rfl⟩:∃k:Nat,a=(k:Int):=⟨a.toNat,oq⟩
   have:=hI.nd k oq
   omega
  rw[List.count_eq_zero.2 ha];omega
 refine⟨hI.rng,hnd,fun t ht=>?_,hI.top⟩
 apply Yh
 intro hno
 have h1:((t:Int)::l).Nodup:=List.nodup_cons.2 ⟨hno,hnd⟩
 have h2:=List.Nodup.length_le_of_subset (l₂:=(List.range f.tasks.length).map (fun k:Nat=>(k:Int))) h1 (by
  intro y hy
  rcases ZR.1 hy with rfl|hy
  ·exact Ye.2 ⟨t,List.mem_range.2 ht,rfl⟩
  have:=hI.rng y hy
  exact Ye.2 ⟨y.toNat,List.mem_range.2 oq,oq⟩)
 rw[Zp,Zo,List.length_range] at h2
 omega
def JD (per ph u:Int):Nat:=if u≤ph then 0 else ((u-1-ph)/per).toNat+1
theorem Qz {per ph u:Int} (hp:1≤per) (n:Nat):n<JD per ph u↔ph+(n:Int)*per<u:=by
 unfold JD
 have h0:0≤(n:Int)*per:=Int.mul_nonneg oq oq
 split
 ·constructor
  ·intro h;omega
  intro h;omega
 have h1:=Int.ediv_nonneg (show 0≤u-1-ph by omega) (show 0≤per by omega)
 have h2:=Int.le_ediv_iff_mul_le (a:=(n:Int)) (b:=u-1-ph) (show 0<per by omega)
 constructor
 ·intro h
  have:=h2.1 oq
  omega
 intro h
 have:=h2.2 oq
 omega
def tkO (f:FD) (t:Nat):TD:=f.tasks.getD t ⟨0,1,0,[]⟩
theorem VL {f:FD} {t:Nat} (h:t<f.tasks.length):f.tasks[t]=tkO f t:=by unfold tkO;rw[Zf,Ze h];rfl
def Ql (f:FD) (b:Nat × Nat):Int:=(tkO f b.1).ph+(b.2:Int)*(tkO f b.1).per
def Qg (f:FD) (u:Int) (t:Nat):Nat:=JD (tkO f t).per (tkO f t).ph u
def Y9 (t n:Nat):List (Nat × Nat):=(List.range n).map (fun k=>(t,k))
def J0 (f:FD) (order:List Int) (u:Int):List (Nat × Nat):=order.flatMap (fun t=>Y9 t.toNat (Qg f u t.toNat))
def RJ (f:FD) (order:List Int) (a b:Nat × Nat):Prop:=Ql f a<Ql f b∨(Ql f a=Ql f b∧order.idxOf (a.1:Int)<order.idxOf (b.1:Int))
theorem RJ.trans {f:FD} {order:List Int} {a b c:Nat × Nat} (h:RJ f order a b) (k:RJ f order b c):RJ f order a c:=by
 unfold RJ at *
 omega
theorem RJ.asymm {f:FD} {order:List Int} {a b:Nat × Nat} (h:RJ f order a b) (k:RJ f order b a):False:=by
 unfold RJ at *
 omega
structure Xv (f:FD) (order:List Int) (u:Int) (B:List (Nat × Nat)):Prop where
 perm:(J0 f order u).Perm B
 srt:B.Pairwise (RJ f order)
theorem Zah {f:FD} {order:List Int} {u:Int} (h:YN f order) {t n:Nat}:(t,n)∈J0 f order u↔t<f.tasks.length∧n<Qg f u t:=by
 unfold J0 Y9
 simp only[List.mem_flatMap,Ye,List.mem_range,Z4]
 constructor
 ·rintro⟨x,hx,k,hk,h1,h2⟩
  have:=h.rng x hx
  subst h1
  subst h2
  exact⟨oq,hk⟩
 rintro⟨h1,h2⟩
 exact⟨(t:Int),h.all t h1,n,h2,rfl,rfl⟩
theorem Xv.mem {f:FD} {order:List Int} {u:Int} {B:List (Nat × Nat)} (h:Xv f order u B) (ho:YN f order) {t n:Nat}:(t,n)∈B↔t<f.tasks.length∧n<Qg f u t:=by
 rw[←h.perm.mem_iff]
 exact Zah ho
theorem yS (t s:Nat) (n:Nat):(Y9 s n).filter (fun b=>decide (b.1=t))=if s=t then Y9 s n else []:=by
 unfold Y9
 split
 ·rename_i h
  rw[List.filter_eq_self]
  intro b hb
  obtain⟨k,_,rfl⟩:=Ye.1 hb
  exact Z0 h
 rename_i h
 rw[List.filter_eq_nil_iff]
 intro b hb
 obtain⟨k,_,rfl⟩:=Ye.1 hb
 simpa using h
theorem UX (f:FD) (u:Int) (t:Nat):∀(order:List Int),(∀x∈order,0≤x)→order.Nodup→(order.flatMap (fun s=>Y9 s.toNat (Qg f u s.toNat))).filter (fun b=>decide (b.1=t))=if (t:Int)∈order then Y9 t (Qg f u t) else []
 | [],_,_=>rfl
 | a::l,h0,hn=>by
  have h1:=h0 a (by simp)
  obtain⟨k,rfl⟩:∃k:Nat,a=(k:Int):=⟨a.toNat,oq⟩
  rw[List.flatMap_cons,List.filter_append,yS,UX f u t l (fun x hx=>h0 x (by simp[hx])) (List.nodup_cons.1 hn).2]
  have h2:=(List.nodup_cons.1 hn).1
  simp only[ZQ]
  by_cases e:k=t
  ·subst e
   rw[Z2 rfl,Z1 h2,Z2 (by simp),List.append_nil]
  rw[Z1 e,ZM]
  have:((t:Int)∈((k:Int)::l))↔(t:Int)∈l:=by
   rw[ZR]
   constructor
   ·rintro (h|h)
    ·omega
    exact h
   exact .inr
  simp only[this]
theorem Xv.task {f:FD} {order:List Int} {u:Int} {B:List (Nat × Nat)} (h:Xv f order u B) (ho:YN f order) {t:Nat} (ht:t<f.tasks.length) (hp:1≤(tkO f t).per):B.filter (fun b=>decide (b.1=t))=Y9 t (Qg f u t):=by
 have h1:=h.perm.filter (fun b=>decide (b.1=t))
 rw[show J0 f order u=order.flatMap (fun s=>Y9 s.toNat (Qg f u s.toNat)) from rfl,UX f u t order (fun x hx=>(ho.rng x hx).1) ho.nd,Z2 (ho.all t ht)] at h1
 have h2:(B.filter (fun b=>decide (b.1=t))).Pairwise (fun a b=>a.2<b.2):=by
  have h3:=h.srt.filter (fun b=>decide (b.1=t))
  rw[List.pairwise_iff_getElem] at h3 ⊢
  intro i j hi hj hij
  have h4:=h3 i j hi hj hij
  have e1:=Yi (List.mem_filter.1 (Zi hi)).2
  have e2:=Yi (List.mem_filter.1 (Zi hj)).2
  unfold RJ Ql at h4
  rw[e1,e2] at h4
  rcases h4 with h4|h4
  ·apply Yh
   intro hc
   have:=Int.mul_le_mul_of_nonneg_right (show(((B.filter (fun b=>decide (b.1=t)))[j].2:Nat):Int)≤(((B.filter (fun b=>decide (b.1=t)))[i].2:Nat):Int) by omega) (show 0≤(tkO f t).per by omega)
   omega
  omega
 have h5:(Y9 t (Qg f u t)).Pairwise (fun a b=>a.2<b.2):=by
  unfold Y9
  rw[List.pairwise_map]
  exact List.pairwise_lt_range
 exact(List.Perm.eq_of_pairwise (le:=fun a b=>a.2<b.2) (fun a b _ _ h6 h7=>oq) h5 h2 h1).symm
def plP (B:List (Nat × Nat)) (i t:Nat):List Int:=((List.range i).filter (fun k=>decide ((B.getD k (0,0)).1=t))).map (fun k:Nat=>(k:Int))
theorem ew (B:List (Nat × Nat)) (i t:Nat):plP B (i+1) t=plP B i t++(if (B.getD i (0,0)).1=t then [(i:Int)] else []):=by
 unfold plP
 rw[List.range_succ,List.filter_append,ZU]
 congr 1
 by_cases h:(B.getD i (0,0)).1=t
 ·rw[Z2 h,List.filter_cons_of_pos (by exact Z0 h)];rfl
 rw[Z1 h,List.filter_cons_of_neg (by simpa using h)];rfl
theorem xY {α:Type} (l:List α) (z:α):(List.range l.length).map (fun k=>l.getD k z)=l:=by
 apply List.ext_getElem
 ·simp
 intro i h1 h2
 simp[Zf,h2]
theorem Xv.place {f:FD} {order:List Int} {u:Int} {B:List (Nat × Nat)} (h:Xv f order u B) (ho:YN f order) {t:Nat} (ht:t<f.tasks.length) (hp:1≤(tkO f t).per) :
  (plP B B.length t).length=Qg f u t∧∀n,n<Qg f u t→∃p:Nat,(plP B B.length t)[n]?=some (p:Int)∧B[p]?=some (t,n):=by
 have h1:=h.task ho ht hp
 obtain⟨Q,hQ⟩:∃Q,(List.range B.length).filter (fun k=>decide ((B.getD k (0,0)).1=t))=Q:=⟨_,rfl⟩
 have h2:Q.map (fun k=>B.getD k (0,0))=Y9 t (Qg f u t):=by
  rw[←h1,←hQ]
  conv=>rhs;rw[←xY B (0,0)]
  rw[List.filter_map]
  simp
  rfl
 have hl:Q.length=Qg f u t:=by
  have:=Z3 List.length h2
  simpa [Y9] using this
 unfold plP
 rw[hQ]
 refine⟨by rw[Zo];exact hl,fun n hn=>?_⟩
 have hq:n<Q.length:=oq
 refine⟨Q[n],by rw[List.getElem?_map,Ze hq];rfl,?_⟩
 have h3:(Q.map (fun k=>B.getD k (0,0)))[n]?=some (t,n):=by
  rw[h2]
  unfold Y9
  rw[List.getElem?_map,List.getElem?_range hn]
  rfl
 rw[List.getElem?_map,Ze hq] at h3
 have h4:B.getD Q[n] (0,0)=(t,n):=by simpa using h3
 have h5:Q[n]<B.length:=by
  have h6:∀x∈Q,x<B.length:=fun x hx=>by
   rw[←hQ] at hx
   exact List.mem_range.1 (List.mem_filter.1 hx).1
  exact h6 _ (Zi hq)
 rw[Zf,Ze h5] at h4
 rw[Ze h5]
 exact Z3 some h4
theorem Xv.lt {f:FD} {order:List Int} {u:Int} {B:List (Nat × Nat)} (h:Xv f order u B) {p i:Nat} {a b:Nat × Nat} (hp:B[p]?=some a) (hi:B[i]?=some b) (hr:RJ f order a b):p<i:=by
 obtain⟨hp1,rfl⟩:=ZA.1 hp
 obtain⟨hi1,rfl⟩:=ZA.1 hi
 apply Yh
 intro hc
 by_cases e:p=i
 ·subst e
  exact hr.asymm hr
 exact hr.asymm (List.pairwise_iff_getElem.1 h.srt i p hi1 hp1 oq)
theorem yL {l:List Int} {x:Int} (h:x∈l):x∈Lib.compact l:=by
 unfold Lib.compact Lib.compactUpTo
 obtain⟨j,hj,rfl⟩:=Yl h
 have key:∀j (hj:j<l.length),∃k,k<l.length∧Lib.keeps l.toArray k=true∧l.toArray[k]! = l[j]:=by
  intro j
  induction j with
  | zero=>intro hj;exact⟨0,hj,by simp[Lib.keeps],by simp[hj]⟩
  | succ j ih =>
   intro hj
   by_cases he:l[j+1]=l[j]
   ·obtain⟨k,h1,h2,h3⟩:=ih oq
    exact⟨k,h1,h2,by rw[h3,he]⟩
   refine⟨j+1,hj,?_,by simp[hj]⟩
   have hj2:j<l.length:=oq
   simp[Lib.keeps,hj,hj2,he]
 obtain⟨k,h1,h2,h3⟩:=key j hj
 exact Ye.2 ⟨k,List.mem_filter.2 ⟨List.mem_range.2 h1,h2⟩,h3⟩
end Go.Proofs.YtgigilkpndhddaaGreatDoor.syn
