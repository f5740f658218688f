/- Parts of the proof. -/
import Derived.Test.YtdgifkjaflfdeaaGreatDoorJ34
import Derived.Test.YtdgifkjaflfdeaaGreatDoorJ36
set_option linter.all false
set_option maxRecDepth 100000
set_option maxHeartbeats 16000000
namespace Go.Proofs.YtdgifkjaflfdeaaGreatDoor.syn
open Tryz
open Go.RowKit
variable {f:FD}
theorem xz{l:List Int}{x:Int}(h:x∈l):x∈Lib.compact l:=by
 unfold Lib.compact Lib.compactUpTo;obtain⟨j,f,rfl⟩:=Yl h;have key:∀j (f:j<l.length),∃k,k<l.length/\Lib.keeps l.toArray k=true/\l.toArray[k]! = l[j]:=by
  intro j
  induction j with
  | zero=>intro f;exact⟨0,f,by simp[Lib.keeps],by simp[f]⟩
  | succ j ih =>
   intro f;by_cases y:l[j+1]=l[j]
   .obtain⟨k,g,m,q⟩:=ih oq;exact⟨k,g,m,by rw[q,y]⟩
   refine⟨j+1,f,?_,by simp[f]⟩;have v:j<l.length:=oq;simp[Lib.keeps,f,v,y]
 obtain⟨k,g,m,q⟩:=key j f;exact Yd.2 ⟨k,List.mem_filter.2 ⟨List.mem_range.2 g,m⟩,q⟩
theorem eC:∀(l:List index.Op3)(p q p' q':Int),clock.YO p q l=(p',q',0)->∀o∈l,clock.Q7 o.1 o.2.1 o.2.2=true
 | [],p,q,p',q',h,o,ho=>by cases ho
 | x::r,p,q,p',q',h,o,ho=>by
  obtain⟨k,N,d⟩:=x;rw[clock.YO] at h;rcases ha:clock.YG p q k N d with ⟨p1,f1,e1⟩
  simp only[ha] at h;split at h
  .rename_i he
   subst he;rcases ZR.1 ho with rfl|ho
   .exact(Qa ha).2.2.1
   exact eC r p1 f1 p' q' h o ho
  rename_i he
  simp only[Z3] at h;exact absurd h.2.2 he
theorem yt{a:AD}{z y:Int}(h:Xt f a z y=true):a.ops.any Ke=a.ops.any VK:=by
 have q:∀o∈a.ops,clock.Q7 o.1 o.2.1 o.2.2=true:=by
  unfold Xt at h
  cases hs:Jj f a.src with
  | none=>rw[hs] at h;cases h
  | some s =>
   obtain⟨E,D⟩:=s;rw[hs] at h;simp only[ZB,Yj] at h;obtain⟨x,g,j,m⟩:=h;unfold clock.KJ at g j m;by_cases C:clock.YH E D=true
   .rw[Z1 C] at g j m;exact eC a.ops E D z y (by rw[<-g,<-j,<-m])
   rw[Z0 C] at g;simp at g
 have key:∀l:List (Int × Int × Int),(∀o∈l,clock.Q7 o.1 o.2.1 o.2.2=true)->l.any Ke=l.any VK:=by
  intro l
  induction l with
  | nil=>intro _;rfl
  | cons o l ih =>
   intro x;rw[List.any_cons,List.any_cons,ih (fun o ho=>x o (List.mem_cons_of_mem _ ho))];congr 1;have j:=x o (List.mem_cons_self ..);unfold clock.Q7 at j;have m:=(Yi j).2;unfold Ke VK;by_cases A:o.1=6
   .simp[A]
   by_cases v:o.1=5
   .have F:=m v;by_cases g:o.2.1=0
    .simp[v,g]
    have:0<o.2.1:=oq;simp[v,g,this]
   simp[v,A]
 exact key a.ops q
theorem Zgf(x:RgS f):Zei f (hg9 f):=by
 intro t ht k y;have hd:=Ze ht;obtain⟨d,q⟩:=ez (f.tasks[t]);rw[q] at hd;have j:=x.fits t d hd;unfold hg9;rw[hd,K4 hd];simp only;rw[List.any_eq_true];unfold Y9;constructor
 .rintro⟨a,m,h⟩;unfold Jf at h;simp only[ZB,Yj,Bool.not_eq_true'] at h;refine xz (List.mem_mergeSort.2 (List.mem_filterMap.2 ⟨a,m,?_⟩));unfold QL;rw[Z0 (by rw[<-yt (j a m),h.2];simp)];unfold zY;rw[h.1,V2 y,Z1 ⟨rfl,oq⟩];congr 1;omega
 intro h;have v:=List.mem_mergeSort.1 (VJ (Nat.le_of_eq (by simp)) _ h);unfold EZ at v;obtain⟨a,m,g⟩:=List.mem_filterMap.1 v;refine⟨a,m,?_⟩;unfold QL at g;unfold Jf;rw[yt (j a m)];split at g
 .cases g
 rename_i hnd
 unfold zY at g;split at g
 .rename_i hs
  injection g with g
  have:a.src=(f.ins.length:Int)+(k:Int):=oq;simp only[ZB,Yj,Bool.not_eq_true'];exact⟨this,by simpa using hnd⟩
 cases g
theorem yI(hr:Y3 f=true):E7 (hg9 f) f.tasks.length f.tasks.length []=ofP f:=Zgs (Zgf (Zbu hr))
