/- Parts of the proof. -/
import Derived.Test.YtdgifkjaflfdeaaGreatDoorJ26
import Derived.Test.YtdgifkjaflfdeaaGreatDoorJ28
import Derived.Test.YtdgifkjaflfdeaaGreatDoorJ31
set_option linter.all false
set_option maxRecDepth 100000
set_option maxHeartbeats 16000000
namespace Go.Proofs.YtdgifkjaflfdeaaGreatDoor.syn
open Tryz
open Go.RowKit
theorem qG:∀(l:List index.Op3)(p q p' q':Int),clock.YH p q=true->clock.YO p q l=(p',q',0)->clock.YH p' q'=true
 | [],p,q,p',q',hr,h=>by
  simp only[clock.YO,Z3] at h;obtain⟨rfl,rfl,_⟩:=h;exact hr
 | o::r,p,q,p',q',hr,h=>by
  obtain⟨k,N,d⟩:=o;rw[clock.YO] at h;rcases ha:clock.YG p q k N d with ⟨p1,f1,e1⟩
  simp only[ha] at h;split at h
  .rename_i he
   subst he;exact qG r p1 f1 p' q' (Qa ha).2.1 h
  rename_i he
  simp only[Z3] at h;exact absurd h.2.2 he
theorem qF{f:FD}{a:AD}{m j:Int}(h:Xt f a m j=true):clock.YH m j=true/\(Jj f a.src).isSome=true/\a.ops.length<=20:=by
 unfold Xt at h
 cases hs:Jj f a.src with
 | none=>rw[hs] at h;cases h
 | some s =>
  obtain⟨z,y⟩:=s;rw[hs] at h;simp only[ZB,Yj] at h;obtain⟨A,g,q,v⟩:=h;unfold clock.KJ at g q v;by_cases x:clock.YH z y=true
  .rw[Z1 x] at g q v;exact⟨qG a.ops z y m j x (by rw[<-g,<-q,<-v]),rfl,A⟩
  rw[Z0 x] at g;simp at g
structure RgS (f:FD):Prop where
 clk:∀(t:Nat)(d:TD),f.tasks[t]?=some d->1<=d.per/\d.per<=2000/\0<=d.ph/\d.ph<=2000
 fits:∀(t:Nat)(d:TD),f.tasks[t]?=some d->∀a∈d.args,Xt f a d.per d.ph=true
 node:∀(t:Nat)(d:TD),f.tasks[t]?=some d->d.node.toNat<f.nods.length
 tel:∀(i:Nat)(x:LD),f.tells[i]?=some x->(1<=x.dl/\x.dl<=1000)/\Xt f x.arg x.per x.ph=true/\1<=x.per/\x.per<=2000/\0<=x.ph/\x.ph<=2000
 ins:∀(i:Nat)(p q:Int),f.ins[i]?=some (p,q)->1<=p/\p<=2000/\0<=q/\q<=2000
theorem Zbu{f:FD}(h:Y3 f=true):RgS f:=by
 unfold Y3 at h;simp only[ZB,List.all_eq_true,Yj] at h;obtain⟨v,F,y,z,G⟩:=h;have key:∀(t:Nat)(d:TD),f.tasks[t]?=some d->d.node.toNat<f.nods.length/\d.args≠[]/\∀a∈d.args,Xt f a d.per d.ph=true:=by
  intro t d hd;have g:=y d (Z9 hd);by_cases E:d.node<0\/(f.nods.length:Int)<=d.node
  .rw[Uj E] at g;cases g
  have m:d.node.toNat<f.nods.length:=oq;have A:d.node=(d.node.toNat:Int):=oq;rw[Gk m A] at g;simp only[ZB,List.all_eq_true,Yj] at g;exact⟨m,fun e=>g.1 (by rw[e];rfl),g.2.2⟩
 refine⟨fun t d hd=>?_,fun t d hd=>(key t d hd).2.2,fun t d hd=>(key t d hd).1,fun i x hx=>?_,fun i p q hi=>?_⟩
 .obtain⟨_,j,D⟩:=key t d hd;obtain⟨a,C⟩:=List.exists_mem_of_ne_nil _ j;exact clock.Y1.1 (qF (D a C)).1
 .have g:=z x (Z9 hx);unfold Ky Vi at g;simp only[ZB,Yj] at g;exact⟨g.1,g.2,clock.Y1.1 (qF g.2).1⟩
 exact clock.Y1.1 (v (p,q) (Z9 hi))
