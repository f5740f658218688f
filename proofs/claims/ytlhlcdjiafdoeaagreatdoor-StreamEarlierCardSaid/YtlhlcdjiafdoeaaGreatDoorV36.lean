/- Parts of the proof. -/
import Derived.Test.YtlhlcdjiafdoeaaGreatDoorV34
set_option linter.all false
set_option maxRecDepth 100000
set_option maxHeartbeats 16000000
namespace Go.Proofs.YtlhlcdjiafdoeaaGreatDoor.syn
open Go.RowKit
theorem zN:∀(l:List index.Op3) (p q p' q':Int),clock.YA p q=true→clock.YV p q l=(p',q',0)→clock.YA p' q'=true
 | [],p,q,p',q',hr,h=>by
  simp only[clock.YV,Z2] at h
  obtain⟨rfl,rfl,_⟩:=h
  exact hr
 | o::r,p,q,p',q',hr,h=>by
  obtain⟨k,N,d⟩:=o
  rw[clock.YV] at h
  rcases ha:clock.YC p q k N d with ⟨p1,f1,e1⟩
  simp only[ha] at h
  split at h
  ·rename_i he
   subst he
   exact zN r p1 f1 p' q' (Js ha).2.1 h
  rename_i he
  simp only[Z2] at h
  exact absurd h.2.2 he
theorem Ky {f:FD} {a:AD} {cp cf:Int} (h:X4 f a cp cf=true):clock.YA cp cf=true∧(Q2 f a.src).isSome=true∧a.ops.length≤20:=by
 unfold X4 at h
 cases hs:Q2 f a.src with
 | none=>rw[hs] at h;cases h
 | some s =>
  obtain⟨sp,sf⟩:=s
  rw[hs] at h
  simp only[ZA,Yh] at h
  obtain⟨hl,h0,h1,h2⟩:=h
  unfold clock.zw at h0 h1 h2
  by_cases hr:clock.YA sp sf=true
  ·rw[Z0 hr] at h0 h1 h2
   exact⟨zN a.ops sp sf cp cf hr (by rw[←h0,←h1,←h2]),rfl,hl⟩
  rw[ZZ hr] at h0
  simp at h0
structure RgS (f:FD):Prop where
 clk:∀(t:Nat) (d:TD),f.tasks[t]?=some d→1≤d.per∧d.per≤2000∧0≤d.ph∧d.ph≤2000
 fits:∀(t:Nat) (d:TD),f.tasks[t]?=some d→∀a∈d.args,X4 f a d.per d.ph=true
 node:∀(t:Nat) (d:TD),f.tasks[t]?=some d→d.node.toNat<f.nods.length
 tel:∀(i:Nat) (x:LD),f.tells[i]?=some x→(1≤x.dl∧x.dl≤1000)∧X4 f x.arg x.per x.ph=true∧1≤x.per∧x.per≤2000∧0≤x.ph∧x.ph≤2000
 ins:∀(i:Nat) (p q:Int),f.ins[i]?=some (p,q)→1≤p∧p≤2000∧0≤q∧q≤2000
theorem Va {f:FD} (h:YQ f=true):RgS f:=by
 unfold YQ at h
 simp only[ZA,List.all_eq_true,Yh] at h
 obtain⟨h1,h2,h3,h4,h5⟩:=h
 have key:∀(t:Nat) (d:TD),f.tasks[t]?=some d→d.node.toNat<f.nods.length∧d.args≠[]∧∀a∈d.args,X4 f a d.per d.ph=true:=by
  intro t d hd
  have h6:=h3 d (Z8 hd)
  by_cases hk:d.node<0∨(f.nods.length:Int)≤d.node
  ·rw[Ve hk] at h6;cases h6
  have h7:d.node.toNat<f.nods.length:=oq
  have h8:d.node=(d.node.toNat:Int):=oq
  rw[UF h7 h8] at h6
  simp only[ZA,List.all_eq_true,Yh] at h6
  exact⟨h7,fun e=>h6.1 (by rw[e];rfl),h6.2.2⟩
 refine⟨fun t d hd=>?_,fun t d hd=>(key t d hd).2.2,fun t d hd=>(key t d hd).1,fun i x hx=>?_,fun i p q hi=>?_⟩
 ·obtain⟨_,hne,hf⟩:=key t d hd
  obtain⟨a,ha⟩:=List.exists_mem_of_ne_nil _ hne
  exact clock.XK.1 (Ky (hf a ha)).1
 ·have h6:=h4 x (Z8 hx)
  unfold U2 J0 at h6
  simp only[ZA,Yh] at h6
  exact⟨h6.1,h6.2,clock.XK.1 (Ky h6.2).1⟩
 exact clock.XK.1 (h1 (p,q) (Z8 hi))
def Ey (f:FD) (a b:List (List Int)) (D:Int):Prop:=∀(i:Nat) (p q:Int),f.ins[i]?=some (p,q)→∀k:Int,0≤k→q+k*p<D→X7 (a.getD i []) k=X7 (b.getD i []) k
def eE (f:FD) (a b:List (List Int)) (D:Int):Prop:=∀(t:Nat) (d:TD),f.tasks[t]?=some d→∀k:Int,0≤k→d.ph+k*d.per<D→X7 (a.getD t []) k=X7 (b.getD t []) k
theorem Es {f:FD} {a:AD} {cp cf n D:Int} (hfit:X4 f a cp cf=true) (hD:cf+n*cp<D) {inl inl' vals vals':List (List Int)} (hi:Ey f inl inl' D) (ht:eE f vals vals' D) :
  UH f.ins.length inl vals a.src.toNat a.ops n=UH f.ins.length inl' vals' a.src.toNat a.ops n:=by
 unfold UH
 obtain⟨⟨m,x,k⟩,hb⟩:∃t,index.XT a.ops n=t:=⟨_,rfl⟩
 rw[hb]
 simp only
 by_cases hk:k=1
 ·subst hk
  rw[Z0 (rfl:(1:Int)=1),Z0 (rfl:(1:Int)=1)]
  obtain⟨m0,sp,sf,hs,_,_,hle,_⟩:=qo hfit hb
  unfold Q2 at hs
  unfold GD
  by_cases h0:a.src<0
  ·rw[Z0 h0] at hs;cases hs
  rw[ZZ h0] at hs
  by_cases h1:a.src<(f.ins.length:Int)
  ·rw[Z0 h1] at hs
   rw[ZZ oq,ZZ oq]
   exact hi _ sp sf hs m m0 oq
  rw[ZZ h1] at hs
  rw[Z0 oq,Z0 oq]
  obtain⟨d,hd,he⟩:=Option.map_eq_some_iff.1 hs
  have e1:=Z1 Prod.fst he
  have e2:=Z1 Prod.snd he
  simp only at e1 e2
  rw[show(a.src-(f.ins.length:Int)).toNat=a.src.toNat-f.ins.length by omega] at hd
  refine ht _ d hd m m0 ?_
  rw[e1,e2]
  omega
 rw[ZZ hk,ZZ hk]
theorem QT {p q:Int} {n:Nat} (h:1≤p∧p≤2000∧0≤q∧q≤2000) (hn:n≤100000):Jg p q (n:Int)=q+(n:Int)*p:=by
 unfold Jg
 rw[Z0 ⟨h,oq⟩]
structure RInv (f:FD) (d:Nat) (vals:List (List Int)) (done:List Nat):Prop where
 len:vals.length=f.tasks.length
 lo:∀(t:Nat) (x:TD),f.tasks[t]?=some x→(d:Int)≤x.ph+((vals.getD t []).length:Int)*x.per
 hi:∀(t:Nat) (x:TD),f.tasks[t]?=some x→(vals.getD t []).length≤d+1
 got:∀t∈done,∀x:TD,f.tasks[t]?=some x→(d:Int)+1≤x.ph+((vals.getD t []).length:Int)*x.per
 few:∀(t:Nat) (x:TD),f.tasks[t]?=some x→(vals.getD t []).length=d+1→(d:Int)+1≤x.ph+((vals.getD t []).length:Int)*x.per
theorem vy {α:Type} (l:List α) (i j:Nat) (a z:α) (hi:i<l.length):(l.set i a).getD j z=if i=j then a else l.getD j z:=by
 rw[Zf,Zf,List.getElem?_set]
 by_cases h:i=j
 ·rw[Z0 h,Z0 h,Z0 oq];rfl
 rw[ZZ h,ZZ h]
theorem gZ {f:FD} (hR:RgS f) {nds:List NE} (hn:nds.length=f.nods.length) {inl:List (List Int)} {d:Nat} (hd:d≤20000) {vals:List (List Int)} {done:List Nat} (h:RInv f d vals done) (t:Nat) :
  RInv f d (Qh f.ins.length inl nds f.tasks (d:Int) vals t) (t::done):=by
 unfold Qh
 cases hx:f.tasks[t]? with
 | none =>
  refine⟨h.len,h.lo,h.hi,fun t' ht' x hx'=>?_,h.few⟩
  rcases ZQ.1 ht' with rfl|ht'
  ·rw[hx] at hx';cases hx'
  exact h.got t' ht' x hx'
 | some x =>
  have hnd:=hR.node t x hx
  obtain⟨nd,hnn⟩:∃nd,nds[x.node.toNat]?=some nd:=⟨_,Ze oq⟩
  simp only[hnn]
  have hc:=hR.clk t x hx
  have hlo:=h.lo t x hx
  have hhi:=h.hi t x hx
  rw[QT hc oq]
  have htl:t<vals.length:=by rw[h.len];exact(Zz.1 hx).1
  obtain⟨L,hL⟩:∃L,(vals.getD t []).length=L:=⟨_,rfl⟩
  have hfew:=h.few t x hx
  rw[hL] at hlo hhi hfew ⊢
  by_cases he:x.ph+(L:Int)*x.per=(d:Int)
  ·rw[Z0 he]
   have e1:((L+1:Nat):Int)*x.per=(L:Int)*x.per+x.per:=by rw[Int.natCast_add,Int.add_mul];simp
   have hLd:L≤d:=by
    have:=Int.mul_le_mul_of_nonneg_left (show(1:Int)≤x.per from hc.1) (show(0:Int)≤(L:Int) by omega)
    omega
   have key:∀t',((vals.set t (vals.getD t []++[KQ f.ins.length inl vals nd x.args (L:Int)])).getD t' []).length=if t=t' then L+1 else (vals.getD t' []).length:=by
    intro t'
    rw[vy _ _ _ _ _ htl]
    by_cases ht':t=t'
    ·rw[Z0 ht',Z0 ht',Zw,hL];rfl
    rw[ZZ ht',ZZ ht']
   refine⟨by rw[List.length_set];exact h.len,fun t' x' hx'=>?_,fun t' x' hx'=>?_,fun t' ht' x' hx'=>?_,fun t' x' hx' hl=>?_⟩
   ·rw[key]
    by_cases ht':t=t'
    ·subst ht'
     rw[hx] at hx'
     cases hx'
     rw[Z0 rfl,e1];omega
    rw[ZZ ht'];exact h.lo t' x' hx'
   ·rw[key]
    by_cases ht':t=t'
    ·rw[Z0 ht'];omega
    rw[ZZ ht'];exact h.hi t' x' hx'
   ·rw[key]
    by_cases htt:t=t'
    ·subst htt
     rw[hx] at hx'
     cases hx'
     rw[Z0 rfl,e1];omega
    rw[ZZ htt]
    rcases ZQ.1 ht' with e|ht'
    ·exact absurd e.symm htt
    exact h.got t' ht' x' hx'
   rw[key] at hl ⊢
   by_cases htt:t=t'
   ·subst htt
    rw[hx] at hx'
    cases hx'
    rw[Z0 rfl,e1];omega
   rw[ZZ htt] at hl ⊢
   exact h.few t' x' hx' hl
  rw[ZZ he]
  refine⟨h.len,h.lo,h.hi,fun t' ht' x' hx'=>?_,h.few⟩
  rcases ZQ.1 ht' with rfl|ht'
  ·rw[hx] at hx'
   cases hx'
   rw[hL];omega
  exact h.got t' ht' x' hx'
theorem uv {f:FD} (hR:RgS f) {nds:List NE} {inl inl':List (List Int)} {D:Int} (hi:Ey f inl inl' D) {d:Nat} (hd:d≤20000) (hD:(d:Int)<D) {vals:List (List Int)} {done:List Nat} (h:RInv f d vals done) (t:Nat) :
  Qh f.ins.length inl nds f.tasks (d:Int) vals t=Qh f.ins.length inl' nds f.tasks (d:Int) vals t:=by
 unfold Qh
 cases hx:f.tasks[t]? with
 | none=>rfl
 | some x =>
  simp only
  cases hnn:nds[x.node.toNat]? with
  | none=>rfl
  | some nd =>
   simp only
   have hhi:=h.hi t x hx
   have hda:=QT (hR.clk t x hx) (n:=(vals.getD t []).length) oq
   rw[hda]
   by_cases he:x.ph+((vals.getD t []).length:Int)*x.per=(d:Int)
   ·rw[Z0 he,Z0 he]
    have:KQ f.ins.length inl vals nd x.args ((vals.getD t []).length:Int)=KQ f.ins.length inl' vals nd x.args ((vals.getD t []).length:Int):=by
     unfold KQ
     have:Vk f.ins.length inl vals x.args ((vals.getD t []).length:Int)=Vk f.ins.length inl' vals x.args ((vals.getD t []).length:Int):=by
      unfold Vk
      refine List.map_congr_left (fun a ha=>?_)
      exact Es (hR.fits t x hx a ha) oq hi (fun _ _ _ _ _ _=>rfl)
     rw[this]
    rw[this]
   rw[ZZ he,ZZ he]
theorem GX {f:FD} (hR:RgS f) {nds:List NE} (hn:nds.length=f.nods.length) {inl inl':List (List Int)} {D:Int} (hi:Ey f inl inl' D) {d:Nat} (hd:d≤20000) (hD:(d:Int)<D) :
  ∀(order:List Nat) (vals:List (List Int)) (done:List Nat),RInv f d vals done →
   order.foldl (Qh f.ins.length inl nds f.tasks (d:Int)) vals=order.foldl (Qh f.ins.length inl' nds f.tasks (d:Int)) vals∧∃done',RInv f d (order.foldl (Qh f.ins.length inl nds f.tasks (d:Int)) vals) done'∧(∀t∈order,t∈done')∧∀t∈done,t∈done'
 | [],vals,done,h=>⟨rfl,done,h,fun t ht=>(by cases ht),fun _ h=>h⟩
 | t::order,vals,done,h=>by
  have h1:=gZ hR hn (inl:=inl) hd h t
  have h2:=uv (nds:=nds) hR hi hd hD h t
  obtain⟨h3,done',h4,h5,h6⟩:=GX hR hn hi hd hD order _ _ h1
  rw[List.foldl_cons,List.foldl_cons,←h2]
  refine⟨h3,done',h4,fun t' ht'=>?_,fun t' ht'=>h6 t' (List.mem_cons_of_mem _ ht')⟩
  rcases ZQ.1 ht' with rfl|ht'
  ·exact h6 _ (List.mem_cons_self ..)
  exact h5 t' ht'
structure uJ (f:FD) (d:Nat) (vals:List (List Int)):Prop where
 len:vals.length=f.tasks.length
 lo:∀(t:Nat) (x:TD),f.tasks[t]?=some x→(d:Int)≤x.ph+((vals.getD t []).length:Int)*x.per
 hi:∀(t:Nat) (x:TD),f.tasks[t]?=some x→(vals.getD t []).length≤d
theorem um {f:FD} (hR:RgS f) {nds:List NE} (hn:nds.length=f.nods.length) {inl inl':List (List Int)} {D:Int} (hi:Ey f inl inl' D) {order:List Nat} (ho:∀t,t<f.tasks.length→t∈order) {d:Nat} (hd:d≤20000) (hD:(d:Int)<D) {vals:List (List Int)} (h:uJ f d vals) :
  JY f.ins.length inl nds f.tasks order (d:Int) vals=JY f.ins.length inl' nds f.tasks order (d:Int) vals∧uJ f (d+1) (JY f.ins.length inl nds f.tasks order (d:Int) vals):=by
 have h0:RInv f d vals []:=⟨h.len,h.lo,fun t x hx=>by have:=h.hi t x hx;omega,fun t ht=>(by cases ht),fun t x hx hl=>by have:=h.hi t x hx;omega⟩
 obtain⟨h1,done',h2,h3,_⟩:=GX hR hn hi hd hD order vals [] h0
 refine⟨h1,h2.len,fun t x hx=>?_,fun t x hx=>h2.hi t x hx⟩
 have:=h2.got t (h3 t (ho t (Zz.1 hx).1)) x hx
 unfold JY
 omega
theorem Ei {f:FD} (hR:RgS f) {nds:List NE} (hn:nds.length=f.nods.length) {inl inl':List (List Int)} {D:Int} (hi:Ey f inl inl' D) {order:List Nat} (ho:∀t,t<f.tasks.length→t∈order) :
  ∀n:Nat,n≤20000→(n:Int)≤D→Xi f.ins.length inl nds f.tasks order n=Xi f.ins.length inl' nds f.tasks order n∧uJ f n (Xi f.ins.length inl nds f.tasks order n)
 | 0,_,_=>by
  refine⟨rfl,by simp[Xi],fun t x hx=>?_,fun t x hx=>?_⟩
  ·have:=hR.clk t x hx
   simp only[Xi,List.range_zero,List.foldl_nil]
   rw[show(List.replicate f.tasks.length ([]:List Int)).getD t []=[] by
    rw[Zf,List.getElem?_replicate];split<;>rfl]
   simp only[Zv]
   omega
  simp only[Xi,List.range_zero,List.foldl_nil]
  rw[show(List.replicate f.tasks.length ([]:List Int)).getD t []=[] by
   rw[Zf,List.getElem?_replicate];split<;>rfl]
  exact Zc _
 | n+1,hn1,hD=>by
  obtain⟨h1,h2⟩:=Ei hR hn hi ho n oq oq
  have e:∀il,Xi f.ins.length il nds f.tasks order (n+1)=JY f.ins.length il nds f.tasks order (n:Int) (Xi f.ins.length il nds f.tasks order n):=by
   intro il
   unfold Xi
   rw[List.range_succ,List.foldl_append]
   rfl
  rw[e,e,←h1]
  exact um hR hn hi ho oq oq h2
theorem Zau {a b:List Int} (h:a <+: b) {k:Int} (hk:k<a.length):X7 a k=X7 b k:=by
 obtain⟨r,rfl⟩:=h
 unfold X7
 by_cases h0:k<0
 ·rw[Z0 (.inl h0),Z0 (.inl h0)]
 rw[ZZ oq,ZZ (by rw[Zw];omega)]
 rw[Zf,Zf,List.getElem?_append_left oq]
theorem uy {f:FD} (hr:YQ f=true) {nds:List NE} (hn:nds.length=f.nods.length) {l:List Int} (ho:ofP f=some l) {inl inl':List (List Int)} {a b:Int} (ha:0≤a∧a≤b∧b≤20000) (hi:Ey f inl inl' a):eE f (J1 f nds inl a) (J1 f nds inl' b) a:=by
 have hR:=Va hr
 have hall:∀t,t<f.tasks.length→t∈(((ofP f).getD []).map Int.toNat):=by
  intro t ht
  rw[ho]
  exact Yc.2 ⟨(t:Int),(yC ho).all t ht,by simp⟩
 obtain⟨h1,h2⟩:=Ei hR hn hi hall a.toNat oq oq
 have h3:=yP f.ins.length inl' nds f.tasks (((ofP f).getD []).map Int.toNat) a.toNat (b.toNat-a.toNat)
 rw[show a.toNat+(b.toNat-a.toNat)=b.toNat by omega] at h3
 intro t d hd k k0 hk
 unfold J1
 have h4:=h2.lo t d hd
 have hc:=hR.clk t d hd
 have hlt:k<((Xi f.ins.length inl nds f.tasks (((ofP f).getD []).map Int.toNat) a.toNat).getD t []).length:=by
  apply Yf
  intro hge
  have:=Int.mul_le_mul_of_nonneg_right (Int.not_lt.1 hge) (show 0≤d.per by omega)
  omega
 rw[h1] at hlt ⊢
 exact Zau (h3.2 t) hlt
structure SdD where
 t:Int
 n:Int
 d:Int
 v:Int
instance:Inhabited SdD:=⟨⟨0,0,0,0⟩⟩
def ltS (x y:SdD):Prop:=x.d<y.d∨(x.d=y.d∧x.t<y.t)
def U1 (ni:Nat) (inl vals:List (List Int)) (i:Nat) (x:LD) (n:Nat):SdD:=⟨(i:Int),(n:Int),Jg x.per x.ph (n:Int)+x.dl,UH ni inl vals x.arg.src.toNat x.arg.ops (n:Int)⟩
def QJ (ni:Nat) (inl vals:List (List Int)) (i:Nat) (x:LD) (N:Nat):List SdD:=(List.range N).map (U1 ni inl vals i x)
def Qz (x:LD) (u:Int):Nat:=(XO x.per x.ph (u-x.dl+1)).toNat
def Xx (f:FD) (inl vals:List (List Int)) (u:Int):Nat→List SdD
 | 0=>[]
 | k+1=>Xx f inl vals u k++(match f.tells[k]? with
  | none=>[]
  | some x=>QJ f.ins.length inl vals k x (Qz x u))
theorem J6 {p q u:Int} (h:1≤p∧p≤2000∧0≤q∧q≤2000) (hu:u≤20000) (n:Nat):n<(XO p q u).toNat↔q+(n:Int)*p<u:=by
 have hn0:0≤(n:Int)*p:=Int.mul_nonneg oq oq
 unfold XO
 by_cases hc:clock.YA p q=true∧(0≤u∧u≤20000)∧q<u
 ·rw[Z0 hc]
  rw[Int.tdiv_eq_ediv_of_nonneg oq]
  have h0:0≤(u-1-q)/p:=Int.ediv_nonneg oq oq
  have h1:(n:Int)≤(u-1-q)/p↔(n:Int)*p≤u-1-q:=Int.le_ediv_iff_mul_le oq
  omega
 rw[ZZ hc]
 have hr:clock.YA p q=true:=clock.XK.2 h
 constructor
 ·intro h;simp at h
 intro hlt
 exfalso
 apply hc
 refine⟨hr,?_,?_⟩<;>omega
theorem Gn {f:FD} {inl vals:List (List Int)} {u:Int} {s:SdD}:∀k:Nat,s∈Xx f inl vals u k→∃i x n,f.tells[i]?=some x∧n<Qz x u∧s=U1 f.ins.length inl vals i x n
 | 0,h=>by cases h
 | k+1,h=>by
  rw[Xx] at h
  rcases List.mem_append.1 h with h|h
  ·exact Gn k h
  cases hx:f.tells[k]? with
  | none=>rw[hx] at h;cases h
  | some x =>
   rw[hx] at h
   simp only[QJ] at h
   obtain⟨n,hn,rfl⟩:=Yc.1 h
   exact⟨k,x,n,hx,List.mem_range.1 hn,rfl⟩
theorem Jt {f:FD} (hR:RgS f) {u:Int} (hu:u≤20000) {i:Nat} {x:LD} (hx:f.tells[i]?=some x) {n:Nat} (hn:n<Qz x u):n≤20000∧x.ph+(n:Int)*x.per+x.dl≤u:=by
 obtain⟨hd,_,hc⟩:=hR.tel i x hx
 have h1:=(J6 hc (u:=u-x.dl+1) oq n).1 hn
 have h2:=Int.mul_le_mul_of_nonneg_left (show(1:Int)≤x.per from hc.1) (show(0:Int)≤(n:Int) by omega)
 omega
theorem gF {f:FD} (hR:RgS f) {inl vals:List (List Int)} {u:Int} (hu:u≤20000) {k:Nat} {s r:SdD} (hs:s∈Xx f inl vals u k) (hr:r∈Xx f inl vals u k) (h1:¬ltS r s) (h2:¬ltS s r):s=r:=by
 obtain⟨i,x,n,hx,hn,rfl⟩:=Gn k hs
 obtain⟨j,y,m,hy,hm,rfl⟩:=Gn k hr
 unfold ltS U1 at h1 h2
 simp only at h1 h2
 have hd:Jg x.per x.ph (n:Int)+x.dl=Jg y.per y.ph (m:Int)+y.dl:=oq
 have hij:i=j:=oq
 subst hij
 rw[hx] at hy
 cases hy
 have c1:=Jt hR hu hx hn
 have c2:=Jt hR hu hx hm
 have hc:=(hR.tel i x hx).2.2
 rw[QT hc oq,QT hc oq] at hd
 have:(n:Int)*x.per=(m:Int)*x.per:=oq
 have:=Int.eq_of_mul_eq_mul_right (show x.per≠0 by omega) this
 have:n=m:=oq
 subst this
 rfl
theorem yY {f:FD} (hR:RgS f) {inl inl' va vb:List (List Int)} {a b:Int} (hab:a≤b) (hb:b≤20000) (hi:Ey f inl inl' a) (ht:eE f va vb a) :
  ∀k:Nat,(Xx f inl' vb b k).filter (fun s=>decide (s.d≤a))=Xx f inl va a k
 | 0=>rfl
 | k+1=>by
  rw[Xx,Xx,List.filter_append,yY hR hab hb hi ht k]
  congr 1
  cases hx:f.tells[k]? with
  | none=>rfl
  | some x =>
   simp only
   obtain⟨hd,hfit,hc⟩:=hR.tel k x hx
   have hle:Qz x a≤Qz x b:=by
    apply Yf
    intro hlt
    have h1:=(J6 hc (u:=a-x.dl+1) oq (Qz x b)).1 (by unfold Qz at hlt ⊢;omega)
    have h2:=(J6 hc (u:=b-x.dl+1) oq (Qz x b)).2 oq
    unfold Qz at h2
    omega
   obtain⟨m,hm⟩:∃m,Qz x b=Qz x a+m:=⟨Qz x b-Qz x a,oq⟩
   have hlt:=fun n hn=>Jt hR hb hx (n:=n) hn
   unfold QJ
   rw[hm,List.range_add,ZT,List.filter_append]
   have h1:((List.range (Qz x a)).map (U1 f.ins.length inl' vb k x)).filter (fun s=>decide (s.d≤a))=(List.range (Qz x a)).map (U1 f.ins.length inl va k x):=by
    rw[List.filter_eq_self.2]
    ·refine List.map_congr_left (fun n hn=>?_)
     have hn2:=List.mem_range.1 hn
     have c1:=Jt hR (by omega:a≤20000) hx hn2
     unfold U1
     rw[Es hfit (D:=a) oq hi ht]
    intro s hs
    obtain⟨n,hn,rfl⟩:=Yc.1 hs
    have c1:=Jt hR (by omega:a≤20000) hx (List.mem_range.1 hn)
    unfold U1
    simp only
    rw[QT hc oq]
    exact ZY oq
   have h2:(((List.range m).map (Qz x a+·)).map (U1 f.ins.length inl' vb k x)).filter (fun s=>decide (s.d≤a))=[]:=by
    rw[List.filter_eq_nil_iff]
    intro s hs
    obtain⟨n,hn,rfl⟩:=Yc.1 hs
    obtain⟨j,hj,rfl⟩:=Yc.1 hn
    have hj2:=List.mem_range.1 hj
    have c1:=hlt (Qz x a+j) oq
    have h3:¬(Qz x a+j<Qz x a):=oq
    have h4:¬(x.ph+((Qz x a+j:Nat):Int)*x.per<a-x.dl+1):=fun h=>h3 ((J6 hc (u:=a-x.dl+1) oq (Qz x a+j)).2 h)
    unfold U1
    simp only[Yh]
    rw[QT hc oq]
    omega
   rw[h1,h2,List.append_nil]
theorem Ui {α:Type} {R:α→α→Prop} {p:α→Bool} (hp:∀x y,R x y→p y=true→p x=true):∀l:List α,l.Pairwise R→l=l.filter p++l.filter (fun x=>!p x)
 | [],_=>rfl
 | x::l,h=>by
  obtain⟨h1,h2⟩:=List.pairwise_cons.1 h
  cases hx:p x with
  | true =>
   rw[List.filter_cons_of_pos hx,List.filter_cons_of_neg (by simp[hx]),ZB,←Ui hp l h2]
  | false =>
   have hall:∀y∈l,p y=false:=fun y hy=>by
    cases hy2:p y with
    | false=>rfl
    | true=>rw[hp x y (h1 y hy) hy2] at hx;cases hx
   rw[List.filter_cons_of_neg (by simp[hx]),List.filter_cons_of_pos (by simp[hx]),List.filter_eq_nil_iff.2 (fun y hy=>by simp[hall y hy]),List.filter_eq_self.2 (fun y hy=>by simp[hall y hy]),ZL]
def Ez (f:FD) (inl vals:List (List Int)) (u:Int) (l:List SdD):Prop:=l.Perm (Xx f inl vals u f.tells.length)∧l.Pairwise (fun x y=>¬ltS y x)
theorem gG {f:FD} (hR:RgS f) {inl inl' va vb:List (List Int)} {a b:Int} (hab:a≤b) (hb:b≤20000) (hi:Ey f inl inl' a) (ht:eE f va vb a) {s x:List SdD} (hs:Ez f inl va a s) (hx:Ez f inl' vb b x):s <+: x:=by
 have h1:=Ui (R:=fun x y:SdD=>¬ltS y x) (p:=fun s=>decide (s.d≤a)) (fun x y h hy=>by
  have hy:=Yg hy
  refine ZY ?_
  unfold ltS at h
  omega) x hx.2
 have h2:(x.filter (fun s=>decide (s.d≤a))).Perm s:=by
  have:=hx.1.filter (fun s=>decide (s.d≤a))
  rw[yY hR hab hb hi ht] at this
  exact this.trans hs.1.symm
 have h3:s=x.filter (fun s=>decide (s.d≤a)):=by
  refine List.Perm.eq_of_pairwise (le:=fun x y=>¬ltS y x) ?_ hs.2 (hx.2.filter _) h2.symm
  intro u v hu hv h1 h2'
  exact gF hR (by omega:a≤20000) (hs.1.mem_iff.1 hu) (hs.1.mem_iff.1 (h2.mem_iff.1 hv)) h1 h2'
 rw[h1,←h3]
 exact List.prefix_append _ _
def Vj (l:List Int) (n:Nat):List Int:=(List.range (n+20)).map (fun k=>if k<n then X7 l (k:Int) else 77)
def qF (f:FD) (a:Int) (i:Nat):Nat:=match f.ins[i]? with
 | none=>0
 | some c=>(XO c.1 c.2 a).toNat
def Ud (f:FD) (inl:List (List Int)) (a:Int) (k:Nat):List (List Int):=(List.range k).map (fun i=>Vj (inl.getD i []) (qF f a i))
theorem ZbF {f:FD} (hR:RgS f) {inl:List (List Int)} {a:Int} (ha:a≤20000):Ey f inl (Ud f inl a f.ins.length) a:=by
 intro i p q hi k k0 hk
 have hil:=(Zz.1 hi).1
 obtain⟨n,rfl⟩:∃n:Nat,k=(n:Int):=⟨k.toNat,oq⟩
 have hn:=(J6 (hR.ins i p q hi) ha n).2 hk
 have e:(Ud f inl a f.ins.length).getD i []=Vj (inl.getD i []) (XO p q a).toNat:=by
  unfold Ud qF
  rw[Zf,List.getElem?_map,List.getElem?_range hil]
  simp only[Option.map_some,Z7,hi]
 rw[e]
 obtain⟨N,hN⟩:∃N,(XO p q a).toNat=N:=⟨_,rfl⟩
 rw[hN] at hn ⊢
 have e2:(Vj (inl.getD i []) N).length=N+20:=by simp[Vj]
 have e3:X7 (Vj (inl.getD i []) N) (n:Int)=(Vj (inl.getD i []) N).getD n 0:=by
  unfold X7
  rw[ZZ (by rw[e2];omega),ZP]
 have e4:(Vj (inl.getD i []) N)[n]?=some (X7 (inl.getD i []) (n:Int)):=by
  unfold Vj
  rw[List.getElem?_map,List.getElem?_range oq]
  simp only[Option.map_some]
  rw[Z0 hn]
 have e5:(Vj (inl.getD i []) N).getD n 0=((Vj (inl.getD i []) N)[n]?).getD 0:=Zf ..
 rw[e3,e5,e4]
 rfl
end Go.Proofs.YtlhlcdjiafdoeaaGreatDoor.syn
