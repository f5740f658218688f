/- Parts of the proof. -/
import Derived.Test.YtlhlcdjiafdoeaaGreatDoorV18
set_option linter.all false
set_option maxRecDepth 100000
set_option maxHeartbeats 16000000
namespace Go.Proofs.YtlhlcdjiafdoeaaGreatDoor.syn
open Go.RowKit Go.Shelf
abbrev Op3:Type:=Int × Int × Int
def opL (o:Op3):List Value:=[.int .i64 o.1,.int .i64 o.2.1,.int .i64 o.2.2]
def Qd:List Op3→List Value
 | []=>[]
 | o::l=>.int .i64 o.1::.int .i64 o.2.1::.int .i64 o.2.2::Qd l
theorem Gb:∀l:List Op3,(Qd l).length=l.length*3
 | []=>rfl
 | o::l=>by simp only[Qd,Zp,Gb l];omega
theorem yD:∀a b:List Op3,Qd (a++b)=Qd a++Qd b
 | [],b=>rfl
 | o::a,b=>by simp only[ZB,Qd,yD a b]
theorem Ga:∀(l:List Op3) (t:Nat),t<l.length*3→(Qd l)[t]?=some ((opL (l[t/3]!))[t%3]!)
 | [],t,h=>by simp at h
 | o::l,0,h=>rfl
 | o::l,1,h=>rfl
 | o::l,2,h=>rfl
 | o::l,t+3,h=>by
  have e1:(t+3)/3=t/3+1:=oq
  have e2:(t+3)%3=t%3:=oq
  simp only[Qd,List.getElem?_cons_succ,e1,e2]
  rw[Ga l t (by simp only[Zp] at h;omega)]
  simp
theorem kA (l:List Op3):(Go.Sort.flatK opL 3 l.toArray).toList=Qd l:=by
 apply List.ext_getElem?
 intro t
 by_cases h:t<l.length*3
 ·rw[Ga l t h]
  have h2:t<(Go.Sort.flatK opL 3 l.toArray).size:=by simpa using h
  have h3:=Go.Sort.get_flatK opL 3 l.toArray t (by simpa using h)
  rw[getElem!_pos _ t h2] at h3
  rw[Array.getElem?_toList,Yk h2,h3]
  simp
 rw[Ya (by simp;omega),Ya (by rw[Gb];omega)]
theorem Zcu:∀w,(isAgg 135).run Tryz.prog w=.ok true w:=fun w=>by kernel_rfl
theorem ZbR:∀w,(Go.sizeOf 135).run Tryz.prog w=.ok 3 w:=fun w=>by kernel_rfl
theorem yU {w:World} {base:Nat} {v:Value} {ops:List Op3} (h:w.ownsRow base 135 3 v ops.length (Qd ops)) (hl:ops.length≤1000) (hn:ops≠[]) :
  Calls Tryz.prog 123 #[v] w fun e w'=>e=.returned (.tuple #[])∧w'.ownsRow base 135 3 v ops.length (Qd ops.reverse)∧w.grownBy w' v.ownBlock:=by
 obtain⟨g,cap,rfl,hb,hg⟩:=h.form (List.length_pos_iff.2 hn)
 have hH:Go.Sort.HoldsK opL 3 w g 0 ops.toArray:=by
  intro j hj
  have hj':j<ops.length*3:=by simpa using hj
  refine⟨?_,?_⟩
  ·rw[ZC,h.cellAt j hj',Ga ops j hj',Go.Sort.get_flatK opL 3 ops.toArray j (by simpa using hj')]
   simp
  rw[ZC]
  exact h.frozenAt j
 refine(Tryz.slices_Reverse 3 Zcu ZbR opL (fun _=>rfl) (fun x v hv=>by simp[opL] at hv;rcases hv with rfl|rfl|rfl<;>rfl) g 0 cap ops.toArray w hH (by simp;omega)).mono ?_
 rintro e w' ⟨rfl,n,rfl⟩
 obtain⟨h1,h2|⟨g',cap',cur,hv,hb',hgg,hnc,hcm,hcs,htk⟩⟩:=h
 ·obtain⟨h2,_⟩:=h2;cases h2
 cases hv
 refine⟨rfl,⟨by rw[Gb,List.length_reverse],.inr ⟨g,cap,Go.Sort.putCells id 0 (Go.Sort.flatK opL 3 ops.toArray.reverse) cur,rfl,hb',?_,hnc,hcm,?_,?_⟩⟩,⟨rfl,rfl,rfl,?_,?_⟩⟩
 ·simp[Go.Sort.putRowK,Go.Sort.putRow,Go.Sort.mapBlock,Go.Sort.ahead,Array.getElem?_modify,hgg,Go.Sort.onCells]
 ·simp[Go.Sort.putCells,hcs]
 ·rw[←kA,show ops.reverse.toArray=ops.toArray.reverse by simp]
  apply List.ext_getElem?
  intro t
  have hle:=Nat.mul_le_mul_right 3 hnc
  by_cases ht:t<ops.length*3
  ·rw[Yl ht,Array.getElem?_toList,Array.getElem?_toList]
   have hs2:t<(Go.Sort.flatK opL 3 ops.toArray.reverse).size:=by simpa using ht
   rw[Yk hs2]
   unfold Go.Sort.putCells
   rw[Array.getElem?_mapIdx,Yk (by rw[hcs];omega)]
   simp only[Option.map_some,Zk,ZC,true_and,Nat.sub_zero,id]
   rw[Z0 hs2,getElem!_pos _ t hs2]
  rw[Ya (by simp;omega),Ya (by simp;omega)]
 ·simp[Go.Sort.putRowK,Go.Sort.putRow,Go.Sort.mapBlock,Go.Sort.ahead]
 intro k hk hne
 have hne':¬g=k:=fun e=>hne (by rw[←e];rfl)
 simp[Go.Sort.putRowK,Go.Sort.putRow,Go.Sort.mapBlock,Go.Sort.ahead,Array.getElem?_modify,hne']
theorem zd {w:World} {ad:Option Addr} {cap:Nat} :
  Calls Tryz.prog 123 #[.slice ad 0 cap] w fun e w'=>e=.returned (.tuple #[])∧w'=w:=by
 go_enter Tryz.func123,Tryz.ntmps123
 go_wp2
 go_loopw [2,3] (fun a b wr=>a=.int .i64 0∧b=.int .i64 (-1)∧wr=w) (fun _ _ _=>0)
 case atStart=>exact⟨rfl,rfl,rfl⟩
 obtain⟨rfl,rfl,rfl⟩:=hrel
 go_wp2
 go_end0
 exact⟨rfl,rfl⟩
noncomputable def KV (P:Nat→Prop):Nat:=@Classical.epsilon Nat ⟨0⟩ (fun n=>P n∧∀m,P m→n≤m)
theorem UR {P:Nat→Prop} (h:∃n,P n):P (KV P)∧∀m,P m→KV P≤m:=by
 refine Classical.epsilon_spec (p:=fun n=>P n∧∀m,P m→n≤m) ?_
 obtain⟨n,hn⟩:=h
 induction n using Nat.strongRecOn with
 | _ n ih =>
  by_cases hm:∃m,m<n∧P m
  ·obtain⟨m,h1,h2⟩:=hm
   exact ih m h1 h2
  exact⟨n,hn,fun m h2=>Nat.le_of_not_lt (fun h1=>hm ⟨m,h1,h2⟩)⟩
def Xl (flows:List FL) (nI:Nat) (xIx fIx iIx:IE):Nat→PE→ByteArray→List Op3→Option (Nat × List Op3)
 | 0,_,_,_=>none
 | N+1,e,way,ops =>
  if 20<ops.length then some (0,ops)
  else if e.k=2 then some (nI+(xIx way).getD 0,ops)
  else if e.k≠1 then (match e.args.at 0 with
   | some c=>Xl flows nI xIx fIx iIx N c (way++⟨#[47]⟩++dg 0) (ops++[(e.k,e.n,e.d)])
   | none=>none)
  else match fIx e.nm with
   | some j=>(match flows[j]? with
    | some f=>Xl flows nI xIx fIx iIx N f.e (dg j) ops
    | none=>none)
   | none=>some ((iIx e.nm).getD 0,ops)
def Y9 (flows:List FL) (nI:Nat) (xIx fIx iIx:IE) (e:PE):Prop:=∃N,∀way ops,Xl flows nI xIx fIx iIx N e way ops≠none
section
variable {flows:List FL} {nI:Nat} {xIx fIx iIx:IE}
theorem VR {e:PE} (h:e.k=2):Y9 flows nI xIx fIx iIx e:=⟨1,fun way ops=>by
 rw[Xl]
 by_cases hl:20<ops.length
 ·rw[Z0 hl];exact Option.some_ne_none _
 rw[ZZ hl,Z0 h];exact Option.some_ne_none _⟩
theorem Ko {e c:PE} (h2:e.k≠2) (h1:e.k≠1) (hc:e.args.at 0=some c) (h:Y9 flows nI xIx fIx iIx c):Y9 flows nI xIx fIx iIx e:=by
 obtain⟨N,hN⟩:=h
 refine⟨N+1,fun way ops=>?_⟩
 rw[Xl]
 by_cases hl:20<ops.length
 ·rw[Z0 hl];exact Option.some_ne_none _
 rw[ZZ hl,ZZ h2,Z0 h1,hc]
 exact hN _ _
theorem VT {e:PE} (h1:e.k=1) (h:∀j,fIx e.nm=some j→∃f,flows[j]?=some f∧Y9 flows nI xIx fIx iIx f.e):Y9 flows nI xIx fIx iIx e:=by
 cases hf:fIx e.nm with
 | none =>
  refine⟨1,fun way ops=>?_⟩
  rw[Xl]
  by_cases hl:20<ops.length
  ·rw[Z0 hl];exact Option.some_ne_none _
  rw[ZZ hl,ZZ oq,ZZ oq,hf];exact Option.some_ne_none _
 | some j =>
  obtain⟨f,hfj,N,hN⟩:=h j hf
  refine⟨N+1,fun way ops=>?_⟩
  rw[Xl]
  by_cases hl:20<ops.length
  ·rw[Z0 hl];exact Option.some_ne_none _
  rw[ZZ hl,ZZ oq,ZZ oq,hf]
  simp only[hfj]
  exact hN _ _
theorem jo:∀{l:PL},l.len=1→∃k nm n d args a,l=.cons k nm n d args a .nil
 | .cons k nm n d args a .nil,_=>⟨k,nm,n,d,args,a,rfl⟩
 | .cons _ _ _ _ _ _ (.cons _ _ _ _ _ _ _),h=>by simp only[PL.len] at h;omega
 | .nil,h=>by simp only[PL.len] at h;omega
theorem ve {env:Env} (hE:∀nm,env nm≠none→∀j,fIx nm=some j→∃f,flows[j]?=some f∧Y9 flows nI xIx fIx iIx f.e) :
  ∀(M:Nat) (e:PE),e.args.sz<M→YF e=true→∀p q,Qg env e=.ok p q→Y9 flows nI xIx fIx iIx e:=by
 intro M
 induction M with
 | zero=>intro e h;omega
 | succ M ih =>
  intro e hM hex p q ht
  by_cases h2:e.k=2
  ·exact VR h2
  by_cases h1:e.k=1
  ·refine VT h1 (hE e.nm ?_)
   intro h0
   unfold Qg XQ at ht
   rw[Z0 h1,h0] at ht
   cases ht
  obtain⟨k,nm,n,d,args,a,hargs⟩:=jo ((U9 hex).2.2 h1 h2)
  have hc:e.args.at 0=some ⟨k,nm,n,d,args,a⟩:=by rw[hargs];rfl
  have ht':∃p q,Qg env ⟨k,nm,n,d,args,a⟩=.ok p q:=by
   unfold Qg at ht
   unfold XQ at ht
   rw[ZZ h1,hargs] at ht
   unfold Qg
   simp only[Xn] at ht
   cases h3:XQ env k nm n d a (Xn env args) with
   | ok p1 q1=>exact⟨p1,q1,rfl⟩
   | unk=>rw[h3] at ht;cases ht
   | bad a1 e1=>rw[h3] at ht;cases ht
  obtain⟨p',q',ht'⟩:=ht'
  refine Ko h2 h1 hc (ih _ ?_ (JO hex hc) p' q' ht')
  have:=(UJ _ _ _ hc).2
  omega
theorem qd {YX env:Env} (hg:GrE YX flows env) (h0:∀nm,YX nm≠none→fIx nm=none) (hx:∀f∈flows,YF f.e=true) (hu:∀i j (hi:i<flows.length) (hj:j<flows.length),flows[i].nm=flows[j].nm→i=j)
  (hF:∀nm j,fIx nm=some j→∃h:j<flows.length,flows[j].nm=nm):∀nm,env nm≠none→∀j,fIx nm=some j→∃f,flows[j]?=some f∧Y9 flows nI xIx fIx iIx f.e:=by
 induction hg with
 | base=>intro nm hn j hj;rw[h0 nm hn] at hj;cases hj
 | step hg hf hnone ht ih =>
  rename_i env1 f p q
  intro nm hn j hj
  obtain⟨hjl,hjn⟩:=hF nm j hj
  by_cases hnm:nm=f.nm
  ·obtain⟨i,hi,hfi⟩:=Yj hf
   obtain rfl:i=j:=hu i j hi hjl (by rw[hfi,hjn,hnm])
   exact⟨f,by rw[Ze hjl,hfi],ve ih _ f.e (ZU _) (hx f hf) p q ht⟩
  refine ih nm (fun h=>hn ?_) j hj
  unfold upd
  rw[ZZ hnm]
  exact h
theorem ki (hE:∀nm j,fIx nm=some j→∃f,flows[j]?=some f∧Y9 flows nI xIx fIx iIx f.e):∀(M:Nat) (e:PE),e.args.sz<M→YF e=true→Y9 flows nI xIx fIx iIx e:=by
 intro M
 induction M with
 | zero=>intro e h;omega
 | succ M ih =>
  intro e hM hex
  by_cases h2:e.k=2
  ·exact VR h2
  by_cases h1:e.k=1
  ·exact VT h1 (hE e.nm)
  obtain⟨k,nm,n,d,args,a,hargs⟩:=jo ((U9 hex).2.2 h1 h2)
  have hc:e.args.at 0=some ⟨k,nm,n,d,args,a⟩:=by rw[hargs];rfl
  refine Ko h2 h1 hc (ih _ ?_ (JO hex hc))
  have:=(UJ _ _ _ hc).2
  omega
end
theorem yi {P:Nat→Prop} {N M:Nat} (hN:N=M+1) (h:P M):KV P<N:=by
 have:=(UR ⟨M,h⟩).2 M h
 omega
theorem JW {w:World} {base:Nat} {v:Value} {ops:List Op3} (h:w.ownsRow base 135 3 v ops.length (Qd ops)) (hl:ops.length≤1000) :
  Calls Tryz.prog 123 #[v] w fun e w'=>e=.returned (.tuple #[])∧w'.ownsRow base 135 3 v ops.length (Qd ops.reverse)∧w.grownBy w' v.ownBlock:=by
 cases ops with
 | nil =>
  obtain⟨ad,cap,rfl⟩:∃ad cap,v=.slice ad 0 cap:=by
   rcases h.2 with ⟨rfl,_⟩|⟨g,cap,cur,rfl,_⟩
   ·exact⟨none,0,rfl⟩
   exact⟨_,cap,rfl⟩
  refine zd.mono ?_
  rintro e w' ⟨rfl,rfl⟩
  exact⟨rfl,h,World.grownBy.refl _ _⟩
 | cons o l=>exact yU h hl (by simp)
theorem vC:(Tryz.prog.info? 135).map (fun i=>(i.zero,i.size,i.bytes))=some (some (.agg #[.int .i64 0,.int .i64 0,.int .i64 0]),3,24):=by kernel_rfl
theorem QD {T K E:TypeId} {z:Value} (M:Xs T K E z) (w:World) {ops:Array Oper} {rest:List Oper} {o:Oper} {a:Act} {Q:Act→Prop}
  (hg:o.guard=none) (m x:Operand) (c:Bool) (hop:o.op=Op.lookup T m x c) (mb:Nat) (L:List (ByteArray × Value)) (k:ByteArray)
  (hm:a.eval m=.map (some mb)) (hx:a.eval x=.string k) (h:YJ w mb L) (u:Value) (hu:(if c then .tuple #[(YT k L).getD z,.bool (YT k L).isSome] else (YT k L).getD z)=u)
  (hK:wpStill Tryz.prog ops w Q rest (a.put o.dst u)):wpStill Tryz.prog ops w Q (o::rest) a:=by
 refine wpStill_step fun K' hK'=>?_
 have hrun:=Xr M h k c
 have e:(execOp a.eval o).run Tryz.prog w=.ok (.value u) w:=by
  rw[←hu];simp[execOp,hop,hm,hx,hrun]
 have hw:Region.wanted o (yielded ops a.tmps)=true:=by simp[Region.wanted,hg]
 rw[Z0 hw]
 unfold Oper.still
 rw[e]
 exact⟨rfl,hK' _ hK⟩
def Uh (e:PE) (ad:Option Addr) (cap:Nat) (way:ByteArray):Obj:=.cells #[.int .i64 e.k,.string e.nm,.int .i64 e.n,.int .i64 e.d,.slice ad e.args.len cap,.int .i64 e.a,.string way] 157 (0,0)
structure zo (W0 w:World) (flows:List FL) (nI:Nat) (xIx fIx iIx:IE) (res:Nat × List Op3) (N:Nat) (wr:World) (e:PE) (way:ByteArray) (ad:Option Addr) (cap:Nat) (ops:List Op3) (v:Value):Prop where
 go:Xl flows nI xIx fIx iIx N e way ops=some res
 sp:X9 W0 e ad cap way
 b0:wr.heap[w.heap.size]?=some (Uh e ad cap way)
 b1:wr.heap[w.heap.size+1]?=some (.cells #[.int .i64 0,.slice none 0 0] 75 (0,0))
 b2:wr.heap[w.heap.size+1+1]?=some (.cells #[.int .i64 0,v] 75 (0,0))
 own:wr.ownsRow (w.heap.size+3) 135 3 v ops.length (Qd ops)
 low:Below w.heap.size w wr
 size:w.heap.size+3≤wr.heap.size
 few:ops.length≤21
def AoN (W0 w:World) (flows:List FL) (nI:Nat) (xIx fIx iIx:IE) (res:Nat × List Op3) (wr:World) (N:Nat):Prop:=∃e way ad cap ops v,zo W0 w flows nI xIx fIx iIx res N wr e way ad cap ops v
theorem Za1 {w:World} {b:Nat} {v0 v1:Value} {t:TypeId} (h:w.heap[b]?=some (.cells #[v0,v1] t (0,0))) (u:Value):(w.setCell ⟨b,0,none⟩ u).heap[b]?=some (.cells #[u,v1] t (0,0)):=Zj w b 0 _ t u h
structure ZcX (w wx:World) (sv:Value) (v:Value) (ops:List Op3) (wv:World):Prop where
 own:wv.ownsRow (w.heap.size+3) 135 3 v ops.length (Qd ops.reverse)
 b1:wv.heap[w.heap.size+1]?=some (.cells #[.int .i64 0,.slice none 0 0] 75 (0,0))
 b2:wv.heap[w.heap.size+1+1]?=some (.cells #[sv,v] 75 (0,0))
 low:Below w.heap.size w wv
 size:w.heap.size+3≤wv.heap.size
theorem ZbN {w wx wv:World} {sv v:Value} {ops:List Op3} (ho:wx.ownsRow (w.heap.size+3) 135 3 v ops.length (Qd ops)) (hb1:wx.heap[w.heap.size+1]?=some (.cells #[.int .i64 0,.slice none 0 0] 75 (0,0))) (hb:wx.heap[w.heap.size+1+1]?=some (.cells #[sv,v] 75 (0,0))) (hlow:Below w.heap.size w wx) (hsz:w.heap.size+3≤wx.heap.size)
  (h1:wv.ownsRow (w.heap.size+3) 135 3 v ops.length (Qd ops.reverse)) (hg:wx.grownBy wv v.ownBlock):ZcX w wx sv v ops wv:=by
 have hk:∀k,k<w.heap.size+3→wv.heap[k]?=wx.heap[k]?:=fun k hk=>hg.block k oq (fun e=>by have:=YW ho k e.symm;omega)
 exact⟨h1,(hk _ oq).trans hb1,(hk _ oq).trans hb,hlow.trans ⟨hg.os,hg.tape,hg.output,hg.size,fun k hk'=>hk k oq⟩,Zm hsz hg.size⟩
theorem ZcR {w:World} {b:Nat} {u0 u1 u2 u3 u4 u5 u6:Value} {t:TypeId} (h:w.heap[b]?=some (.cells #[u0,u1,u2,u3,u4,u5,u6] t (0,0))) (v0 v1 v2 v3 v4 v5 v6:Value) :
  (((((((w.setCell ⟨b,0,none⟩ v0).setCell ⟨b,1,none⟩ v1).setCell ⟨b,2,none⟩ v2).setCell ⟨b,3,none⟩ v3).setCell ⟨b,4,none⟩ v4).setCell ⟨b,5,none⟩ v5).setCell ⟨b,6,none⟩ v6).heap[b]?=some (.cells #[v0,v1,v2,v3,v4,v5,v6] t (0,0)):=by
 have h0:=Zj _ b 0 _ t v0 h
 have h1:=Zj _ b 1 _ t v1 h0
 have h2:=Zj _ b 2 _ t v2 h1
 have h3:=Zj _ b 3 _ t v3 h2
 have h4:=Zj _ b 4 _ t v4 h3
 have h5:=Zj _ b 5 _ t v5 h4
 have h6:=Zj _ b 6 _ t v6 h5
 simpa only [sA,sB,sC] using h6
theorem Za4 (w:World) (b:Nat) (v0 v1 v2 v3 v4 v5 v6:Value) :
  Upon b w (((((((w.setCell ⟨b,0,none⟩ v0).setCell ⟨b,1,none⟩ v1).setCell ⟨b,2,none⟩ v2).setCell ⟨b,3,none⟩ v3).setCell ⟨b,4,none⟩ v4).setCell ⟨b,5,none⟩ v5).setCell ⟨b,6,none⟩ v6) :=
 (((((((Upon.refl b w).setAt (Or.inl rfl) _).setAt (Or.inl rfl) _).setAt (Or.inl rfl) _).setAt (Or.inl rfl) _).setAt (Or.inl rfl) _).setAt (Or.inl rfl) _).setAt (Or.inl rfl) _
theorem zo.next {W0 w:World} {flows:List FL} {nI:Nat} {xIx fIx iIx:IE} {res:Nat × List Op3} {N:Nat} {wr:World} {e:PE} {way:ByteArray} {ad:Option Addr} {cap:Nat} {ops:List Op3} {v:Value} (h:zo W0 w flows nI xIx fIx iIx res N wr e way ad cap ops v)
  {w5 W':World} (hb:Below wr.heap.size wr w5) (hu:Upon w.heap.size w5 W') {M:Nat} {e':PE} {way':ByteArray} {ad':Option Addr} {cap':Nat} (hgo:Xl flows nI xIx fIx iIx M e' way' ops=some res) (hsp:X9 W0 e' ad' cap' way') (hb0:W'.heap[w.heap.size]?=some (Uh e' ad' cap' way')) :
  zo W0 w flows nI xIx fIx iIx res M W' e' way' ad' cap' ops v:=by
 have hs:=h.size
 have hs5:=hb.size
 exact⟨hgo,hsp,hb0,(hu.block _ oq oq).trans ((hb.block _ oq).trans h.b1),(hu.block _ oq oq).trans ((hb.block _ oq).trans h.b2),Gc (own_below h.own hb) oq hu,(h.low.trans (hb.mono oq)).trans (hu.below oq (Zc _)),by have:=hu.size;omega,h.few⟩
theorem zo.more {W0 w:World} {flows:List FL} {nI:Nat} {xIx fIx iIx:IE} {res:Nat × List Op3} {N:Nat} {wr:World} {e:PE} {way:ByteArray} {ad:Option Addr} {cap:Nat} {ops:List Op3} {v:Value} (h:zo W0 w flows nI xIx fIx iIx res N wr e way ad cap ops v)
  {w3 w4:World} (hb:Below wr.heap.size wr w3) {ob:Obj} {v':Value} {o:Op3} (hown:w4.ownsRow (w.heap.size+3) 135 3 v' (ops.length+1) (Qd ops++[.int .i64 o.1,.int .i64 o.2.1,.int .i64 o.2.2])) (hg:(w3.alloc ob).grownBy w4 v.ownBlock) (hfew:ops.length≤20) {M:Nat} {res':Nat × List Op3} :
  (∀k,k<w.heap.size+3→w4.heap[k]?=wr.heap[k]?)∧(Below w.heap.size w (w4.setCell ⟨w.heap.size+1+1,1,none⟩ v')∧w.heap.size+3≤(w4.setCell ⟨w.heap.size+1+1,1,none⟩ v').heap.size)∧(∀M e' way' ad' cap',Xl flows nI xIx fIx iIx M e' way' (ops++[o])=some res→X9 W0 e' ad' cap' way'→∀w5 W',Below (w4.setCell ⟨w.heap.size+1+1,1,none⟩ v').heap.size (w4.setCell ⟨w.heap.size+1+1,1,none⟩ v') w5→Upon w.heap.size w5 W'→W'.heap[w.heap.size]?=some (Uh e' ad' cap' way')→zo W0 w flows nI xIx fIx iIx res M W' e' way' ad' cap' (ops++[o]) v'):=by
 have hs:=h.size
 have hs3:=hb.size
 have hg4:∀k,k<w.heap.size+3→w4.heap[k]?=wr.heap[k]?:=fun k hk =>
  (hg.block k (by simp;omega) (fun e=>by have:=YW h.own k e.symm;omega)).trans ((Za _ _ _ oq).trans (hb.block k oq))
 have hs4:w.heap.size+3≤w4.heap.size:=Zm (by simp;omega) hg.size
 have hlow4:Below w.heap.size w w4:=h.low.trans ⟨hg.os.trans hb.os,hg.tape.trans hb.tape,hg.output.trans hb.output,Zm hs3 (Zm (by simp) hg.size),fun k hk=>hg4 k oq⟩
 have hs4':w.heap.size+3≤(w4.setCell ⟨w.heap.size+1+1,1,none⟩ v').heap.size:=Zm hs4 ((Zg 0 w4).setCell (p:=⟨w.heap.size+1+1,1,none⟩) (Zk _) _).size
 refine⟨hg4,⟨hlow4.setCell (p:=⟨w.heap.size+1+1,1,none⟩) (ZV _ 2) _,hs4'⟩,fun M e' way' ad' cap' hgo hsp w5 W' hb5 hu hb0=>?_⟩
 have hs5:=hb5.size
 have hb1:(w4.setCell ⟨w.heap.size+1+1,1,none⟩ v').heap[w.heap.size+1]?=some (.cells #[.int .i64 0,.slice none 0 0] 75 (0,0)):=(Zr _ _ _ _ (by simp)).trans ((hg4 _ oq).trans h.b1)
 have hb2:(w4.setCell ⟨w.heap.size+1+1,1,none⟩ v').heap[w.heap.size+1+1]?=some (.cells #[.int .i64 0,v'] 75 (0,0)):=Zj _ _ _ _ _ _ ((hg4 _ oq).trans h.b2)
 have hown':(w4.setCell ⟨w.heap.size+1+1,1,none⟩ v').ownsRow (w.heap.size+3) 135 3 v' (ops++[o]).length (Qd (ops++[o])):=by
  rw[yD,Zw]
  exact Xw hown oq _
 exact⟨hgo,hsp,hb0,(hu.block _ oq oq).trans ((hb5.block _ oq).trans hb1),(hu.block _ oq oq).trans ((hb5.block _ oq).trans hb2),Gc (own_below hown' hb5) oq hu,((hlow4.setCell (p:=⟨w.heap.size+1+1,1,none⟩) (ZV _ 2) _).trans (hb5.mono oq)).trans (hu.below oq (Zc _)),by have:=hu.size;omega,by simp;omega⟩
theorem GN {W0 w:World} (p:PG) (an ai af ao:Option Addr) (cn ci cf co:Nat) (hp:AP W0 p an ai af ao cn ci cf co) (hok:Jd p) (mc mi mf mn mx m:Nat) (Lc Li Lf Ln Lx:List (ByteArray × Value)) (hM:Mkr W0 p an ai af ao cn ci cf co mc mi mf mn mx m Lc Li Lf Ln Lx w)
  (xIx fIx iIx:IE) (hX:Xf Lx xIx) (hF:Xf Lf fIx) (hI:Xf Li iIx) (hxb:∀k j,xIx k=some j→j≤1000) (N:Nat) (e:PE) (way:ByteArray) (ad:Option Addr) (cap:Nat) (hs:X9 W0 e ad cap way) (s:Nat) (ops:List Op3) (hgo:Xl p.flows p.ins.length xIx fIx iIx N e way []=some (s,ops)) :
  Calls Tryz.prog 85 #[.pointer (some ⟨m,0,none⟩),spv e ad cap way] w fun x w'=>(∃v,x=.returned (.agg #[.int .i64 (s:Int),v])∧w'.ownsRow w.heap.size 135 3 v ops.length (Qd ops.reverse))∧Below w.heap.size w w':=by
 have hlm:=hM.lt
 have hw0:=hM.low.size
 have hll:=hok.lens
 have HM:=hid hM
 have HP:=hid hp
 have HOK:=hid hok
 have HX:=hid hX
 have HF:=hid hF
 have HI:=hid hI
 have HXB:=hid hxb
 have HS:=hid hs
 have HG:=hid hgo
 clear hM hp hok hX hF hI hxb hs hgo
 unfold spv
 go_enter Tryz.func85,Tryz.ntmps85
 go_wp2
 obtain⟨W3,hW3⟩:∃W3,((w.alloc (.cells #[.int .i64 e.k,.string e.nm,.int .i64 e.n,.int .i64 e.d,.slice ad e.args.len cap,.int .i64 e.a,.string way] 157)).alloc (.cells #[.int .i64 0,.slice none 0 0] 75)).alloc (.cells #[.int .i64 0,.slice none 0 0] 75)=W3:=⟨_,rfl⟩
 rw[hW3]
 have HN3:=hid (show AoN W0 w p.flows p.ins.length xIx fIx iIx (s,ops) W3 N from by
  refine⟨e,way,ad,cap,[],.slice none 0 0,HG.out,HS.out,?_,?_,?_,Yd _ _ _ _,?_,?_,by simp⟩
  ·rw[←hW3];exact(Za _ _ _ (by simp;omega)).trans ((Za _ _ _ (by simp)).trans (Yt w _))
  ·rw[←hW3];exact(Za _ _ _ (by simp)).trans (by simpa using Yt (w.alloc (.cells #[.int .i64 e.k,.string e.nm,.int .i64 e.n,.int .i64 e.d,.slice ad e.args.len cap,.int .i64 e.a,.string way] 157)) (.cells #[.int .i64 0,.slice none 0 0] 75))
  ·rw[←hW3];simpa using Yt ((w.alloc (.cells #[.int .i64 e.k,.string e.nm,.int .i64 e.n,.int .i64 e.d,.slice ad e.args.len cap,.int .i64 e.a,.string way] 157)).alloc (.cells #[.int .i64 0,.slice none 0 0] 75)) (.cells #[.int .i64 0,.slice none 0 0] 75)
  ·rw[←hW3];exact bq
  rw[←hW3];simp)
 clear hW3 HS HG
 go_loopw [] (fun wr=>Hid (∃N,AoN W0 w p.flows p.ins.length xIx fIx iIx (s,ops) wr N)) (fun wr=>KV (AoN W0 w p.flows p.ins.length xIx fIx iIx (s,ops) wr))
 case atStart=>exact⟨_,HN3.out⟩
 obtain⟨⟨e2,way2,ad2,cap2,ops2,v2,hA⟩,hmin⟩:=UR hrel.out
 clear hrel HN3
 obtain⟨N2,hN2⟩:∃N2,KV (AoN W0 w p.flows p.ins.length xIx fIx iIx (s,ops) wr)=N2:=⟨_,rfl⟩
 rw[hN2] at hA hmin
 obtain⟨ad3,cap3,rfl⟩:=YD hA.own
 have HA:=hid hA
 obtain⟨⟨c0,c1⟩,cfz⟩:=YG hA.b2
 have hfew:=hA.few
 have hsz:=hA.size
 have HN2:=hid hN2
 clear hA hmin hN2
 obtain⟨i0,hi0,hi1,hi2,hi3⟩:=info_parts vC
 have HIO:=hid (Zh hi0 (Zh hi1 (Zh hi2 hi3)))
 clear hi0 hi1 hi2 hi3
 by_cases h20:20<ops2.length
 ·have hle:¬(ops2.length:Int)≤20:=oq
  obtain⟨M,hM⟩:∃M,N2=M+1:=by
   cases N2 with
   | zero=>have:=HA.out.go;rw[Xl] at this;cases this
   | succ M=>exact⟨M,rfl⟩
  have hgo:=HA.out.go
  rw[hM,Xl,Z0 h20] at hgo
  injection hgo with hgo
  have HGO:=hid hgo
  clear hgo
  go_wp2_with (go_at_call 123;refine(JW (HA.out.own) oq).mono ?_;rintro x wv ⟨rfl,hov,hgv⟩;have hRV:=ZbN (HA.out.own) (HA.out.b1) (HA.out.b2) (HA.out.low) (HA.out.size) hov hgv;obtain⟨⟨d0,d1⟩,df⟩:=YG hRV.b2;obtain⟨⟨q0,q1⟩,qf⟩:=YG hRV.b1;have HRV:=hid hRV;have hsv:=hRV.size;clear hov hgv hRV)
  (refine Zl (v:=.agg #[.int .i64 0,.slice ad3 ops2.length cap3]) ?_ rfl ⟨⟨.slice ad3 ops2.length cap3,?_,?_⟩,?_⟩;(focus (simp only[results,Tryz.results85];go_simp));(focus (have hgo:=HGO.out;injection hgo with h1 h2;subst h1;subst h2;first|done|rfl));(focus (have hgo:=HGO.out;injection hgo with h1 h2;subst h1;subst h2;exact Y6 (Xw (Xw HRV.out.own oq _) oq _) oq));exact((HRV.out.low.setCell (p:=⟨w.heap.size+1,0,none⟩) (by show w.heap.size≤w.heap.size+1;omega) _).setCell (p:=⟨w.heap.size+1,1,none⟩) (by show w.heap.size≤w.heap.size+1;omega) _))
 have hle:(ops2.length:Int)≤20:=oq
 obtain⟨⟨x0,x1,x2,x3,x4,x5,x6⟩,xf⟩:=YP (show wr.heap[w.heap.size]?=some (.cells #[.int .i64 e2.k,.string e2.nm,.int .i64 e2.n,.int .i64 e2.d,.slice ad2 e2.args.len cap2,.int .i64 e2.a,.string way2] 157 (0,0)) from HA.out.b0)
 have hmr:=HM.out.keep (B:=w.heap.size) hlm HA.out.low
 have HMR:=hid hmr
 obtain⟨⟨z0,z1,z2,z3,z4,z5,z6,z7,z8⟩,zf⟩:=YN (show wr.heap[m]?=_ from hmr.box)
 clear hmr
 obtain⟨M,hM⟩:∃M,N2=M+1:=by
  cases N2 with
  | zero=>have:=HA.out.go;rw[Xl] at this;cases this
  | succ M=>exact⟨M,rfl⟩
 have hgo:=HA.out.go
 rw[hM,Xl,ZZ h20] at hgo
 have HMM:=hid hM
 clear hM
 by_cases hk2:e2.k=2
 ·rw[Z0 hk2] at hgo
  injection hgo with hgo
  have HGO:=hid hgo
  clear hgo
  rw[hk2] at x0
  go_wp2
  refine wp_region_still_tail 14 kq kq ?_
  simp only[List.take_succ_cons,List.take_zero,List.drop_succ_cons,List.drop_zero]
  repeat still_step
  refine QD jO _ rfl _ _ false rfl mx Lx way2 rfl rfl HMR.out.x (.int .i64 (((xIx way2).getD 0:Nat):Int)) ?_ ?_
  ·rw[HX.out way2];cases xIx way2<;>rfl
  have hxx:(xIx way2).getD 0≤1000:=by
   cases hc:xIx way2 with
   | none=>simp
   | some j=>exact HXB.out way2 j hc
  have hi64:IntKind.i64.wrap ((p.ins.length:Int)+(((xIx way2).getD 0:Nat):Int))=((p.ins.length+(xIx way2).getD 0:Nat):Int):=by rw[ZJ _ oq];omega
  obtain⟨sx,hsx⟩:∃sx,p.ins.length+(xIx way2).getD 0=sx:=⟨_,rfl⟩
  obtain⟨nx,hnx⟩:∃nx,(xIx way2).getD 0=nx:=⟨_,rfl⟩
  rw[hsx] at HGO hi64
  rw[hnx] at hi64 ⊢
  clear hnx hsx hxx
  repeat still_step
  try refine wpStill_nil ?_
  change wpList _ _ _ _ _ wr.drew
  go_wp2_with (go_at_call 123;refine(JW ((Xw HA.out.own oq _).drew) oq).mono ?_;rintro x wv ⟨rfl,hov,hgv⟩;have hRV:=ZbN ((Xw HA.out.own oq _).drew) ((Zr _ _ _ _ (by simp)).trans HA.out.b1) (Za1 HA.out.b2 _) ((HA.out.low.setCell (p:=⟨w.heap.size+1+1,0,none⟩) (ZV _ 2) _).drew) (Zm HA.out.size ((Zg 0 wr).setCell (p:=⟨w.heap.size+1+1,0,none⟩) (Zk _) _).size) hov hgv;obtain⟨⟨d0,d1⟩,df⟩:=YG hRV.b2;obtain⟨⟨q0,q1⟩,qf⟩:=YG hRV.b1;have HRV:=hid hRV;have hsv:=hRV.size;clear hov hgv hRV)
  (refine Zl (v:=.agg #[.int .i64 (sx:Int),.slice ad3 ops2.length cap3]) ?_ rfl ⟨⟨.slice ad3 ops2.length cap3,?_,?_⟩,?_⟩;(focus (simp only[results,Tryz.results85];go_simp));(focus (have hgo:=HGO.out;injection hgo with h1 h2;subst h1;subst h2;first|done|rfl));(focus (have hgo:=HGO.out;injection hgo with h1 h2;subst h1;subst h2;exact Y6 (Xw (Xw HRV.out.own oq _) oq _) oq));exact((HRV.out.low.setCell (p:=⟨w.heap.size+1,0,none⟩) (by show w.heap.size≤w.heap.size+1;omega) _).setCell (p:=⟨w.heap.size+1,1,none⟩) (by show w.heap.size≤w.heap.size+1;omega) _))
 rw[ZZ hk2] at hgo
 have hk2':(e2.k == 2)=false:=ZW.2 hk2
 by_cases hk1:e2.k=1
 ·rw[ZZ (show ¬e2.k≠1 from fun h=>h hk1)] at hgo
  rw[hk1] at x0
  cases hf:fIx e2.nm with
  | none =>
   rw[hf] at hgo
   injection hgo with hgo
   have HGO:=hid hgo
   have HFN:=hid hf
   clear hgo hf hk2 hk2'
   go_wp2
   refine wp_region_still_lit kq kq ?_
   repeat still_step
   refine QD QA _ rfl _ _ true rfl mf Lf e2.nm rfl rfl HMR.out.f (.tuple #[.int .i64 0,.bool false]) ?_ ?_
   ·rw[HF.out e2.nm,HFN.out];rfl
   repeat still_step
   refine wpStill_nil ?_
   generalize hW2:({ wr with drawn:=wr.drawn+1 }:World)=W2
   have hA2:zo W0 w p.flows p.ins.length xIx fIx iIx (s,ops) N2 W2 e2 way2 ad2 cap2 ops2 (.slice ad3 ops2.length cap3):=by
    rw[←hW2];exact⟨HA.out.go,HA.out.sp,HA.out.b0,HA.out.b1,HA.out.b2,HA.out.own,⟨HA.out.low.os,HA.out.low.tape,HA.out.low.output,HA.out.low.size,HA.out.low.block⟩,HA.out.size,HA.out.few⟩
   have hm2:=HM.out.keep (B:=w.heap.size) hlm hA2.low
   clear hW2 c0 c1 cfz x0 x1 x2 x3 x4 x5 x6 xf z0 z1 z2 z3 z4 z5 z6 z7 z8 zf
   obtain⟨⟨c0,c1⟩,cfz⟩:=YG hA2.b2
   obtain⟨⟨x0,x1,x2,x3,x4,x5,x6⟩,xf⟩:=YP (show W2.heap[w.heap.size]?=some (.cells #[.int .i64 e2.k,.string e2.nm,.int .i64 e2.n,.int .i64 e2.d,.slice ad2 e2.args.len cap2,.int .i64 e2.a,.string way2] 157 (0,0)) from hA2.b0)
   obtain⟨⟨z0,z1,z2,z3,z4,z5,z6,z7,z8⟩,zf⟩:=YN (show W2.heap[m]?=_ from hm2.box)
   have HA2:=hid hA2
   have HM2:=hid hm2
   clear hA2 hm2
   go_wp2
   refine wp_region_still_tail 8 kq kq ?_
   simp only[List.take_succ_cons,List.take_zero,List.drop_succ_cons,List.drop_zero]
   repeat still_step
   refine QD QA _ rfl _ _ false rfl mi Li e2.nm rfl rfl HM2.out.i (.int .i64 (((iIx e2.nm).getD 0:Nat):Int)) ?_ ?_
   ·rw[HI.out e2.nm];cases iIx e2.nm<;>rfl
   obtain⟨sx,hsx⟩:∃sx,(iIx e2.nm).getD 0=sx:=⟨_,rfl⟩
   rw[hsx] at HGO ⊢
   clear hsx
   repeat still_step
   try refine wpStill_nil ?_
   change wpList _ _ _ _ _ W2.drew
   go_wp2_with (go_at_call 123;refine(JW ((Xw HA2.out.own oq _).drew) oq).mono ?_;rintro x wv ⟨rfl,hov,hgv⟩;have hRV:=ZbN ((Xw HA2.out.own oq _).drew) ((Zr _ _ _ _ (by simp)).trans HA2.out.b1) (Za1 HA2.out.b2 _) ((HA2.out.low.setCell (p:=⟨w.heap.size+1+1,0,none⟩) (ZV _ 2) _).drew) (Zm HA2.out.size ((Zg 0 W2).setCell (p:=⟨w.heap.size+1+1,0,none⟩) (Zk _) _).size) hov hgv;obtain⟨⟨d0,d1⟩,df⟩:=YG hRV.b2;obtain⟨⟨q0,q1⟩,qf⟩:=YG hRV.b1;have HRV:=hid hRV;have hsv:=hRV.size;clear hov hgv hRV)
   (refine Zl (v:=.agg #[.int .i64 (sx:Int),.slice ad3 ops2.length cap3]) ?_ rfl ⟨⟨.slice ad3 ops2.length cap3,?_,?_⟩,?_⟩;(focus (simp only[results,Tryz.results85];go_simp));(focus (have hgo:=HGO.out;injection hgo with h1 h2;subst h1;subst h2;first|done|rfl));(focus (have hgo:=HGO.out;injection hgo with h1 h2;subst h1;subst h2;exact Y6 (Xw (Xw HRV.out.own oq _) oq _) oq));exact((HRV.out.low.setCell (p:=⟨w.heap.size+1,0,none⟩) (by show w.heap.size≤w.heap.size+1;omega) _).setCell (p:=⟨w.heap.size+1,1,none⟩) (by show w.heap.size≤w.heap.size+1;omega) _))
  | some j =>
   rw[hf] at hgo
   simp only at hgo
   cases hfl:p.flows[j]? with
   | none=>rw[hfl] at hgo;cases hgo
   | some f =>
    rw[hfl] at hgo
    simp only at hgo
    obtain⟨hjl,hfj⟩:=Zz.1 hfl
    have HGO:=hid hgo
    have HFN:=hid hf
    obtain⟨hfl1,hfl2⟩:=HOK.out.flows _ (Zi hjl)
    have HFS:=hid (fun(w':World) (hb:Below W0.heap.size W0 w')=>Qc hb p an ai af ao cn ci cf co HP.out j hjl oq)
    rw[hfj] at HFS hfl1 hfl2
    obtain⟨fnm,⟨k5,nm5,n5,d5,args5,a5⟩,fa5⟩:=f
    unfold pv spv PE.sz at *
    simp only at HFS hfl1
    have HG5:=hid hfl2
    have hdg:=Ju (i:=j) oq
    clear hgo hf hk2 hk2' hfl hfj hfl2
    go_wp2
    refine wp_region_still_lit kq kq ?_
    repeat still_step
    refine QD QA _ rfl _ _ true rfl mf Lf e2.nm rfl rfl HMR.out.f (.tuple #[.int .i64 (j:Int),.bool true]) ?_ ?_
    ·rw[HF.out e2.nm,HFN.out];rfl
    repeat still_step
    refine wpStill_nil ?_
    go_wp2_with (go_at_call 76;refine(HFS.out wr.drew ((HM.out.low.trans (HA.out.low.mono hw0)).drew)).mono ?_;rintro x w5 ⟨⟨ad5,cap5,rfl,hae5⟩,hb5⟩;have hs5:=hb5.size;have hy5:=(hb5.block w.heap.size (by show w.heap.size<wr.heap.size;omega)).trans HA.out.b0;obtain⟨⟨y0,y1,y2,y3,y4,y5,y6⟩,yf⟩:=YP hy5;have HB5:=hid (show Below wr.heap.size wr w5 from ⟨hb5.os,hb5.tape,hb5.output,hb5.size,hb5.block⟩);have HY5:=hid hy5;have HAE5:=hid hae5;clear hb5 hy5 hae5)
    have hX:=HA.out.next HB5.out (Za4 w5 w.heap.size (.int .i64 k5) (.string nm5) (.int .i64 n5) (.int .i64 d5) (.slice ad5 args5.len cap5) (.int .i64 a5) (.string (dg j))) HGO.out (show X9 W0 ⟨k5,nm5,n5,d5,args5,a5⟩ ad5 cap5 (dg j) from ⟨HAE5.out,HG5.out,by show(dg j).size+3*args5.sz≤500;omega,by show args5.sz<100;omega⟩) (ZcR HY5.out _ _ _ _ _ _ _)
    refine⟨hid ⟨M,_,_,_,_,_,_,hX⟩,?_⟩
    rw[HN2.out]
    exact yi HMM.out ⟨_,_,_,_,_,_,hX⟩
 rw[Z0 hk1] at hgo
 cases hc:e2.args.at 0 with
 | none=>rw[hc] at hgo;cases hgo
 | some c =>
  rw[hc] at hgo
  simp only at hgo
  have HGO:=hid hgo
  have hk1':(e2.k != 1)=true:=bne_iff_ne.2 hk1
  have HARG:=hid (fun(w':World) (hb:Below W0.heap.size W0 w')=>Q5 hb e2 c ad2 cap2 way2 0 HA.out.sp hc)
  have HOP:=hid (fun(w':World)=>Uc (w:=w') e2 ad2 cap2)
  obtain⟨k2,nm2,n2,d2,args2,a2⟩:=e2
  obtain⟨k5,nm5,n5,d5,args5,a5⟩:=c
  unfold spv ev at *
  simp only at *
  clear hgo hc hk1 hk2
  go_wp2
  have hbd:w.heap.size+1+1<wr.heap.size:=oq
  go_region_law (first|(refine step_append_lies _ (by rfl) _ _ _ (by rfl) (w.heap.size+3) 135 i0 _ 3 24 Tryz.underlying73 HIO.out.1 HIO.out.2.1 HIO.out.2.2.1 HIO.out.2.2.2 rfl oq (.slice ad3 ops2.length cap3) ops2.length (Qd ops2) (by rfl) ((own_below HA.out.own HB3.out).alloc _) ⟨w3.heap.size,0,none⟩ 1 1 [.int .i64 k2,.int .i64 n2,.int .i64 d2] (by rfl) (by rfl) (World.news_of_block (Zy _ _)) (by simp[Value.oneCell']) oq (by unfold maxLen;omega) oq (by simp;omega) (w3.heap.size+1) (by simp) ?_;intro gg cap4 w4 hown4 hgrow4 hat4 hlt4;have hMO:=HA.out.more (o:=(k2,n2,d2)) HB3.out hown4 hgrow4 oq (M:=M) (res':=(s,ops));have kz4:w4.cell? ⟨w.heap.size+1+1,1,none⟩=some (.slice ad3 ops2.length cap3):=(Zn (w:=wr) (hMO.1 _ (by show w.heap.size+1+1<w.heap.size+3;omega))).trans c1;have kf4:w4.frozen? ⟨w.heap.size+1+1,1,none⟩=false:=(Z4 (w:=wr) (hMO.1 _ (by show w.heap.size+1+1<w.heap.size+3;omega))).trans (cfz _);have HMO:=hid hMO;clear hMO hown4 hgrow4)|(go_simp;go_at_call 122;refine(HOP.out _).mono ?_;rintro x w3 ⟨rfl,hb3⟩;have kc3:w3.cell? ⟨w.heap.size+1+1,1,none⟩=some (.slice ad3 ops2.length cap3):=(hb3.cell (p:=⟨w.heap.size+1+1,1,none⟩) hbd).trans c1;have l3:w.heap.size+1+1<w3.heap.size:=Zd hbd hb3.size;have HB3:=hid (show Below wr.heap.size wr w3 from ⟨hb3.os,hb3.tape,hb3.output,hb3.size,hb3.block⟩);clear hb3))
  all_goals
   have hb04:(w4.setCell ⟨w.heap.size+1+1,1,none⟩ (.slice (some ⟨gg,0,none⟩) (ops2.length+1) cap4)).heap[w.heap.size]?=some (Uh ⟨k2,nm2,n2,d2,args2,a2⟩ ad2 cap2 way2):=(Zr _ _ _ _ (by simp;omega)).trans ((HMO.out.1 _ oq).trans HA.out.b0)
   obtain⟨W5,hW5⟩:∃W5,w4.setCell ⟨w.heap.size+1+1,1,none⟩ (.slice (some ⟨gg,0,none⟩) (ops2.length+1) cap4)=W5:=⟨_,rfl⟩
   rw[hW5] at hb04 HMO ⊢
   clear x0 x1 x2 x3 x4 x5 x6 xf
   obtain⟨⟨x0,x1,x2,x3,x4,x5,x6⟩,xf⟩:=YP hb04
   have HB04:=hid hb04
   clear hb04 hW5 kz4 kf4
   go_wp2_with (go_at_call 81;refine(HARG.out W5 (HM.out.low.trans (HMO.out.2.1.1.mono hw0))).mono ?_;rintro x w6 ⟨⟨ad6,cap6,rfl,hsp6⟩,hb6⟩;have hy6:=(hb6.block w.heap.size (by have:=HMO.out.2.1.2;omega)).trans HB04.out;obtain⟨⟨y0,y1,y2,y3,y4,y5,y6⟩,yf⟩:=YP hy6;have HB6:=hid hb6;have HY6:=hid hy6;have HSP6:=hid hsp6;clear hb6 hy6 hsp6)
   have hX:=HMO.out.2.2 M _ _ _ _ HGO.out HSP6.out w6 _ HB6.out (Za4 w6 w.heap.size (.int .i64 k5) (.string nm5) (.int .i64 n5) (.int .i64 d5) (.slice ad6 args5.len cap6) (.int .i64 a5) (.string (way2++⟨#[47]⟩++dg 0))) (ZcR HY6.out _ _ _ _ _ _ _)
   refine⟨hid ⟨M,_,_,_,_,_,_,hX⟩,?_⟩
   rw[HN2.out]
   exact yi HMM.out ⟨_,_,_,_,_,_,hX⟩
end Go.Proofs.YtlhlcdjiafdoeaaGreatDoor.syn
