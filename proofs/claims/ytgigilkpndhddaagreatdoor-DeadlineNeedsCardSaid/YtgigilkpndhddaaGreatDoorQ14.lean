/-
  Parts of the proof: Gath3, Gath4.
-/
import Derived.StillTailTactics
import Derived.Test.YtgigilkpndhddaaGreatDoorQ13
namespace Go.Proofs.YtgigilkpndhddaaGreatDoor.syn
set_option linter.unusedVariables false
set_option linter.unusedSimpArgs false
set_option linter.unnecessarySimpa false
set_option maxRecDepth 100000
set_option maxHeartbeats 16000000
open Go.RowKit
theorem kz {W1 w:World} {gb mb nn:Nat} {stk:List SE} (h:GW W1 gb mb nn stk w) {b o:Nat} {e:PE} (he:Jl W1 b o e) (hk:e.k≠11) (hn:e.args=.nil) :
  Calls Tryz.prog 180 #[.pointer (some ⟨gb,0,none⟩),.pointer (some ⟨b,o,none⟩)] w fun x w'=>x=.returned (.tuple #[])∧w'=w:=by
 obtain⟨k,nm,n,d,args,a⟩:=e
 obtain⟨hlt,hfz,c0,c1,c2,c3,c5,⟨ad,cap,c4,_⟩,_⟩:=he
 simp only at hk c0 c4 hn
 subst hn
 have hc:=fun o=>h.low.cell (p:=⟨b,o,none⟩) hlt
 have d0:=(hc o).trans c0
 have d4:=(hc (o+4)).trans c4
 have hk':(k == 11)=false:=ZY.2 hk
 simp only[PL.len] at d4
 clear h hc c0 c1 c2 c3 c4 c5 hk
 go_enter Tryz.func180,Tryz.ntmps180
 go_wp2
 refine Zl (v:=.tuple #[]) ?_ rfl ?_
 ·simp[results,Tryz.results180]
 exact⟨rfl,rfl⟩
theorem K8 {P:Program} (w:World) (base:Nat) (t ty e:TypeId) (i:TypeInfo) (z:Value) (size bytes:Nat) (ht:P.underlying t=some (.slice e)) (hi:P.info? e=some i) (hz:i.zero=some z)
  (hsize:i.size=size) (hby:i.bytes=bytes) (hzs:z.cells.size=size) (hsz:0<size)
  (v:Value) (n:Nat) (xs:List Value) (hown:w.ownsRow base e size v n xs)
  (ad:Option Addr) (m c:Nat) (news:List Value) (hl:news.length=m*size) (hnews:∀j u,news[j]?=some u→∃x:Addr,ad=some x∧w.cell? (x.add j)=some u) (h1:∀u∈news,u.oneCell'=true)
  (h63:n+m≤maxLen) (hbytes:(n+m)*bytes≤140737488355328) (hbase:base≤w.heap.size) :
  ∃v' w',(Builtin.append_ #[t,t] ty #[v,.slice ad m c]).run P w=.ok v' w'∧w'.ownsRow base e size v' (n+m) (xs++news)∧w.grownBy w' v.ownBlock∧(v'.ownBlock=v.ownBlock∨v'.ownBlock=some w.heap.size):=by
 cases ad with
 | some a =>
  obtain⟨v',w',hr,h2,h3,_,h5⟩:=run_append_own_at (P:=P) w base t ty e i z size bytes ht hi hz hsize hby hzs hsz v n xs hown a m c news hl (fun j u h=>by obtain⟨x,hx,hc⟩:=hnews j u h;cases hx;exact hc) h1 h63 hbytes hbase
  exact⟨v',w',hr,h2,h3,h5⟩
 | none =>
  have hm:m=0:=by
   cases news with
   | nil =>
    have h:m*size=0:=hl.symm
    rcases Nat.mul_eq_zero.1 h with h|h
    ·exact h
    omega
   | cons u us=>obtain⟨x,hx,_⟩:=hnews 0 u rfl;cases hx
  subst hm
  obtain rfl:news=[]:=by simpa using hl
  have key:∀(b:Option Addr) (k cp:Nat),k≤cp→(Builtin.append_ #[t,t] ty #[.slice b k cp,.slice none 0 c]).run P w=.ok (.slice b k cp) w:=by
   intro b k cp hle
   refine run_append_nothing w t t ty e i ht hi b k cp hle _ ⟨.inl ⟨_,ht⟩,?_,?_,?_,by simp,by simp⟩
   ·intro w';simp[Builtin.lenOf]
   ·simp[Builtin.firstCells]
   simp[Builtin.firstCells]
  have hown':=hown
  rcases hown.2 with ⟨rfl,rfl⟩|⟨g,cap,cur,rfl,hb,hg,hnc,hcm,hcs,htk⟩
  ·refine⟨_,w,key _ _ _ (Zc _),by simpa using hown',World.grownBy.refl _ _,.inl rfl⟩
  refine⟨_,w,key _ _ _ hnc,by simpa using hown',World.grownBy.refl _ _,.inl rfl⟩
theorem XV {P:Program} (w:World) {ops:Array Oper} {o:Oper} {a:Act} {K:Act→World→Prop} {Q:Exit→Act→World→Prop} {E:Prop} (hgd:o.guard=none) (s x:Operand) (t:TypeId)
  (ho:o.op=.call { callee:=.builtin .append,args:=#[s,x],argTypes:=#[t,t] })
  (base:Nat) (e:TypeId) (i:TypeInfo) (z:Value) (size bytes:Nat) (ht:P.underlying t=some (.slice e)) (hi:P.info? e=some i) (hz:i.zero=some z)
  (hsize:i.size=size) (hby:i.bytes=bytes) (hzs:z.cells.size=size) (hsz:0<size)
  (v:Value) (n:Nat) (xs:List Value) (hs:a.eval s=v) (hown:w.ownsRow base e size v n xs)
  (ad:Option Addr) (m c:Nat) (news:List Value) (hx:a.eval x=.slice ad m c) (hl:news.length=m*size) (hnews:∀j u,news[j]?=some u→∃x:Addr,ad=some x∧w.cell? (x.add j)=some u) (h1:∀u∈news,u.oneCell'=true)
  (h63:n+m≤maxLen) (hbytes:(n+m)*bytes≤140737488355328) (hbase:base≤w.heap.size)
  (h:∀v' w',w'.ownsRow base e size v' (n+m) (xs++news)→w.grownBy w' v.ownBlock→(v'.ownBlock=v.ownBlock∨v'.ownBlock=some w.heap.size)→K (a.put o.dst v') w') :
  if Region.wanted o (yielded ops a.tmps)=true then Oper.wp P o a w K Q else E:=by
 have hw:Region.wanted o (yielded ops a.tmps)=true:=by simp[Region.wanted,hgd]
 rw[Z2 hw]
 obtain⟨v',w',hr,h2,h3,h4⟩:=K8 (P:=P) w base t o.type e i z size bytes ht hi hz hsize hby hzs hsz v n xs hown ad m c news hl hnews h1 h63 hbytes hbase
 unfold Oper.wp execOp
 simp only[ho,resolve,invoke,builtin,Sem.run_bind,Sem.run_pure,ZP,List.map_toArray,List.map_cons,List.map_nil,hs,hx,hr]
 exact h v' w' h2 h3 h4
theorem GW.same {W1 w w':World} {gb mb nn:Nat} {stk:List SE} (h:GW W1 gb mb nn stk w) (hc:Below w.heap.size w w'):GW W1 gb mb nn stk w':=by
 obtain⟨vn,vo,xs,hgb,hon,hnm,hoo⟩:=h.sta
 exact h.names hgb hon ⟨hc.os,hc.tape,hc.output,hc.size,fun k hk _=>hc.block k hk⟩ ((hc.block gb (Zb hgb)).trans hgb) (YW hon fun k hk=>hc.block k (hon.lt k hk).2) hnm (Zc _)
theorem XT {w:World} {base:Nat} {e:TypeId} {size:Nat} {v:Value} {n:Nat} {xs:List Value} (h:w.ownsRow base e size v n xs):∃ad c,v=.slice ad n c:=by
 rcases h.2 with ⟨h1,h2⟩|⟨g,cap,cur,h1,_⟩
 ·exact⟨none,0,by rw[h1,h2]⟩
 exact⟨_,cap,h1⟩
theorem E3 {w:World} {base:Nat} {e:TypeId} {size:Nat} {ad:Option Addr} {c n:Nat} {xs:List Value} (h:w.ownsRow base e size (.slice ad n c) n xs):n≤c:=by
 rcases h.2 with ⟨h1,h2⟩|⟨g,cap,cur,h1,_,_,h2,_⟩
 ·omega
 injection h1 with _ _ h1;omega
theorem yW {w:World} {base:Nat} {e:TypeId} {size:Nat} {a:Addr} {c n:Nat} {xs:List Value} (h:w.ownsRow base e size (.slice (some a) n c) n xs):∃g,a=⟨g,0,none⟩:=by
 rcases h.2 with ⟨h1,h2⟩|⟨g,cap,cur,h1,_⟩
 ·cases h1
 injection h1 with h1 _ _;injection h1 with h1;exact⟨g,h1⟩
theorem VA {W1 w:World} {gb mb nn:Nat} {stk:List SE} {vn vo:Value} (h:GW W1 gb mb nn stk w) (hg:w.heap[gb]?=some (Xk vn vo mb)):(∃xs,w.ownsRow W1.heap.size 88 6 vn nn xs∧NmR xs nn)∧w.ownsRow W1.heap.size 289 3 vo stk.length (VH stk):=by
 obtain⟨vn2,vo2,xs2,hgb2,hon2,hnm2,hoo⟩:=h.sta
 have e:=hg.symm.trans hgb2
 simp only[Xk,Option.some.injEq,Obj.cells.injEq,Array.mk.injEq,List.cons.injEq,and_true,true_and] at e
 obtain⟨rfl,rfl⟩:=e
 exact⟨⟨xs2,hon2,hnm2⟩,hoo⟩
theorem ZcB {W1 w w2 w3:World} {gb mb nn:Nat} {stk:List SE} {vn vo:Value} {ob:Obj} (h:GW W1 gb mb nn stk w) (hg:w.heap[gb]?=some (Xk vn vo mb)) (hb:Below w.heap.size w w2) (hu:Upon mb (w2.alloc ob) w3) (hm:J4 w3 mb (Gc W1) (PcV nn)) (hml:mb<w.heap.size) :
  GW W1 gb mb nn stk w3∧w3.heap[gb]?=some (Xk vn vo mb):=by
 have hmo:=h.map
 obtain⟨arr,clock,hmm,_⟩:=hmo
 have hb2:Below w.heap.size w (w2.alloc ob):=hb.alloc hb.size _
 have hk:∀k,k<w.heap.size→k≠mb→w3.heap[k]?=w.heap[k]?:=fun k hk hne=>(hu.block k (Zd hk hb2.size) hne).trans (hb2.block k hk)
 have hlow:=h.low.size
 have hg3:w3.heap[gb]?=some (Xk vn vo mb):=(hk gb (Zb hg) (fun e=>by rw[e,hmm] at hg;cases hg)).trans hg
 obtain⟨⟨xs,hon,hnm⟩,hoo⟩:=VA h hg
 have ho:∀{e:TypeId} {size n:Nat} {v:Value} {xs:List Value},w.ownsRow W1.heap.size e size v n xs→w3.ownsRow W1.heap.size e size v n xs:=fun h=>YW h fun k hk2=>hk k (h.lt k hk2).2 (fun e=>Vy h (b:=mb) (fun cur e2=>by rw[hmm] at e2;cases e2) (by rw[←e];exact hk2))
 refine⟨⟨⟨hu.os.trans (hb2.os.trans h.low.os),hu.tape.trans (hb2.tape.trans h.low.tape),hu.output.trans (hb2.output.trans h.low.output),Zm hlow (Zm hb2.size hu.size),fun k hk1=>(hk k oq (by have:=h.hmb;omega)).trans (h.low.block k hk1)⟩,h.hgb,h.hmb,⟨vn,vo,xs,hg3,ho hon,hnm,ho hoo⟩,hm,h.stk⟩,hg3⟩
def SG (gb:Nat) (v:Value) (w':World):Prop:=w'.cell? ⟨gb,0,none⟩=some v
theorem SG.drew {gb:Nat} {v:Value} {w':World} (h:SG gb v w'):SG gb v w'.drew:=h
theorem SG.alloc {gb:Nat} {v:Value} {w':World} (h:SG gb v w') (ob:Obj):SG gb v (w'.alloc ob):=by
 have hb:gb<w'.heap.size:=World.block_lt_of_cell? w' ⟨gb,0,none⟩ h
 exact(World.cell?_alloc_lt _ _ _ hb).trans h
theorem SG.set1 {gb:Nat} {v:Value} {w':World} (h:SG gb v w') (u:Value):SG gb v (w'.setCell ⟨gb,1,none⟩ u):=(World.cell?_setCell_other w' ⟨gb,1,none⟩ ⟨gb,0,none⟩ u (fun e=>by injection e with _ e _;cases e)).trans h
def SP (pb f t:Nat) (w':World):Prop:=w'.cell? ⟨pb,0,none⟩=some (.int .i64 (f:Int))∧w'.cell? ⟨pb,1,none⟩=some (.int .i64 (t:Int))
theorem SP.drew {pb f t:Nat} {w':World} (h:SP pb f t w'):SP pb f t w'.drew:=h
theorem SP.set {pb f t:Nat} {w':World} (h:SP pb f t w') {g j:Nat} (hg:¬pb=g) (u:Value):SP pb f t (w'.setCell ⟨g,j,none⟩ u) :=
 ⟨(ZG _ _ _ _ (fun e=>hg e.symm)).trans h.1,(ZG _ _ _ _ (fun e=>hg e.symm)).trans h.2⟩
theorem qn {W1 w w4:World} {gb mb nn gg cap b o:Nat} {stk:List SE} {vn vo:Value} {e:PE} {ob:Obj} (h:GW W1 gb mb nn stk w) (hgb:w.heap[gb]?=some (Xk vn vo mb)) (he:Jl W1 b o e)
  (hown:w4.ownsRow W1.heap.size 289 3 (.slice (some ⟨gg,0,none⟩) (stk.length+1) cap) (stk.length+1) (VH stk++[.pointer (some ⟨b,o,none⟩),.int .i64 0,.int .i64 nn])) (hg:((w.drew).alloc ob).grownBy w4 vo.ownBlock) (hat:vo.ownBlock=some gg∨gg=w.heap.size+1) :
  w4.cell? ⟨gb,0,none⟩=some vn∧w4.cell? ⟨gb,1,none⟩=some vo∧w4.frozen? ⟨gb,1,none⟩=false∧∀ar:Uc e,GW W1 gb mb nn (stk++[⟨b,o,0,nn,e⟩]) (w4.setCell ⟨gb,1,none⟩ (.slice (some ⟨gg,0,none⟩) (stk.length+1) cap)):=by
 obtain⟨⟨xs,hon,hnm⟩,hoo⟩:=VA h hgb
 have hgl:=Zb hgb
 have e1:=Xn hoo hgb (by decide)
 have hal:∀j,j<w.heap.size→((w.drew).alloc ob).heap[j]?=w.heap[j]?:=fun j hj=>Za w.drew ob j hj
 have h4b:∀j,j<w.heap.size→vo.ownBlock≠some j→w4.heap[j]?=w.heap[j]?:=fun j hj hn=>(hg.block j (by simp;omega) (fun e=>hn e.symm)).trans (hal j hj)
 have hgb4:w4.heap[gb]?=some (Xk vn vo mb):=(h4b gb hgl (fun e=>e1 e.symm)).trans hgb
 obtain⟨⟨c0,c1,c2⟩,cf⟩:=XB hgb4
 have hs4:w.heap.size≤w4.heap.size:=by have:=hg.size;simp at this;omega
 have hml:=h.map.lt
 obtain⟨arr,clock,hmm,_⟩:=id h.map
 have hne:gg≠gb:=by
  intro e
  rcases hat with h1|h1
  ·rw[e] at h1;exact e1 h1.symm
  omega
 have hw5:∀j,j<w.heap.size→j≠gb→vo.ownBlock≠some j→(w4.setCell ⟨gb,1,none⟩ (.slice (some ⟨gg,0,none⟩) (stk.length+1) cap)).heap[j]?=w.heap[j]?:=fun j hj hn1 hn2=>(heap_setCell_other _ _ _ _ (show j≠gb from hn1)).trans (h4b j hj hn2)
 have hmo:vo.ownBlock≠some mb:=Vy hoo (b:=mb) (fun cur e2=>by rw[hmm] at e2;cases e2)
 have hlow:=h.low.size
 refine⟨c0,c1,cf 1,fun ar=>⟨⟨?_,?_,?_,?_,fun k hk=>?_⟩,h.hgb,h.hmb,⟨vn,_,xs,jT hgb4 _,?_,hnm,?_⟩,h.map.keep (hw5 mb hml (fun e=>by rw[←e,hmm] at hgb;cases hgb) hmo) (fun _ h=>h),fun s hs=>?_⟩⟩
 ·exact(Y2 _ _ _).1.trans (hg.os.trans h.low.os)
 ·exact(Y2 _ _ _).2.1.trans (hg.tape.trans h.low.tape)
 ·exact(Y2 _ _ _).2.2.trans (hg.output.trans h.low.output)
 ·simp[World.setCell];omega
 ·have:=h.hgb
  exact(hw5 k oq oq (fun e=>by have:=(hoo.lt k e).1;omega)).trans (h.low.block k hk)
 ·refine YW hon fun k hk=>hw5 k (hon.lt k hk).2 (fun e=>Xn hon hgb (by decide) (by rw[←e];exact hk.symm)) (fun e=>?_)
  rcases hoo.2 with ⟨h1,_⟩|⟨g,cap2,cur,h1,_,hgo,_⟩
  ·rw[h1] at e;cases e
  rw[h1] at e
  injection e with e
  have e:g=k:=e
  subst e
  exact Xn hon hgo (by decide) hk.symm
 ·have hl:(stk++[(⟨b,o,0,nn,e⟩:SE)]).length=stk.length+1:=by simp
  rw[hl,QA]
  exact YW hown fun j hj=>heap_setCell_other _ _ _ _ (fun e=>hne (by have:some gg=some j:=hj;injection this with this;rw[this];exact e))
 rcases List.mem_append.1 hs with hs|hs
 ·exact h.stk s hs
 rw[List.mem_singleton.1 hs]
 exact⟨he,Zk _,Zc _,ar⟩
theorem uh {w:World} {base nn cn f t:Nat} {ln:Option Addr} {xs:List Value} (h:w.ownsRow base 88 6 (.slice ln nn cn) nn xs) (hnm:NmR xs nn) (hft:f≤t∧t≤nn) :
  ((xs.drop (f*6)).take ((t-f)*6)).length=(t-f)*6∧(∀j u,((xs.drop (f*6)).take ((t-f)*6))[j]?=some u→∃x:Addr,(match ln with|none=>none|some a=>if cn=f then some ⟨a.block,0,none⟩ else some ⟨a.block,f*6,none⟩)=some x∧w.drew.cell? (x.add j)=some u)∧∀u∈(xs.drop (f*6)).take ((t-f)*6),u.oneCell'=true:=by
 have hl:=h.1
 refine⟨by simp;omega,fun j u hu=>?_,fun u hu=>hnm.1 u (List.mem_of_mem_drop (List.mem_of_mem_take hu))⟩
 have hj:j<(t-f)*6:=by
  rcases Nat.lt_or_ge j ((t-f)*6) with h|h
  ·exact h
  rw[Yc (by simp;omega)] at hu;cases hu
 rw[Yn hj,List.getElem?_drop] at hu
 have hc:=E3 h
 cases ln with
 | none =>
  rcases h.2 with ⟨h1,h2⟩|⟨g,cap,cur,h1,_⟩
  ·omega
  cases h1
 | some a =>
  obtain⟨g,rfl⟩:=yW h
  refine⟨⟨g,f*6,none⟩,by simp only;rw[Z1 oq],?_⟩
  have:=h.cellAt (f*6+j) oq
  rw[show(⟨g,f*6,none⟩:Addr).add j=⟨g,f*6+j,none⟩ by unfold Addr.add;by_cases h1:j=0<;>simp[h1]]
  exact this.trans hu
theorem zV {W1 w w4:World} {gb mb nn pb f t:Nat} {stk:List SE} {vn vo v':Value} {xs:List Value} (h:GW W1 gb mb nn stk w) (hgb:w.heap[gb]?=some (Xk vn vo mb)) (hon:w.ownsRow W1.heap.size 88 6 vn nn xs) (hnm:NmR xs nn)
  (hpb:w.heap[pb]?=some (.cells #[.int .i64 f,.int .i64 t] 286 (0,0))) (hft:f≤t∧t≤nn) (hown:w4.ownsRow W1.heap.size 88 6 v' (nn+(t-f)) (xs++(xs.drop (f*6)).take ((t-f)*6))) (hg:(w.drew).grownBy w4 vn.ownBlock) (hat:v'.ownBlock=vn.ownBlock∨v'.ownBlock=some (w.drew).heap.size) :
  SP pb f t w4∧w4.cell? ⟨gb,0,none⟩=some vn∧w4.frozen? ⟨gb,0,none⟩=false∧GW W1 gb mb (nn+(t-f)) stk (w4.setCell ⟨gb,0,none⟩ v'):=by
 have hgl:=Zb hgb
 have e1:=Xn hon hgb (by decide)
 have e2:=Xn hon hpb (by decide)
 have h4b:∀j,j<w.heap.size→vn.ownBlock≠some j→w4.heap[j]?=w.heap[j]?:=fun j hj hn=>hg.block j (by simpa using hj) (fun e=>hn e.symm)
 have hgb4:w4.heap[gb]?=some (Xk vn vo mb):=(h4b gb hgl (fun e=>e1 e.symm)).trans hgb
 have hpb4:=(h4b pb (Zb hpb) (fun e=>e2 e.symm)).trans hpb
 obtain⟨⟨c0,c1,c2⟩,cf⟩:=XB hgb4
 have hs4:w.heap.size≤w4.heap.size:=by have:=hg.size;simpa using this
 refine⟨⟨by simp[World.cell?,hpb4],by simp[World.cell?,hpb4]⟩,c0,cf 0,h.names hgb hon ⟨?_,?_,?_,?_,fun j hj hn=>?_⟩ (qe hgb4 _) ?_ (hnm.snoc hon.1 (hnm.part hon.1 hft.1 hft.2)) oq⟩
 ·exact(Y2 _ _ _).1.trans hg.os
 ·exact(Y2 _ _ _).2.1.trans hg.tape
 ·exact(Y2 _ _ _).2.2.trans hg.output
 ·simp[World.setCell];exact hs4
 ·exact(heap_setCell_other _ _ _ _ (show j≠gb from fun e=>hn (.inl e))).trans (h4b j hj (fun e=>hn (.inr e)))
 refine YW hown fun j hj=>heap_setCell_other _ _ _ _ (fun e=>?_)
 have e:j=gb:=e
 rw[e] at hj
 rcases hat with h1|h1
 ·exact e1 (hj.symm.trans h1)
 rw[hj] at h1
 injection h1 with h1
 simp at h1
 omega
theorem ZcW {nn:Nat} {u:Value} {b:Bool} (hy:b=true→PcV nn u) (hz:b=false→u=.agg #[.int .i64 0,.int .i64 0]):∃f t:Nat,u=.agg #[.int .i64 (f:Int),.int .i64 (t:Int)]∧(f≤t∧t≤nn):=by
 cases b with
 | true=>obtain⟨f,t,h1,h2,h3⟩:=hy rfl;exact⟨f,t,h1,h2,h3⟩
 | false=>exact⟨0,0,hz rfl,Zc _,Zk _⟩
theorem uk {W1 w:World} {gb mb nn:Nat} {stk:List SE} (h:GW W1 gb mb nn stk w) {b o:Nat} {e:PE} (he:Jl W1 b o e) (hk:e.k≠11) (hl:e.args.len≠0) (hn:nn≤60000000000) (hso:stk.length≤1000) (har:Uc e) :
  Calls Tryz.prog 180 #[.pointer (some ⟨gb,0,none⟩),.pointer (some ⟨b,o,none⟩)] w fun x w'=>x=.returned (.tuple #[])∧((∃m,m≤2*nn∧GW W1 gb mb m stk w')∨GW W1 gb mb nn (stk++[⟨b,o,0,nn,e⟩]) w'):=by
 obtain⟨vn,vo,xs,hgbb,hon,hnm,hoo⟩:=h.sta
 have HGW:=hid h
 have HM:=hid h.map
 have HKP:=hid (fun v hv=>Gc.ptr h.low v hv)
 have HPT:=hid (he.ptr h.low)
 have HE:=hid he
 have hgb:=h.hgb
 have hmb:=h.hmb
 have HON:=hid hon
 have HNM:=hid hnm
 have HOO:=hid hoo
 have HG:=hid hgbb
 obtain⟨⟨g0,g1,g2⟩,gf⟩:=XB hgbb
 obtain⟨k,nm,n,d,args,a⟩:=e
 obtain⟨hlt,hfz,c0,c1,c2,c3,c5,⟨ad,cap,c4,_⟩,_⟩:=he
 simp only at hk c0 c4 hl
 have hc:=fun o=>h.low.cell (p:=⟨b,o,none⟩) hlt
 have d0:=(hc o).trans c0
 have d4:=(hc (o+4)).trans c4
 have hk':(k == 11)=false:=ZY.2 hk
 have hl':((args.len:Int) == 0)=false:=ZY.2 oq
 have hsz:=h.low.size
 have hgl:=Zb hgbb
 have hml:=h.map.lt
 clear h hc c0 c1 c2 c3 c4 c5 hk hl hon hnm hoo hgbb hfz
 go_enter Tryz.func180,Tryz.ntmps180
 go_wp2_with (first|(at_lookup;refine zk UB _ rfl _ _ rfl mb (Gc W1) (PcV nn) _ rfl rfl HM.out HKP.out HPT.out ?_;intro u bb w2 hy hz hs2 hb2;obtain⟨f,t,rfl,hft⟩:=ZcW hy hz;have HFT:=hid hft;clear hy hz hft;have HB2:=hid hb2;obtain⟨⟨p0,p1,p2⟩,pf⟩:=XB ((hb2.block _ hgl).trans HG.out);clear hb2;cases bb)|(at_mapUpdate;refine UY UB _ rfl _ _ _ rfl mb (Gc W1) (PcV nn) _ (.agg #[.int .i64 0,.int .i64 0]) rfl rfl rfl (HM.out.keep (by exact(Za _ _ _ oq).trans (HB2.out.block _ hml)) (fun _ h=>h)) (fun v hv=>(HKP.out v hv).keep (fun b cs t fr hb=>⟨cs,(Za _ _ _ (by have:=Zb hb;omega)).trans ((HB2.out.block _ (Zb hb)).trans hb)⟩)) ⟨b,o,_,rfl,HE.out⟩ ⟨0,0,rfl,Zc _,Zk _⟩ ?_;intro w3 hu3 hs3 hm3;have HU3:=hid hu3;have HM3:=hid hm3;clear hu3 hm3))
 ·obtain⟨hgw3,hg3⟩:=ZcB HGW.out HG.out HB2.out HU3.out HM3.out hml
  have hlow3:=hgw3.low
  obtain⟨lo,co,hvo⟩:∃ad co,vo=.slice ad stk.length co:=XT HOO.out
  subst hvo
  obtain⟨ln,cn,hvn⟩:∃ad cn,vn=.slice ad nn cn:=XT HON.out
  subst hvn
  have HOO:=hid (VA hgw3 hg3).2
  obtain⟨⟨q0,q1,q2⟩,qf⟩:=XB hg3
  obtain⟨i0,hi0,hi1,hi2,hi3⟩:=J2 Zcd
  have HI:=hid (Zh hi0 (Zh hi1 (Zh hi2 hi3)))
  have hgl3:=Zb hg3
  have HB:=hid (Zh hso (Zh hgl3 hlow3.size))
  have KA:=hid (show SG gb (.slice ln nn cn) w3 from q0)
  have HPF:=hid (fun(w4:World) (gg cap:Nat) hown hg hat=>qn (w4:=w4) (gg:=gg) (cap:=cap) (ob:=.cells #[.pointer (some ⟨b,o,none⟩),.int .i64 0,.int .i64 nn] 289) hgw3 hg3 HE.out hown hg hat)
  clear hgw3 hg3 hlow3 hi0 hi1 hi2 hi3 p0 p1 p2 pf g0 g1 g2 gf hs3 hs2 d0 d4 hso HFT HB2 HU3 HM3 HGW HM HKP HPT HON HNM HG
  refine ZO (S:=fun w'=>w'.cell? ⟨gb,0,none⟩=some (.slice ln nn cn)) kq (by(show SG gb (.slice ln nn cn) _;repeat (first|with_reducible exact KA.out|with_reducible exact KC.out|with_reducible refine SG.drew ?_|with_reducible refine SG.alloc ?_ _|(with_reducible refine SG.set1 ?_ _)))) (fun hHeld=>?_)
  refine tk 0 hHeld ?_
  refine tk 1 hHeld ?_
  refine tk 2 hHeld ?_
  refine tk 3 hHeld ?_
  refine tk 5 hHeld ?_
  refine tk 6 hHeld ?_
  refine tk 7 hHeld ?_
  refine tk 8 hHeld ?_
  refine tk 9 hHeld ?_
  refine tk 10 hHeld ?_
  refine tk 11 hHeld ?_
  refine rz 4 12 (fun K hK=>?_) fun K hK=>?_
  ·go_simp
   refine hK.out _ _ (fun hHeld=>?_) (by show SG gb (.slice ln nn cn) _;exact sq)
   clear hK K
   refine ry 12 fun K hK=>?_
   go_simp
   refine hK.out _ _ (fun hHeld=>?_) (by show SG gb (.slice ln nn cn) _;exact sq)
   clear hK K
   refine ry 13 fun K hK=>?_
   (refine step_append_lies _ (by rfl) _ _ _ (by rfl) W1.heap.size 289 i0 _ 3 24 Tryz.underlying274 HI.out.1 HI.out.2.1 HI.out.2.2.1 HI.out.2.2.2 rfl oq (.slice lo stk.length co) stk.length (VH stk) (by rfl) (HOO.out.drew.alloc _) ⟨w3.heap.size,0,none⟩ 1 1 [.pointer (some ⟨b,o,none⟩),.int .i64 0,.int .i64 nn] (by rfl) (by rfl) (World.news_of_block (Zz w3.drew _)) (by simp[Value.oneCell']) oq (by have:=HB.out.1;unfold maxLen;omega) (by have:=HB.out.1;omega) (by have:=HB.out.2.2;simp;omega) (w3.heap.size+1) (by simp) ?_;intro gg cap w4 hown4 hgrow4 hat4 hlt4;have KP:=HPF.out w4 gg cap hown4 hgrow4 hat4;have KC:=hid (show SG gb (.slice ln nn cn) w4 from KP.1);have kg1:=KP.2.1;have kgf:=KP.2.2.1;have HCL:=hid KP.2.2.2;clear KP hown4 hgrow4 hat4)
   refine hK.out _ _ (fun hHeld=>?_) (by show SG gb (.slice ln nn cn) _;exact sq)
   clear hK K
   refine tk 14 hHeld ?_
   refine tk 15 hHeld ?_
   refine ry 16 fun K hK=>?_
   go_simp
   refine hK.out _ _ (fun hHeld=>?_) (by show SG gb (.slice ln nn cn) _;exact sq)
   clear hK K
   refine Zy kq ?_ _
   (go_wp2;all_goals (refine bodyPost_end (v:=.tuple #[]) ?_ rfl ?_;(focus (simp[results,Tryz.results180]));exact⟨rfl,.inr (HCL.out har)⟩))
  go_simp
  refine hK.out _ _ (fun hHeld=>?_) (by show SG gb (.slice ln nn cn) _;exact sq)
  clear hK K
  refine ry 4 fun K hK=>?_
  go_simp
  refine hK.out _ _ (fun hHeld=>?_) (by show SG gb (.slice ln nn cn) _;exact sq)
  clear hK K
  refine ry 13 fun K hK=>?_
  (refine step_append_lies _ (by rfl) _ _ _ (by rfl) W1.heap.size 289 i0 _ 3 24 Tryz.underlying274 HI.out.1 HI.out.2.1 HI.out.2.2.1 HI.out.2.2.2 rfl oq (.slice lo stk.length co) stk.length (VH stk) (by rfl) (HOO.out.drew.alloc _) ⟨w3.heap.size,0,none⟩ 1 1 [.pointer (some ⟨b,o,none⟩),.int .i64 0,.int .i64 nn] (by rfl) (by rfl) (World.news_of_block (Zz w3.drew _)) (by simp[Value.oneCell']) oq (by have:=HB.out.1;unfold maxLen;omega) (by have:=HB.out.1;omega) (by have:=HB.out.2.2;simp;omega) (w3.heap.size+1) (by simp) ?_;intro gg cap w4 hown4 hgrow4 hat4 hlt4;have KP:=HPF.out w4 gg cap hown4 hgrow4 hat4;have KC:=hid (show SG gb (.slice ln nn cn) w4 from KP.1);have kg1:=KP.2.1;have kgf:=KP.2.2.1;have HCL:=hid KP.2.2.2;clear KP hown4 hgrow4 hat4)
  refine hK.out _ _ (fun hHeld=>?_) (by show SG gb (.slice ln nn cn) _;exact sq)
  clear hK K
  refine tk 14 hHeld ?_
  refine tk 15 hHeld ?_
  refine ry 16 fun K hK=>?_
  go_simp
  refine hK.out _ _ (fun hHeld=>?_) (by show SG gb (.slice ln nn cn) _;exact sq)
  clear hK K
  refine Zy kq ?_ _
  (go_wp2;all_goals (refine bodyPost_end (v:=.tuple #[]) ?_ rfl ?_;(focus (simp[results,Tryz.results180]));exact⟨rfl,.inr (HCL.out har)⟩))
 obtain⟨ln,cn,hvn⟩:∃ad cn,vn=.slice ad nn cn:=XT HON.out
 subst hvn
 have hgw3:GW W1 gb mb nn stk (w2.alloc (.cells #[.int .i64 f,.int .i64 t] 286)):=HGW.out.same (HB2.out.alloc oq _)
 have hg3:(w2.alloc (.cells #[.int .i64 f,.int .i64 t] 286)).heap[gb]?=some (Xk (.slice ln nn cn) vo mb):=(Za _ _ _ oq).trans ((HB2.out.block _ hgl).trans HG.out)
 have KA:=hid (show SP w.heap.size f t (w2.alloc (.cells #[.int .i64 f,.int .i64 t] 286)) from ⟨by rw[←hs2];go_simp,by rw[←hs2];go_simp⟩)
 have hpg:¬w.heap.size=gb:=oq
 have hpb3:(w2.alloc (.cells #[.int .i64 f,.int .i64 t] 286)).heap[w.heap.size]?=some (.cells #[.int .i64 f,.int .i64 t] 286 (0,0)):=by rw[←hs2];exact Yp w2 _
 obtain⟨⟨q0,q1,q2⟩,qf⟩:=XB hg3
 generalize w2.alloc (.cells #[.int .i64 f,.int .i64 t] 286)=w3 at *
 obtain⟨xs3,hon3,hnm3⟩:=(VA hgw3 hg3).1
 have HON3:=hid hon3
 obtain⟨i0,hi0,hi1,hi2,hi3⟩:=J2 kJ
 have HI:=hid (Zh hi0 (Zh hi1 (Zh hi2 hi3)))
 have hgl3:=Zb hg3
 have hlow3:=hgw3.low
 have HB:=hid (Zh hn (Zh hgl3 hlow3.size))
 have hft:=HFT.out
 clear hi0 hi1 hi2 hi3 p0 p1 p2 pf g0 g1 g2 gf hs2 d0 d4 hso HB2 HGW HM HKP HPT HOO HG HON
 have hcn:=E3 HON3.out
 have hi1:(0:Int)≤(f:Int):=oq
 have hi2:(f:Int)≤(t:Int):=oq
 have hi3:(t:Int)≤(cn:Int):=oq
 have hi4:(0:Int)≤(t:Int):=oq
 have hi5:(f:Int)≤(cn:Int):=oq
 have HPF:=hid (fun(w4:World) (v':Value) hown hg hat=>zV (w4:=w4) (v':=v') hgw3 hg3 hon3 hnm3 hpb3 hft hown hg hat)
 have HN:=hid (uh hon3 hnm3 hft)
 clear hpb3 hnm3 hon3 hg3 hgw3 hft hlow3
 cases ln with
 | none =>
  simp only at HN
  refine ZO (S:=fun w'=>w'.cell? ⟨w.heap.size,0,none⟩=some (.int .i64 f)∧w'.cell? ⟨w.heap.size,1,none⟩=some (.int .i64 t)) kq (by(show SP w.heap.size f t _;repeat (first|with_reducible exact KA.out|with_reducible exact KC.out|with_reducible refine SP.drew ?_|with_reducible refine SP.alloc ?_ _|(with_reducible refine SP.set ?_ hpg _)))) (fun hHeld=>?_)
  refine tk 0 hHeld ?_
  refine tk 1 hHeld ?_
  refine tk 2 hHeld ?_
  refine tk 3 hHeld ?_
  refine tk 5 hHeld ?_
  refine tk 6 hHeld ?_
  refine tk 7 hHeld ?_
  refine tk 9 hHeld ?_
  refine tk 10 hHeld ?_
  refine tk 11 hHeld ?_
  refine tk 12 hHeld ?_
  refine rz 4 8 (fun K hK=>?_) fun K hK=>?_
  ·go_simp
   refine hK.out _ _ (fun hHeld=>?_) (by show SP w.heap.size f t _;exact sq)
   clear hK K
   refine ry 8 fun K hK=>?_
   go_simp
   refine hK.out _ _ (fun hHeld=>?_) (by show SP w.heap.size f t _;exact sq)
   clear hK K
   refine tk 13 hHeld ?_
   refine ry 14 fun K hK=>?_
   (refine XV _ (by rfl) _ _ _ (by rfl) W1.heap.size 88 i0 _ 6 72 Tryz.underlying86 HI.out.1 HI.out.2.1 HI.out.2.2.1 HI.out.2.2.2 rfl oq (.slice none nn cn) nn xs3 (by rfl) (HON3.out.drew) none (t-f) (cn-f) ((xs3.drop (f*6)).take ((t-f)*6)) (by rfl) HN.out.1 HN.out.2.1 HN.out.2.2 (by have:=HB.out.1;have:=HFT.out;unfold maxLen;omega) (by have:=HB.out.1;have:=HFT.out;omega) (by have:=HB.out.2.2;simp;omega) ?_;intro v' w4 hown4 hgrow4 hat4;obtain⟨lv,cv,rfl⟩:=XT hown4;have KP:=HPF.out w4 _ hown4 hgrow4 hat4;have KC:=hid (show SP w.heap.size f t w4 from KP.1);have kg1:=KP.2.1;have kgf:=KP.2.2.1;have HCL:=hid KP.2.2.2;clear KP hown4 hgrow4 hat4)
   refine hK.out _ _ (fun hHeld=>?_) (by show SP w.heap.size f t _;exact sq)
   clear hK K
   refine tk 15 hHeld ?_
   refine tk 16 hHeld ?_
   refine ry 17 fun K hK=>?_
   go_simp
   refine hK.out _ _ (fun hHeld=>?_) (by show SP w.heap.size f t _;exact sq)
   clear hK K
   refine Zy kq ?_ _
   (go_wp2;all_goals (refine Zl (v:=.tuple #[]) ?_ rfl ?_;(focus (simp[results,Tryz.results180]));exact⟨rfl,.inl ⟨_,by have:=HFT.out;omega,HCL.out⟩⟩))
  go_simp
  refine hK.out _ _ (fun hHeld=>?_) (by show SP w.heap.size f t _;exact sq)
  clear hK K
  refine tk 13 hHeld ?_
  refine ry 4 fun K hK=>?_
  go_simp
  refine hK.out _ _ (fun hHeld=>?_) (by show SP w.heap.size f t _;exact sq)
  clear hK K
  refine ry 14 fun K hK=>?_
  (refine XV _ (by rfl) _ _ _ (by rfl) W1.heap.size 88 i0 _ 6 72 Tryz.underlying86 HI.out.1 HI.out.2.1 HI.out.2.2.1 HI.out.2.2.2 rfl oq (.slice none nn cn) nn xs3 (by rfl) (HON3.out.drew) none (t-f) (cn-f) ((xs3.drop (f*6)).take ((t-f)*6)) (by rfl) HN.out.1 HN.out.2.1 HN.out.2.2 (by have:=HB.out.1;have:=HFT.out;unfold maxLen;omega) (by have:=HB.out.1;have:=HFT.out;omega) (by have:=HB.out.2.2;simp;omega) ?_;intro v' w4 hown4 hgrow4 hat4;obtain⟨lv,cv,rfl⟩:=XT hown4;have KP:=HPF.out w4 _ hown4 hgrow4 hat4;have KC:=hid (show SP w.heap.size f t w4 from KP.1);have kg1:=KP.2.1;have kgf:=KP.2.2.1;have HCL:=hid KP.2.2.2;clear KP hown4 hgrow4 hat4)
  refine hK.out _ _ (fun hHeld=>?_) (by show SP w.heap.size f t _;exact sq)
  clear hK K
  refine tk 15 hHeld ?_
  refine tk 16 hHeld ?_
  refine ry 17 fun K hK=>?_
  go_simp
  refine hK.out _ _ (fun hHeld=>?_) (by show SP w.heap.size f t _;exact sq)
  clear hK K
  refine Zy kq ?_ _
  (go_wp2;all_goals (refine Zl (v:=.tuple #[]) ?_ rfl ?_;(focus (simp[results,Tryz.results180]));exact⟨rfl,.inl ⟨_,by have:=HFT.out;omega,HCL.out⟩⟩))
 | some aln =>
  obtain⟨gn,rfl⟩:∃gn,aln=⟨gn,0,none⟩:=yW HON3.out
  simp only at HN
  refine ZO (S:=fun w'=>w'.cell? ⟨w.heap.size,0,none⟩=some (.int .i64 f)∧w'.cell? ⟨w.heap.size,1,none⟩=some (.int .i64 t)) kq (by(show SP w.heap.size f t _;repeat (first|with_reducible exact KA.out|with_reducible exact KC.out|with_reducible refine SP.drew ?_|with_reducible refine SP.alloc ?_ _|(with_reducible refine SP.set ?_ hpg _)))) (fun hHeld=>?_)
  refine tk 0 hHeld ?_
  refine tk 1 hHeld ?_
  refine tk 2 hHeld ?_
  refine tk 3 hHeld ?_
  refine tk 5 hHeld ?_
  refine tk 6 hHeld ?_
  refine tk 7 hHeld ?_
  refine tk 9 hHeld ?_
  refine tk 10 hHeld ?_
  refine tk 11 hHeld ?_
  refine tk 12 hHeld ?_
  refine rz 4 8 (fun K hK=>?_) fun K hK=>?_
  ·go_simp
   refine hK.out _ _ (fun hHeld=>?_) (by show SP w.heap.size f t _;exact sq)
   clear hK K
   refine ry 8 fun K hK=>?_
   go_simp
   refine hK.out _ _ (fun hHeld=>?_) (by show SP w.heap.size f t _;exact sq)
   clear hK K
   refine tk 13 hHeld ?_
   refine ry 14 fun K hK=>?_
   (refine XV _ (by rfl) _ _ _ (by rfl) W1.heap.size 88 i0 _ 6 72 Tryz.underlying86 HI.out.1 HI.out.2.1 HI.out.2.2.1 HI.out.2.2.2 rfl oq (.slice (some ⟨gn,0,none⟩) nn cn) nn xs3 (by rfl) (HON3.out.drew) (if cn=f then some ⟨gn,0,none⟩ else some ⟨gn,f*6,none⟩) (t-f) (cn-f) ((xs3.drop (f*6)).take ((t-f)*6)) (by rfl) HN.out.1 HN.out.2.1 HN.out.2.2 (by have:=HB.out.1;have:=HFT.out;unfold maxLen;omega) (by have:=HB.out.1;have:=HFT.out;omega) (by have:=HB.out.2.2;simp;omega) ?_;intro v' w4 hown4 hgrow4 hat4;obtain⟨lv,cv,rfl⟩:=XT hown4;have KP:=HPF.out w4 _ hown4 hgrow4 hat4;have KC:=hid (show SP w.heap.size f t w4 from KP.1);have kg1:=KP.2.1;have kgf:=KP.2.2.1;have HCL:=hid KP.2.2.2;clear KP hown4 hgrow4 hat4)
   refine hK.out _ _ (fun hHeld=>?_) (by show SP w.heap.size f t _;exact sq)
   clear hK K
   refine tk 15 hHeld ?_
   refine tk 16 hHeld ?_
   refine ry 17 fun K hK=>?_
   go_simp
   refine hK.out _ _ (fun hHeld=>?_) (by show SP w.heap.size f t _;exact sq)
   clear hK K
   refine Zy kq ?_ _
   (go_wp2;all_goals (refine Zl (v:=.tuple #[]) ?_ rfl ?_;(focus (simp[results,Tryz.results180]));exact⟨rfl,.inl ⟨_,by have:=HFT.out;omega,HCL.out⟩⟩))
  go_simp
  refine hK.out _ _ (fun hHeld=>?_) (by show SP w.heap.size f t _;exact sq)
  clear hK K
  refine tk 13 hHeld ?_
  refine ry 4 fun K hK=>?_
  go_simp
  refine hK.out _ _ (fun hHeld=>?_) (by show SP w.heap.size f t _;exact sq)
  clear hK K
  refine ry 14 fun K hK=>?_
  (refine XV _ (by rfl) _ _ _ (by rfl) W1.heap.size 88 i0 _ 6 72 Tryz.underlying86 HI.out.1 HI.out.2.1 HI.out.2.2.1 HI.out.2.2.2 rfl oq (.slice (some ⟨gn,0,none⟩) nn cn) nn xs3 (by rfl) (HON3.out.drew) (if cn=f then some ⟨gn,0,none⟩ else some ⟨gn,f*6,none⟩) (t-f) (cn-f) ((xs3.drop (f*6)).take ((t-f)*6)) (by rfl) HN.out.1 HN.out.2.1 HN.out.2.2 (by have:=HB.out.1;have:=HFT.out;unfold maxLen;omega) (by have:=HB.out.1;have:=HFT.out;omega) (by have:=HB.out.2.2;simp;omega) ?_;intro v' w4 hown4 hgrow4 hat4;obtain⟨lv,cv,rfl⟩:=XT hown4;have KP:=HPF.out w4 _ hown4 hgrow4 hat4;have KC:=hid (show SP w.heap.size f t w4 from KP.1);have kg1:=KP.2.1;have kgf:=KP.2.2.1;have HCL:=hid KP.2.2.2;clear KP hown4 hgrow4 hat4)
  refine hK.out _ _ (fun hHeld=>?_) (by show SP w.heap.size f t _;exact sq)
  clear hK K
  refine tk 15 hHeld ?_
  refine tk 16 hHeld ?_
  refine ry 17 fun K hK=>?_
  go_simp
  refine hK.out _ _ (fun hHeld=>?_) (by show SP w.heap.size f t _;exact sq)
  clear hK K
  refine Zy kq ?_ _
  (go_wp2;all_goals (refine Zl (v:=.tuple #[]) ?_ rfl ?_;(focus (simp[results,Tryz.results180]));exact⟨rfl,.inl ⟨_,by have:=HFT.out;omega,HCL.out⟩⟩))
theorem zP {W1 w:World} {gb mb nn:Nat} {stk:List SE} (h:GW W1 gb mb nn stk w) {b o:Nat} {e:PE} (he:Jl W1 b o e) (hn:nn≤60000000000) (hso:stk.length≤1000) (har:Uc e) :
  Calls Tryz.prog 180 #[.pointer (some ⟨gb,0,none⟩),.pointer (some ⟨b,o,none⟩)] w fun x w'=>x=.returned (.tuple #[])∧((∃m,(m≤nn+1∨(e.args.len≠0∧m≤2*nn))∧GW W1 gb mb m stk w')∨GW W1 gb mb nn (stk++[⟨b,o,0,nn,e⟩]) w'):=by
 by_cases hk:e.k=11
 ·exact(kZ h he hk hn).mono fun x w' ⟨h1,h2⟩=>⟨h1,.inl ⟨_,.inl (Zc _),h2⟩⟩
 by_cases hl:e.args.len=0
 ·exact(kz h he hk (ZbM hl)).mono fun x w' ⟨h1,h2⟩=>⟨h1,.inl ⟨nn,.inl (Nat.le_succ _),h2▸h⟩⟩
 refine(uk h he hk hl hn hso har).mono fun x w' ⟨h1,h2⟩=>⟨h1,?_⟩
 rcases h2 with ⟨m,hm,h2⟩|h2
 ·exact .inl ⟨m,.inr ⟨hl,hm⟩,h2⟩
 exact .inr h2
structure Zcx (w:World) (gb g co:Nat) (vn:Value) (mb:Nat) (stk0:List SE) (s:SE):Prop where
 gbk:w.heap[gb]?=some (Xk vn (.slice (some ⟨g,0,none⟩) (stk0.length+1) co) mb)
 c0:w.cell? ⟨g,stk0.length*3,none⟩=some (.pointer (some ⟨s.b,s.o,none⟩))
 c1:w.cell? ⟨g,stk0.length*3+1,none⟩=some (.int .i64 s.next)
 c2:w.cell? ⟨g,stk0.length*3+2,none⟩=some (.int .i64 s.fr)
 fz:w.frozen? ⟨g,stk0.length*3+1,none⟩=false
 cap:stk0.length+1≤co
theorem last_at {W1 w:World} {gb mb nn:Nat} {stk0:List SE} {s:SE} (h:GW W1 gb mb nn (stk0++[s]) w):∃vn g co xs,Zcx w gb g co vn mb stk0 s∧w.ownsRow W1.heap.size 88 6 vn nn xs∧NmR xs nn∧w.ownsRow W1.heap.size 289 3 (.slice (some ⟨g,0,none⟩) (stk0.length+1) co) (stk0.length+1) (VH stk0++s.v):=by
 obtain⟨vn,vo,xs,hg,hon,hnm,hoo⟩:=h.sta
 have hl:(stk0++[s]).length=stk0.length+1:=by simp
 rw[hl,QA] at hoo
 obtain⟨g,co,rfl,_,_⟩:=hoo.form oq
 have hc:∀j,j<3→w.cell? ⟨g,stk0.length*3+j,none⟩=(SE.v s)[j]?:=by
  intro j hj
  rw[hoo.cellAt _ oq,List.getElem?_append_right (by rw[Q7];omega),Q7,Nat.add_sub_cancel_left]
  show(s.v++[])[j]?=_
  rw[List.append_nil]
 exact⟨vn,g,co,xs,⟨hg,hc 0 oq,hc 1 oq,hc 2 oq,hoo.frozenAt _,E3 hoo⟩,hon,hnm,by simpa [VH] using hoo⟩
theorem GW.next {W1 w:World} {gb mb nn g co:Nat} {stk0:List SE} {s:SE} {vn:Value} (h:GW W1 gb mb nn (stk0++[s]) w) (hg:w.heap[gb]?=some (Xk vn (.slice (some ⟨g,0,none⟩) (stk0.length+1) co) mb)) (hlt:s.next+1≤s.e.args.len) :
  GW W1 gb mb nn (stk0++[⟨s.b,s.o,s.next+1,s.fr,s.e⟩]) (w.setCell ⟨g,stk0.length*3+1,none⟩ (.int .i64 ((s.next:Int)+1))):=by
 obtain⟨⟨xs,hon,hnm⟩,hoo⟩:=VA h hg
 have hl:(stk0++[s]).length=stk0.length+1:=by simp
 rw[hl,QA] at hoo
 have hgo:g≠gb:=fun e=>Xn hoo hg (by decide) (by rw[←e];rfl)
 obtain⟨arr,clock,hmm,_⟩:=id h.map
 have hgm:g≠mb:=fun e=>Vy hoo (b:=mb) (fun cur e2=>by rw[hmm] at e2;cases e2) (by rw[←e];rfl)
 have hgl:=(hoo.lt g rfl)
 have hlow:=h.low.size
 have hk:∀k,k≠g→(w.setCell ⟨g,stk0.length*3+1,none⟩ (.int .i64 ((s.next:Int)+1))).heap[k]?=w.heap[k]?:=fun k hk=>heap_setCell_other _ _ _ _ hk
 have hl2:(stk0++[(⟨s.b,s.o,s.next+1,s.fr,s.e⟩:SE)]).length=stk0.length+1:=by simp
 refine⟨⟨h.low.os,h.low.tape,h.low.output,by simpa [World.setCell] using hlow,fun k hk1=>(hk k oq).trans (h.low.block k hk1)⟩,h.hgb,h.hmb,⟨vn,.slice (some ⟨g,0,none⟩) (stk0.length+1) co,xs,(hk gb (fun e=>hgo e.symm)).trans hg,?_,hnm,?_⟩,h.map.keep (hk mb (fun e=>hgm e.symm)) (fun _ h=>h),fun x hx=>?_⟩
 ·refine YW hon fun k hk1=>hk k fun e=>?_
  rcases hoo.2 with ⟨h1,_⟩|⟨g2,cap2,cur,h1,_,hgo2,_⟩
  ·cases h1
  injection h1 with h1 _ _;injection h1 with h1;injection h1 with h1
  rw[e] at hk1
  exact Xn hon (b:=g) (by rw[h1];exact hgo2) (by decide) hk1.symm
 ·rw[hl2,QA]
  have:=(hoo.stored (stk0.length*3+1) (.int .i64 ((s.next:Int)+1))).1
  rw[List.set_append_right _ _ (by rw[Q7];omega),Q7,Nat.add_sub_cancel_left] at this
  simpa [VH,SE.v] using this
 rcases List.mem_append.1 hx with hx|hx
 ·exact h.stk x (List.mem_append_left _ hx)
 rw[List.mem_singleton.1 hx]
 obtain⟨h1,h2,h3,h4⟩:=h.stk s (by simp)
 exact⟨h1,hlt,h3,h4⟩
theorem vG {W1 w:World} {gb mb nn:Nat} {stk0:List SE} {s:SE} (h:GW W1 gb mb nn (stk0++[s]) w) (hn:nn≤60000000000) (hso:stk0.length≤900) (hlt:s.next<s.e.args.len) :
  Calls Tryz.prog 181 #[.pointer (some ⟨gb,0,none⟩)] w fun x w'=>x=.returned (.tuple #[])∧∃e,s.e.args.at s.next=some e∧((∃m,(m≤nn+1∨(e.args.len≠0∧m≤2*nn))∧GW W1 gb mb m (stk0++[{ s with next:=s.next+1 }]) w')∨∃b o,GW W1 gb mb nn (stk0++[{ s with next:=s.next+1 }]++[⟨b,o,0,nn,e⟩]) w'):=by
 obtain⟨vn,g,co,xs,hla,hon,hnm,hoo⟩:=last_at h
 obtain⟨hex,hnx,hfr,har⟩:=h.stk s (by simp)
 obtain⟨e,hat,hsz⟩:=s.e.args.at_some s.next hlt
 have HLA:=hid hla
 obtain⟨⟨g0,g1,g2⟩,gf⟩:=XB hla.gbk
 have hc0:=hla.c0
 have hc1:=hla.c1
 have hcf:=hla.fz
 obtain⟨ad,cap,c4,hargs⟩:=hex.c4
 have hlen:=hex.len
 obtain⟨b',o',rfl,hb',hac,hnf⟩:∃b' o',ad=some ⟨b',o',none⟩∧b'<W1.heap.size∧AC W1 s.e.args b' o'∧NF W1 s.e.args b' o':=by
  rcases hargs with h0|h0
  ·rw[h0] at hlt;exact absurd hlt (Yk _)
  exact h0
 have HCH:=hid (Jl.child s.e.args hb' hac hnf s.next e hat)
 have HAR:=hid (Ar2.at s.e.args s.next e har.2 hat)
 have d4:=(h.low.cell (p:=⟨s.b,s.o+4,none⟩) hex.lt).trans c4
 have HGW:=hid h
 have HAT:=hid hat
 have HEX:=hid (Zh hex.lt c4)
 obtain⟨m,hmm⟩:∃m,stk0.length=m:=⟨_,rfl⟩
 rw[hmm] at hc0 hc1 hcf g1 hso
 obtain⟨sb,so,snx,sfr,se⟩:=s
 simp only at *
 have hw0:IntKind.i64.wrap (m:Int)=(m:Int):=ZK _ oq
 have hw4:IntKind.i64.wrap (snx:Int)=(snx:Int):=ZK _ oq
 have hw1:IntKind.i64.wrap ((m:Int)+1-1)=(m:Int):=by rw[show(m:Int)+1-1=m by omega];exact ZK _ oq
 have hm0:(0:Int)≤(m:Int):=oq
 have hm1:(m:Int)<(m:Int)+1:=oq
 have hxl:(snx:Int)<(se.args.len:Int):=oq
 have hw2:IntKind.i64.wrap ((snx:Int)+1)=(snx:Int)+1:=ZK _ oq
 have hw3:IntKind.i64.wrap ((snx:Int)+1-1)=(snx:Int):=by rw[show(snx:Int)+1-1=snx by omega];exact ZK _ oq
 have hx0:(0:Int)≤(snx:Int):=oq
 clear hla hon hnm hoo hex hargs hac hnf hat hsz h c4 har
 go_enter Tryz.func181,Tryz.ntmps181
 go_wp2
 go_still_tail 11,kq
 change wpList _ _ _ _ _ (w).drew;have hhwa:(w).drew.heap=(w).heap:=rfl;have hbwa:Below (w).heap.size (w) (w).drew:=(Zg _ _).drew;have Hwa:=hid (Zh hhwa hbwa);clear hhwa hbwa;change (w).drew.cell? _=_ at g1 hc0 hc1 d4;change (w).drew.frozen? _=_ at hcf;generalize (w).drew=wa at *
 go_wp2
 go_still_tail 12,kq
 change wpList _ _ _ _ _ (wa).drew;have hhwb:(wa).drew.heap=(wa).heap:=rfl;have hbwb:Below (wa).heap.size (wa) (wa).drew:=(Zg _ _).drew;have Hwb:=hid (Zh hhwb hbwb);clear hhwb hbwb;change (wa).drew.cell? _=_ at g1 hc0 hc1 d4;change (wa).drew.frozen? _=_ at hcf;generalize (wa).drew=wb at *
 go_wp2
 have hgw5:GW W1 gb mb nn (stk0++[⟨sb,so,snx+1,sfr,se⟩]) (wb.setCell ⟨g,m*3+1,none⟩ (.int .i64 ((snx:Int)+1))):=by
  have hb:Below w.heap.size w wb:=Hwa.out.2.trans (Hwb.out.2.mono (by rw[Hwa.out.1];exact Zc _))
  have hhb:wb.heap=w.heap:=Hwb.out.1.trans Hwa.out.1
  have:=GW.next (HGW.out.same hb) (stk0:=stk0) (s:=⟨sb,so,snx,sfr,se⟩) (by rw[hhb];exact HLA.out.gbk) (by show snx+1≤se.args.len;omega)
  rw[hmm] at this
  exact this
 have e0:(wb.setCell ⟨g,m*3+1,none⟩ (.int .i64 ((snx:Int)+1))).cell? ⟨g,m*3,none⟩=some (.pointer (some ⟨sb,so,none⟩)):=by go_simp
 have e1:(wb.setCell ⟨g,m*3+1,none⟩ (.int .i64 ((snx:Int)+1))).cell? ⟨g,m*3+1,none⟩=some (.int .i64 ((snx:Int)+1)):=by go_simp
 have e4:(wb.setCell ⟨g,m*3+1,none⟩ (.int .i64 ((snx:Int)+1))).cell? ⟨sb,so+4,none⟩=some (.slice (some ⟨b',o',none⟩) se.args.len cap):=(hgw5.low.cell (p:=⟨sb,so+4,none⟩) HEX.out.1).trans HEX.out.2
 have ef:=gf
 clear hc0 hc1 d4 hcf g1
 generalize wb.setCell ⟨g,m*3+1,none⟩ (.int .i64 ((snx:Int)+1))=w5 at *
 have HG5:=hid hgw5
 have ef:w5.frozen? ⟨gb,0,none⟩=false:=by
  obtain⟨_,_,_,hg,_⟩:=hgw5.sta
  exact(XB hg).2 0
 clear hgw5
 go_still_tail 14,kq
 change wpList _ _ _ _ _ (w5).drew;have hhwc:(w5).drew.heap=(w5).heap:=rfl;have hbwc:Below (w5).heap.size (w5) (w5).drew:=(Zg _ _).drew;have Hwc:=hid (Zh hhwc hbwc);clear hhwc hbwc;change (w5).drew.cell? _=_ at e0 e1 e4;change (w5).drew.frozen? _=_ at ef;generalize (w5).drew=wc at *
 have HMT:=hid (zP (HG5.out.same Hwc.out.2) HCH.out hn (by simp;omega) HAR.out)
 go_wp2_with (go_at_call 180;refine HMT.out.mono ?_;rintro x w6 ⟨rfl,h6⟩;have H6:=hid h6;clear h6)
 refine Zl (v:=.tuple #[]) ?_ rfl ?_
 ·simp[results,Tryz.results181]
 refine⟨rfl,e,HAT.out,?_⟩
 rcases H6.out with h6|h6
 ·exact .inl h6
 exact .inr ⟨_,_,h6⟩
end Go.Proofs.YtgigilkpndhddaaGreatDoor.syn
