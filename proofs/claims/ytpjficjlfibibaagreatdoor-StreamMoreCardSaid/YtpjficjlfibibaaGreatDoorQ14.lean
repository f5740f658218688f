/-
  Parts of the proof: Gath3.
-/
import Derived.Test.YtpjficjlfibibaaGreatDoorQ13
namespace Go.Proofs.YtpjficjlfibibaaGreatDoor.syn
open Go.RowKit
set_option linter.unusedVariables false
set_option linter.unusedSimpArgs false
theorem meet_nil {W1 w:World} {gb mb nn:Nat} {stk:List SE} (h:GW W1 gb mb nn stk w) {b o:Nat} {e:PE} (he:ExpAt W1 b o e) (hk:e.k ≠ 11) (hn:e.args = .nil) :
  Calls Tryz.prog 198 #[.pointer (some ⟨gb,0,none⟩),.pointer (some ⟨b,o,none⟩)] w fun x w' => x = .returned (.tuple #[]) ∧ w' = w:=by
 obtain ⟨k,nm,n,d,args,a⟩:=e
 obtain ⟨hlt,hfz,c0,c1,c2,c3,c5,⟨ad,cap,c4,_⟩,_⟩:=he
 simp only at hk c0 c4 hn
 subst hn
 have hc:=fun o => h.low.cell (p:=⟨b,o,none⟩) hlt
 have d0:=(hc o).trans c0
 have d4:=(hc (o + 4)).trans c4
 have hk':(k == 11) = false:=beq_eq_false_iff_ne.2 hk
 simp only [PL.len] at d4
 clear h hc c0 c1 c2 c3 c4 c5 hk
 go_enter Tryz.func198,Tryz.ntmps198
 go_wp2
 refine bodyPost_ret (v:=.tuple #[]) ?_ rfl ?_
 ·simp [results,Tryz.results198]
 ·exact ⟨rfl,rfl⟩
theorem run_append_any {P:Program} (w:World) (base:Nat) (t ty e:TypeId) (i:TypeInfo) (z:Value) (size bytes:Nat) (ht:P.underlying t = some (.slice e)) (hi:P.info? e = some i) (hz:i.zero = some z)
  (hsize:i.size = size) (hby:i.bytes = bytes) (hzs:z.cells.size = size) (hsz:0 < size)
  (v:Value) (n:Nat) (xs:List Value) (hown:w.ownsRow base e size v n xs)
  (ad:Option Addr) (m c:Nat) (news:List Value) (hl:news.length = m * size) (hnews:∀ j u,news[j]? = some u → ∃ x:Addr,ad = some x ∧ w.cell? (x.add j) = some u) (h1:∀ u ∈ news,u.oneCell' = true)
  (h63:n + m ≤ maxLen) (hbytes:(n + m) * bytes ≤ 140737488355328) (hbase:base ≤ w.heap.size) :
  ∃ v' w',(Builtin.append_ #[t,t] ty #[v,.slice ad m c]).run P w = .ok v' w' ∧ w'.ownsRow base e size v' (n + m) (xs ++ news) ∧ w.grownBy w' v.ownBlock ∧ (v'.ownBlock = v.ownBlock ∨ v'.ownBlock = some w.heap.size):=by
 cases ad with
 | some a =>
  obtain ⟨v',w',hr,h2,h3,_,h5⟩:=run_append_own_at (P:=P) w base t ty e i z size bytes ht hi hz hsize hby hzs hsz v n xs hown a m c news hl (fun j u h => by obtain ⟨x,hx,hc⟩:=hnews j u h;cases hx;exact hc) h1 h63 hbytes hbase
  exact ⟨v',w',hr,h2,h3,h5⟩
 | none =>
  have hm:m = 0:=by
   cases news with
   | nil =>
    have h:m * size = 0:=hl.symm
    rcases Nat.mul_eq_zero.1 h with h | h
    ·exact h
    ·omega
   | cons u us => obtain ⟨x,hx,_⟩:=hnews 0 u rfl;cases hx
  subst hm
  obtain rfl:news = []:=by simpa using hl
  have key:∀ (b:Option Addr) (k cp:Nat),k ≤ cp → (Builtin.append_ #[t,t] ty #[.slice b k cp,.slice none 0 c]).run P w = .ok (.slice b k cp) w:=by
   intro b k cp hle
   refine run_append_nothing w t t ty e i ht hi b k cp hle _ ⟨.inl ⟨_,ht⟩,?_,?_,?_,by simp,by simp⟩
   ·intro w';simp [Builtin.lenOf]
   ·simp [Builtin.firstCells]
   ·simp [Builtin.firstCells]
  have hown':=hown
  rcases hown.2 with ⟨rfl,rfl⟩ | ⟨g,cap,cur,rfl,hb,hg,hnc,hcm,hcs,htk⟩
  ·refine ⟨_,w,key _ _ _ (Nat.le_refl _),by simpa using hown',World.grownBy.refl _ _,.inl rfl⟩
  ·refine ⟨_,w,key _ _ _ hnc,by simpa using hown',World.grownBy.refl _ _,.inl rfl⟩
theorem step_append_any {P:Program} (w:World) {ops:Array Oper} {o:Oper} {a:Act} {K:Act → World → Prop} {Q:Exit → Act → World → Prop} {E:Prop} (hgd:o.guard = none) (s x:Operand) (t:TypeId)
  (ho:o.op = .call { callee:=.builtin .append,args:=#[s,x],argTypes:=#[t,t] })
  (base:Nat) (e:TypeId) (i:TypeInfo) (z:Value) (size bytes:Nat) (ht:P.underlying t = some (.slice e)) (hi:P.info? e = some i) (hz:i.zero = some z)
  (hsize:i.size = size) (hby:i.bytes = bytes) (hzs:z.cells.size = size) (hsz:0 < size)
  (v:Value) (n:Nat) (xs:List Value) (hs:a.eval s = v) (hown:w.ownsRow base e size v n xs)
  (ad:Option Addr) (m c:Nat) (news:List Value) (hx:a.eval x = .slice ad m c) (hl:news.length = m * size) (hnews:∀ j u,news[j]? = some u → ∃ x:Addr,ad = some x ∧ w.cell? (x.add j) = some u) (h1:∀ u ∈ news,u.oneCell' = true)
  (h63:n + m ≤ maxLen) (hbytes:(n + m) * bytes ≤ 140737488355328) (hbase:base ≤ w.heap.size)
  (h:∀ v' w',w'.ownsRow base e size v' (n + m) (xs ++ news) → w.grownBy w' v.ownBlock → (v'.ownBlock = v.ownBlock ∨ v'.ownBlock = some w.heap.size) → K (a.put o.dst v') w') :
  if Region.wanted o (yielded ops a.tmps) = true then Oper.wp P o a w K Q else E:=by
 have hw:Region.wanted o (yielded ops a.tmps) = true:=by simp [Region.wanted,hgd]
 rw [if_pos hw]
 obtain ⟨v',w',hr,h2,h3,h4⟩:=run_append_any (P:=P) w base t o.type e i z size bytes ht hi hz hsize hby hzs hsz v n xs hown ad m c news hl hnews h1 h63 hbytes hbase
 unfold Oper.wp execOp
 simp only [ho,resolve,invoke,builtin,Sem.run_bind,Sem.run_pure,Result.andThen_ok,List.map_toArray,List.map_cons,List.map_nil,hs,hx,hr]
 exact h v' w' h2 h3 h4
theorem GW.same {W1 w w':World} {gb mb nn:Nat} {stk:List SE} (h:GW W1 gb mb nn stk w) (hc:Below w.heap.size w w'):GW W1 gb mb nn stk w':=by
 obtain ⟨vn,vo,xs,hgb,hon,hnm,hoo⟩:=h.sta
 exact h.names hgb hon ⟨hc.os,hc.tape,hc.output,hc.size,fun k hk _ => hc.block k hk⟩ ((hc.block gb (lt_of_block hgb)).trans hgb) (ownsRow_to hon fun k hk => hc.block k (hon.lt k hk).2) hnm (Nat.le_refl _)
theorem own_form {w:World} {base:Nat} {e:TypeId} {size:Nat} {v:Value} {n:Nat} {xs:List Value} (h:w.ownsRow base e size v n xs):∃ ad c,v = .slice ad n c:=by
 rcases h.2 with ⟨h1,h2⟩ | ⟨g,cap,cur,h1,_⟩
 ·exact ⟨none,0,by rw [h1,h2]⟩
 ·exact ⟨_,cap,h1⟩
theorem own_cap {w:World} {base:Nat} {e:TypeId} {size:Nat} {ad:Option Addr} {c n:Nat} {xs:List Value} (h:w.ownsRow base e size (.slice ad n c) n xs):n ≤ c:=by
 rcases h.2 with ⟨h1,h2⟩ | ⟨g,cap,cur,h1,_,_,h2,_⟩
 ·omega
 ·injection h1 with _ _ h1;omega
theorem own_addr {w:World} {base:Nat} {e:TypeId} {size:Nat} {a:Addr} {c n:Nat} {xs:List Value} (h:w.ownsRow base e size (.slice (some a) n c) n xs):∃ g,a = ⟨g,0,none⟩:=by
 rcases h.2 with ⟨h1,h2⟩ | ⟨g,cap,cur,h1,_⟩
 ·cases h1
 ·injection h1 with h1 _ _;injection h1 with h1;exact ⟨g,h1⟩
theorem own_at {W1 w:World} {gb mb nn:Nat} {stk:List SE} {vn vo:Value} (h:GW W1 gb mb nn stk w) (hg:w.heap[gb]? = some (gbObj vn vo mb)):(∃ xs,w.ownsRow W1.heap.size 95 6 vn nn xs ∧ NmR xs nn) ∧ w.ownsRow W1.heap.size 314 3 vo stk.length (ysOf stk):=by
 obtain ⟨vn2,vo2,xs2,hgb2,hon2,hnm2,hoo⟩:=h.sta
 have e:=hg.symm.trans hgb2
 simp only [gbObj,Option.some.injEq,Obj.cells.injEq,Array.mk.injEq,List.cons.injEq,and_true,true_and] at e
 obtain ⟨rfl,rfl⟩:=e
 exact ⟨⟨xs2,hon2,hnm2⟩,hoo⟩
theorem gw_upd {W1 w w2 w3:World} {gb mb nn:Nat} {stk:List SE} {vn vo:Value} {ob:Obj} (h:GW W1 gb mb nn stk w) (hg:w.heap[gb]? = some (gbObj vn vo mb)) (hb:Below w.heap.size w w2) (hu:Upon mb (w2.alloc ob) w3) (hm:MapP w3 mb (KeyG W1) (PcV nn)) (hml:mb < w.heap.size) :
  GW W1 gb mb nn stk w3 ∧ w3.heap[gb]? = some (gbObj vn vo mb):=by
 have hmo:=h.map
 obtain ⟨arr,clock,hmm,_⟩:=hmo
 have hb2:Below w.heap.size w (w2.alloc ob):=hb.alloc hb.size _
 have hk:∀ k,k < w.heap.size → k ≠ mb → w3.heap[k]? = w.heap[k]?:=fun k hk hne => (hu.block k (Nat.lt_of_lt_of_le hk hb2.size) hne).trans (hb2.block k hk)
 have hlow:=h.low.size
 have hg3:w3.heap[gb]? = some (gbObj vn vo mb):=(hk gb (lt_of_block hg) (fun e => by rw [e,hmm] at hg;cases hg)).trans hg
 obtain ⟨⟨xs,hon,hnm⟩,hoo⟩:=own_at h hg
 have ho:∀ {e:TypeId} {size n:Nat} {v:Value} {xs:List Value},w.ownsRow W1.heap.size e size v n xs → w3.ownsRow W1.heap.size e size v n xs:=fun h => ownsRow_to h fun k hk2 => hk k (h.lt k hk2).2 (fun e => ne_own h (b:=mb) (fun cur e2 => by rw [hmm] at e2;cases e2) (by rw [← e];exact hk2))
 refine ⟨⟨⟨hu.os.trans (hb2.os.trans h.low.os),hu.tape.trans (hb2.tape.trans h.low.tape),hu.output.trans (hb2.output.trans h.low.output),Nat.le_trans hlow (Nat.le_trans hb2.size hu.size),fun k hk1 => (hk k oq (by have:=h.hmb;omega)).trans (h.low.block k hk1)⟩,h.hgb,h.hmb,⟨vn,vo,xs,hg3,ho hon,hnm,ho hoo⟩,hm,h.stk⟩,hg3⟩
def SG (gb:Nat) (v:Value) (w':World):Prop:=w'.cell? ⟨gb,0,none⟩ = some v
theorem SG.drew {gb:Nat} {v:Value} {w':World} (h:SG gb v w'):SG gb v w'.drew:=h
theorem SG.alloc {gb:Nat} {v:Value} {w':World} (h:SG gb v w') (ob:Obj):SG gb v (w'.alloc ob):=by
 have hb:gb < w'.heap.size:=World.block_lt_of_cell? w' ⟨gb,0,none⟩ h
 exact (World.cell?_alloc_lt _ _ _ hb).trans h
theorem SG.set1 {gb:Nat} {v:Value} {w':World} (h:SG gb v w') (u:Value):SG gb v (w'.setCell ⟨gb,1,none⟩ u):=(World.cell?_setCell_other w' ⟨gb,1,none⟩ ⟨gb,0,none⟩ u (fun e => by injection e with _ e _;cases e)).trans h
def SP (pb f t:Nat) (w':World):Prop:=w'.cell? ⟨pb,0,none⟩ = some (.int .i64 (f:Int)) ∧ w'.cell? ⟨pb,1,none⟩ = some (.int .i64 (t:Int))
theorem SP.drew {pb f t:Nat} {w':World} (h:SP pb f t w'):SP pb f t w'.drew:=h
theorem SP.set {pb f t:Nat} {w':World} (h:SP pb f t w') {g j:Nat} (hg:¬ pb = g) (u:Value):SP pb f t (w'.setCell ⟨g,j,none⟩ u) :=
 ⟨(World.cell?_setCell_far _ _ _ _ (fun e => hg e.symm)).trans h.1,(World.cell?_setCell_far _ _ _ _ (fun e => hg e.symm)).trans h.2⟩
theorem open_facts {W1 w w4:World} {gb mb nn gg cap b o:Nat} {stk:List SE} {vn vo:Value} {e:PE} {ob:Obj} (h:GW W1 gb mb nn stk w) (hgb:w.heap[gb]? = some (gbObj vn vo mb)) (he:ExpAt W1 b o e)
  (hown:w4.ownsRow W1.heap.size 314 3 (.slice (some ⟨gg,0,none⟩) (stk.length + 1) cap) (stk.length + 1) (ysOf stk ++ [.pointer (some ⟨b,o,none⟩),.int .i64 0,.int .i64 nn])) (hg:((w.drew).alloc ob).grownBy w4 vo.ownBlock) (hat:vo.ownBlock = some gg ∨ gg = w.heap.size + 1) :
  w4.cell? ⟨gb,0,none⟩ = some vn ∧ w4.cell? ⟨gb,1,none⟩ = some vo ∧ w4.frozen? ⟨gb,1,none⟩ = false ∧ ∀ ar:Ar2E e,GW W1 gb mb nn (stk ++ [⟨b,o,0,nn,e⟩]) (w4.setCell ⟨gb,1,none⟩ (.slice (some ⟨gg,0,none⟩) (stk.length + 1) cap)):=by
 obtain ⟨⟨xs,hon,hnm⟩,hoo⟩:=own_at h hgb
 have hgl:=lt_of_block hgb
 have e1:=own_other hoo hgb (by decide)
 have hal:∀ j,j < w.heap.size → ((w.drew).alloc ob).heap[j]? = w.heap[j]?:=fun j hj => Below.heap_alloc w.drew ob j hj
 have h4b:∀ j,j < w.heap.size → vo.ownBlock ≠ some j → w4.heap[j]? = w.heap[j]?:=fun j hj hn => (hg.block j (by simp;omega) (fun e => hn e.symm)).trans (hal j hj)
 have hgb4:w4.heap[gb]? = some (gbObj vn vo mb):=(h4b gb hgl (fun e => e1 e.symm)).trans hgb
 obtain ⟨⟨c0,c1,c2⟩,cf⟩:=cells3g hgb4
 have hs4:w.heap.size ≤ w4.heap.size:=by have:=hg.size;simp at this;omega
 have hml:=h.map.lt
 obtain ⟨arr,clock,hmm,_⟩:=id h.map
 have hne:gg ≠ gb:=by
  intro e
  rcases hat with h1 | h1
  ·rw [e] at h1;exact e1 h1.symm
  ·omega
 have hw5:∀ j,j < w.heap.size → j ≠ gb → vo.ownBlock ≠ some j → (w4.setCell ⟨gb,1,none⟩ (.slice (some ⟨gg,0,none⟩) (stk.length + 1) cap)).heap[j]? = w.heap[j]?:=fun j hj hn1 hn2 => (heap_setCell_other _ _ _ _ (show j ≠ gb from hn1)).trans (h4b j hj hn2)
 have hmo:vo.ownBlock ≠ some mb:=ne_own hoo (b:=mb) (fun cur e2 => by rw [hmm] at e2;cases e2)
 have hlow:=h.low.size
 refine ⟨c0,c1,cf 1,fun ar => ⟨⟨?_,?_,?_,?_,fun k hk => ?_⟩,h.hgb,h.hmb,⟨vn,_,xs,gb_set1 hgb4 _,?_,hnm,?_⟩,h.map.keep (hw5 mb hml (fun e => by rw [← e,hmm] at hgb;cases hgb) hmo) (fun _ h => h),fun s hs => ?_⟩⟩
 ·exact (set_frame _ _ _).1.trans (hg.os.trans h.low.os)
 ·exact (set_frame _ _ _).2.1.trans (hg.tape.trans h.low.tape)
 ·exact (set_frame _ _ _).2.2.trans (hg.output.trans h.low.output)
 ·simp [World.setCell];omega
 ·have:=h.hgb
  exact (hw5 k oq oq (fun e => by have:=(hoo.lt k e).1;omega)).trans (h.low.block k hk)
 ·refine ownsRow_to hon fun k hk => hw5 k (hon.lt k hk).2 (fun e => own_other hon hgb (by decide) (by rw [← e];exact hk.symm)) (fun e => ?_)
  rcases hoo.2 with ⟨h1,_⟩ | ⟨g,cap2,cur,h1,_,hgo,_⟩
  ·rw [h1] at e;cases e
  ·rw [h1] at e
   injection e with e
   have e:g = k:=e
   subst e
   exact own_other hon hgo (by decide) hk.symm
 ·have hl:(stk ++ [(⟨b,o,0,nn,e⟩:SE)]).length = stk.length + 1:=by simp
  rw [hl,ysOf_append]
  exact ownsRow_to hown fun j hj => heap_setCell_other _ _ _ _ (fun e => hne (by have:some gg = some j:=hj;injection this with this;rw [this];exact e))
 ·rcases List.mem_append.1 hs with hs | hs
  ·exact h.stk s hs
  ·rw [List.mem_singleton.1 hs]
   exact ⟨he,Nat.zero_le _,Nat.le_refl _,ar⟩
theorem part_news {w:World} {base nn cn f t:Nat} {ln:Option Addr} {xs:List Value} (h:w.ownsRow base 95 6 (.slice ln nn cn) nn xs) (hnm:NmR xs nn) (hft:f ≤ t ∧ t ≤ nn) :
  ((xs.drop (f * 6)).take ((t - f) * 6)).length = (t - f) * 6 ∧ (∀ j u,((xs.drop (f * 6)).take ((t - f) * 6))[j]? = some u → ∃ x:Addr,(match ln with | none => none | some a => if cn = f then some ⟨a.block,0,none⟩ else some ⟨a.block,f * 6,none⟩) = some x ∧ w.drew.cell? (x.add j) = some u) ∧ ∀ u ∈ (xs.drop (f * 6)).take ((t - f) * 6),u.oneCell' = true:=by
 have hl:=h.1
 refine ⟨by simp;omega,fun j u hu => ?_,fun u hu => hnm.1 u (List.mem_of_mem_drop (List.mem_of_mem_take hu))⟩
 have hj:j < (t - f) * 6:=by
  rcases Nat.lt_or_ge j ((t - f) * 6) with h | h
  ·exact h
  ·rw [List.getElem?_eq_none (by simp;omega)] at hu;cases hu
 rw [List.getElem?_take_of_lt hj,List.getElem?_drop] at hu
 have hc:=own_cap h
 cases ln with
 | none =>
  rcases h.2 with ⟨h1,h2⟩ | ⟨g,cap,cur,h1,_⟩
  ·omega
  ·cases h1
 | some a =>
  obtain ⟨g,rfl⟩:=own_addr h
  refine ⟨⟨g,f * 6,none⟩,by simp only;rw [if_neg oq],?_⟩
  have:=h.cellAt (f * 6 + j) oq
  rw [show (⟨g,f * 6,none⟩:Addr).add j = ⟨g,f * 6 + j,none⟩ by unfold Addr.add;by_cases h1:j = 0 <;> simp [h1]]
  exact this.trans hu
theorem merge_facts {W1 w w4:World} {gb mb nn pb f t:Nat} {stk:List SE} {vn vo v':Value} {xs:List Value} (h:GW W1 gb mb nn stk w) (hgb:w.heap[gb]? = some (gbObj vn vo mb)) (hon:w.ownsRow W1.heap.size 95 6 vn nn xs) (hnm:NmR xs nn)
  (hpb:w.heap[pb]? = some (.cells #[.int .i64 f,.int .i64 t] 311 (0,0))) (hft:f ≤ t ∧ t ≤ nn) (hown:w4.ownsRow W1.heap.size 95 6 v' (nn + (t - f)) (xs ++ (xs.drop (f * 6)).take ((t - f) * 6))) (hg:(w.drew).grownBy w4 vn.ownBlock) (hat:v'.ownBlock = vn.ownBlock ∨ v'.ownBlock = some (w.drew).heap.size) :
  SP pb f t w4 ∧ w4.cell? ⟨gb,0,none⟩ = some vn ∧ w4.frozen? ⟨gb,0,none⟩ = false ∧ GW W1 gb mb (nn + (t - f)) stk (w4.setCell ⟨gb,0,none⟩ v'):=by
 have hgl:=lt_of_block hgb
 have e1:=own_other hon hgb (by decide)
 have e2:=own_other hon hpb (by decide)
 have h4b:∀ j,j < w.heap.size → vn.ownBlock ≠ some j → w4.heap[j]? = w.heap[j]?:=fun j hj hn => hg.block j (by simpa using hj) (fun e => hn e.symm)
 have hgb4:w4.heap[gb]? = some (gbObj vn vo mb):=(h4b gb hgl (fun e => e1 e.symm)).trans hgb
 have hpb4:=(h4b pb (lt_of_block hpb) (fun e => e2 e.symm)).trans hpb
 obtain ⟨⟨c0,c1,c2⟩,cf⟩:=cells3g hgb4
 have hs4:w.heap.size ≤ w4.heap.size:=by have:=hg.size;simpa using this
 refine ⟨⟨by simp [World.cell?,hpb4],by simp [World.cell?,hpb4]⟩,c0,cf 0,h.names hgb hon ⟨?_,?_,?_,?_,fun j hj hn => ?_⟩ (gb_set hgb4 _) ?_ (hnm.snoc hon.1 (hnm.part hon.1 hft.1 hft.2)) oq⟩
 ·exact (set_frame _ _ _).1.trans hg.os
 ·exact (set_frame _ _ _).2.1.trans hg.tape
 ·exact (set_frame _ _ _).2.2.trans hg.output
 ·simp [World.setCell];exact hs4
 ·exact (heap_setCell_other _ _ _ _ (show j ≠ gb from fun e => hn (.inl e))).trans (h4b j hj (fun e => hn (.inr e)))
 ·refine ownsRow_to hown fun j hj => heap_setCell_other _ _ _ _ (fun e => ?_)
  have e:j = gb:=e
  rw [e] at hj
  rcases hat with h1 | h1
  ·exact e1 (hj.symm.trans h1)
  ·rw [hj] at h1
   injection h1 with h1
   simp at h1
   omega
theorem pc_of {nn:Nat} {u:Value} {b:Bool} (hy:b = true → PcV nn u) (hz:b = false → u = .agg #[.int .i64 0,.int .i64 0]):∃ f t:Nat,u = .agg #[.int .i64 (f:Int),.int .i64 (t:Int)] ∧ (f ≤ t ∧ t ≤ nn):=by
 cases b with
 | true => obtain ⟨f,t,h1,h2,h3⟩:=hy rfl;exact ⟨f,t,h1,h2,h3⟩
 | false => exact ⟨0,0,hz rfl,Nat.le_refl _,Nat.zero_le _⟩
set_option maxRecDepth 100000 in
set_option maxHeartbeats 1000000 in
theorem meet_more {W1 w:World} {gb mb nn:Nat} {stk:List SE} (h:GW W1 gb mb nn stk w) {b o:Nat} {e:PE} (he:ExpAt W1 b o e) (hk:e.k ≠ 11) (hl:e.args.len ≠ 0) (hn:nn ≤ 60000000000) (hso:stk.length ≤ 1000) (har:Ar2E e) :
  Calls Tryz.prog 198 #[.pointer (some ⟨gb,0,none⟩),.pointer (some ⟨b,o,none⟩)] w fun x w' => x = .returned (.tuple #[]) ∧ ((∃ m,m ≤ 2 * nn ∧ GW W1 gb mb m stk w') ∨ GW W1 gb mb nn (stk ++ [⟨b,o,0,nn,e⟩]) w'):=by
 obtain ⟨vn,vo,xs,hgbb,hon,hnm,hoo⟩:=h.sta
 have HGW:=hid h
 have HM:=hid h.map
 have HKP:=hid (fun v hv => KeyG.ptr h.low v hv)
 have HPT:=hid (he.ptr h.low)
 have HE:=hid he
 have hgb:=h.hgb
 have hmb:=h.hmb
 have HON:=hid hon
 have HNM:=hid hnm
 have HOO:=hid hoo
 have HG:=hid hgbb
 obtain ⟨⟨g0,g1,g2⟩,gf⟩:=cells3g hgbb
 obtain ⟨k,nm,n,d,args,a⟩:=e
 obtain ⟨hlt,hfz,c0,c1,c2,c3,c5,⟨ad,cap,c4,_⟩,_⟩:=he
 simp only at hk c0 c4 hl
 have hc:=fun o => h.low.cell (p:=⟨b,o,none⟩) hlt
 have d0:=(hc o).trans c0
 have d4:=(hc (o + 4)).trans c4
 have hk':(k == 11) = false:=beq_eq_false_iff_ne.2 hk
 have hl':((args.len:Int) == 0) = false:=beq_eq_false_iff_ne.2 oq
 have hsz:=h.low.size
 have hgl:=lt_of_block hgbb
 have hml:=h.map.lt
 clear h hc c0 c1 c2 c3 c4 c5 hk hl hon hnm hoo hgbb hfz
 go_enter Tryz.func198,Tryz.ntmps198
 go_wp2_with (first | (at_lookup;refine wpList_lookP piecesMap _ rfl _ _ rfl mb (KeyG W1) (PcV nn) _ rfl rfl HM.out HKP.out HPT.out ?_;intro u bb w2 hy hz hs2 hb2;obtain ⟨f,t,rfl,hft⟩:=pc_of hy hz;have HFT:=hid hft;clear hy hz hft;have HB2:=hid hb2;obtain ⟨⟨p0,p1,p2⟩,pf⟩:=cells3g ((hb2.block _ hgl).trans HG.out);clear hb2;cases bb) | (at_mapUpdate;refine wpList_putP piecesMap _ rfl _ _ _ rfl mb (KeyG W1) (PcV nn) _ (.agg #[.int .i64 0,.int .i64 0]) rfl rfl rfl (HM.out.keep (by exact (Below.heap_alloc _ _ _ oq).trans (HB2.out.block _ hml)) (fun _ h => h)) (fun v hv => (HKP.out v hv).keep (fun b cs t fr hb => ⟨cs,(Below.heap_alloc _ _ _ (by have:=lt_of_block hb;omega)).trans ((HB2.out.block _ (lt_of_block hb)).trans hb)⟩)) ⟨b,o,_,rfl,HE.out⟩ ⟨0,0,rfl,Nat.le_refl _,Nat.zero_le _⟩ ?_;intro w3 hu3 hs3 hm3;have HU3:=hid hu3;have HM3:=hid hm3;clear hu3 hm3))
 ·obtain ⟨hgw3,hg3⟩:=gw_upd HGW.out HG.out HB2.out HU3.out HM3.out hml
  have hlow3:=hgw3.low
  obtain ⟨lo,co,hvo⟩:∃ ad co,vo = .slice ad stk.length co:=own_form HOO.out
  subst hvo
  obtain ⟨ln,cn,hvn⟩:∃ ad cn,vn = .slice ad nn cn:=own_form HON.out
  subst hvn
  have HOO:=hid (own_at hgw3 hg3).2
  obtain ⟨⟨q0,q1,q2⟩,qf⟩:=cells3g hg3
  obtain ⟨i0,hi0,hi1,hi2,hi3⟩:=info_partsg infoOp
  have HI:=hid (And.intro hi0 (And.intro hi1 (And.intro hi2 hi3)))
  have hgl3:=lt_of_block hg3
  have HB:=hid (And.intro hso (And.intro hgl3 hlow3.size))
  have KA:=hid (show SG gb (.slice ln nn cn) w3 from q0)
  have HPF:=hid (fun (w4:World) (gg cap:Nat) hown hg hat => open_facts (w4:=w4) (gg:=gg) (cap:=cap) (ob:=.cells #[.pointer (some ⟨b,o,none⟩),.int .i64 0,.int .i64 nn] 314) hgw3 hg3 HE.out hown hg hat)
  clear hgw3 hg3 hlow3 hi0 hi1 hi2 hi3 p0 p1 p2 pf g0 g1 g2 gf hs3 hs2 d0 d4 hso HFT HB2 HU3 HM3 HGW HM HKP HPT HON HNM HG
  refine wp_region_held_drew (S:=fun w' => w'.cell? ⟨gb,0,none⟩ = some (.slice ln nn cn)) (by kernel_rfl) (by (show SG gb (.slice ln nn cn) _;repeat (first | with_reducible exact KA.out | with_reducible exact KC.out | with_reducible refine SG.drew ?_ | with_reducible refine SG.alloc ?_ _ | (with_reducible refine SG.set1 ?_ _)))) (fun hHeld => ?_)
  refine tk 0 (oi:=?a1) (v:=?b1) ?c1 ?e1 ?f1 hHeld ?r1 ?d1
  case c1=>(simp only [tA,tB,tC];rfl)
  case d1=>exact fun _ _ _ h=>h
  case e1=>rfl
  case f1=>(intro w hSw;(try dsimp only at hSw);go_simp;try with_reducible rfl)
  try simp only [Act.put,sA,sB,sC]
  refine tk 1 (oi:=?a2) (v:=?b2) ?c2 ?e2 ?f2 hHeld ?r2 ?d2
  case c2=>(simp only [tA,tB,tC];rfl)
  case d2=>exact fun _ _ _ h=>h
  case e2=>rfl
  case f2=>(intro w hSw;(try dsimp only at hSw);go_simp;try with_reducible rfl)
  try simp only [Act.put,sA,sB,sC]
  refine tk 2 (oi:=?a3) (v:=?b3) ?c3 ?e3 ?f3 hHeld ?r3 ?d3
  case c3=>(simp only [tA,tB,tC];rfl)
  case d3=>exact fun _ _ _ h=>h
  case e3=>rfl
  case f3=>(intro w hSw;(try dsimp only at hSw);go_simp;try with_reducible rfl)
  try simp only [Act.put,sA,sB,sC]
  refine tk 3 (oi:=?a4) (v:=?b4) ?c4 ?e4 ?f4 hHeld ?r4 ?d4
  case c4=>(simp only [tA,tB,tC];rfl)
  case d4=>exact fun _ _ _ h=>h
  case e4=>rfl
  case f4=>(intro w hSw;(try dsimp only at hSw);go_simp;try with_reducible rfl)
  try simp only [Act.put,sA,sB,sC]
  refine tk 5 (oi:=?a5) (v:=?b5) ?c5 ?e5 ?f5 hHeld ?r5 ?d5
  case c5=>(simp only [tA,tB,tC];rfl)
  case d5=>exact fun _ _ _ h=>h
  case e5=>rfl
  case f5=>(intro w hSw;(try dsimp only at hSw);go_simp;try with_reducible rfl)
  try simp only [Act.put,sA,sB,sC]
  refine tk 6 (oi:=?a6) (v:=?b6) ?c6 ?e6 ?f6 hHeld ?r6 ?d6
  case c6=>(simp only [tA,tB,tC];rfl)
  case d6=>exact fun _ _ _ h=>h
  case e6=>rfl
  case f6=>(intro w hSw;(try dsimp only at hSw);go_simp;try with_reducible rfl)
  try simp only [Act.put,sA,sB,sC]
  refine tk 7 (oi:=?a7) (v:=?b7) ?c7 ?e7 ?f7 hHeld ?r7 ?d7
  case c7=>(simp only [tA,tB,tC];rfl)
  case d7=>exact fun _ _ _ h=>h
  case e7=>rfl
  case f7=>(intro w hSw;(try dsimp only at hSw);go_simp;try with_reducible rfl)
  try simp only [Act.put,sA,sB,sC]
  refine tk 8 (oi:=?a8) (v:=?b8) ?c8 ?e8 ?f8 hHeld ?r8 ?d8
  case c8=>(simp only [tA,tB,tC];rfl)
  case d8=>exact fun _ _ _ h=>h
  case e8=>rfl
  case f8=>(intro w hSw;(try dsimp only at hSw);go_simp;try with_reducible rfl)
  try simp only [Act.put,sA,sB,sC]
  refine tk 9 (oi:=?a9) (v:=?b9) ?c9 ?e9 ?f9 hHeld ?r9 ?d9
  case c9=>(simp only [tA,tB,tC];rfl)
  case d9=>exact fun _ _ _ h=>h
  case e9=>rfl
  case f9=>(intro w hSw;(try dsimp only at hSw);go_simp;try with_reducible rfl)
  try simp only [Act.put,sA,sB,sC]
  refine tk 10 (oi:=?a10) (v:=?b10) ?c10 ?e10 ?f10 hHeld ?r10 ?d10
  case c10=>(simp only [tA,tB,tC];rfl)
  case d10=>exact fun _ _ _ h=>h
  case e10=>rfl
  case f10=>(intro w hSw;(try dsimp only at hSw);go_simp;try with_reducible rfl)
  try simp only [Act.put,sA,sB,sC]
  refine tk 11 (oi:=?a11) (v:=?b11) ?c11 ?e11 ?f11 hHeld ?r11 ?d11
  case c11=>(simp only [tA,tB,tC];rfl)
  case d11=>exact fun _ _ _ h=>h
  case e11=>rfl
  case f11=>(intro w hSw;(try dsimp only at hSw);go_simp;try with_reducible rfl)
  try simp only [Act.put,sA,sB,sC]
  refine wpAnyH_ready (rs:=[4,12]) (by kernel_rfl) (by simp) ?_
  refine AllReadyH.cons (o:=?o22) ?hi22 (fun K hK => ?_) (AllReadyH.cons (o:=?p22) ?hj22 (fun K hK => ?_) AllReadyH.nil)
  case hi22 => (simp only [tA,tB,tC];rfl)
  case hj22 => (simp only [tA,tB,tC];rfl)
  ·go_simp
   refine hK.out _ _ (by (show SG gb (.slice ln nn cn) _;repeat (first | with_reducible exact KA.out | with_reducible exact KC.out | with_reducible refine SG.drew ?_ | with_reducible refine SG.alloc ?_ _ | (with_reducible refine SG.set1 ?_ _)))) (fun hHeld => ?_)
   clear hK K
   try simp only [Act.put,sA,sB,sC]
   refine wpAnyH_ready (rs:=[12]) (by kernel_rfl) (by simp) ?_
   refine AllReadyH.cons (o:=?o12) ?hi12 (fun K hK => ?_) AllReadyH.nil
   case hi12 => (simp only [tA,tB,tC];rfl)
   go_simp
   refine hK.out _ _ (by (show SG gb (.slice ln nn cn) _;repeat (first | with_reducible exact KA.out | with_reducible exact KC.out | with_reducible refine SG.drew ?_ | with_reducible refine SG.alloc ?_ _ | (with_reducible refine SG.set1 ?_ _)))) (fun hHeld => ?_)
   clear hK K
   try simp only [Act.put,sA,sB,sC]
   refine wpAnyH_ready (rs:=[13]) (by kernel_rfl) (by simp) ?_
   refine AllReadyH.cons (o:=?o13) ?hi13 (fun K hK => ?_) AllReadyH.nil
   case hi13 => (simp only [tA,tB,tC];rfl)
   (refine step_append_lies _ (by rfl) _ _ _ (by rfl) W1.heap.size 314 i0 _ 3 24 Tryz.underlying298 HI.out.1 HI.out.2.1 HI.out.2.2.1 HI.out.2.2.2 rfl oq (.slice lo stk.length co) stk.length (ysOf stk) (by rfl) (HOO.out.drew.alloc _) ⟨w3.heap.size,0,none⟩ 1 1 [.pointer (some ⟨b,o,none⟩),.int .i64 0,.int .i64 nn] (by rfl) (by rfl) (World.news_of_block (heap_alloc_new w3.drew _)) (by simp [Value.oneCell']) oq (by have:=HB.out.1;unfold maxLen;omega) (by have:=HB.out.1;omega) (by have:=HB.out.2.2;simp;omega) (w3.heap.size + 1) (by simp) ?_;intro gg cap w4 hown4 hgrow4 hat4 hlt4;have KP:=HPF.out w4 gg cap hown4 hgrow4 hat4;have KC:=hid (show SG gb (.slice ln nn cn) w4 from KP.1);have kg1:=KP.2.1;have kgf:=KP.2.2.1;have HCL:=hid KP.2.2.2;clear KP hown4 hgrow4 hat4)
   refine hK.out _ _ (by (show SG gb (.slice ln nn cn) _;repeat (first | with_reducible exact KA.out | with_reducible exact KC.out | with_reducible refine SG.drew ?_ | with_reducible refine SG.alloc ?_ _ | (with_reducible refine SG.set1 ?_ _)))) (fun hHeld => ?_)
   clear hK K
   try simp only [Act.put,sA,sB,sC]
   refine tk 14 (oi:=?a14) (v:=?b14) ?c14 ?e14 ?f14 hHeld ?r14 ?d14
   case c14=>(simp only [tA,tB,tC];rfl)
   case d14=>exact fun _ _ _ h=>h
   case e14=>rfl
   case f14=>(intro w hSw;(try dsimp only at hSw);go_simp;try with_reducible rfl)
   try simp only [Act.put,sA,sB,sC]
   refine tk 15 (oi:=?a15) (v:=?b15) ?c15 ?e15 ?f15 hHeld ?r15 ?d15
   case c15=>(simp only [tA,tB,tC];rfl)
   case d15=>exact fun _ _ _ h=>h
   case e15=>rfl
   case f15=>(intro w hSw;(try dsimp only at hSw);go_simp;try with_reducible rfl)
   try simp only [Act.put,sA,sB,sC]
   refine wpAnyH_ready (rs:=[16]) (by kernel_rfl) (by simp) ?_
   refine AllReadyH.cons (o:=?o16) ?hi16 (fun K hK => ?_) AllReadyH.nil
   case hi16 => (simp only [tA,tB,tC];rfl)
   go_simp
   refine hK.out _ _ (by (show SG gb (.slice ln nn cn) _;repeat (first | with_reducible exact KA.out | with_reducible exact KC.out | with_reducible refine SG.drew ?_ | with_reducible refine SG.alloc ?_ _ | (with_reducible refine SG.set1 ?_ _)))) (fun hHeld => ?_)
   clear hK K
   try simp only [Act.put,sA,sB,sC]
   refine wpAnyH_done (by kernel_rfl) ?_ _
   (go_wp2;all_goals (refine bodyPost_end (v:=.tuple #[]) ?_ rfl ?_;(focus (simp [results,Tryz.results198]));exact ⟨rfl,.inr (HCL.out har)⟩))
  ·go_simp
   refine hK.out _ _ (by (show SG gb (.slice ln nn cn) _;repeat (first | with_reducible exact KA.out | with_reducible exact KC.out | with_reducible refine SG.drew ?_ | with_reducible refine SG.alloc ?_ _ | (with_reducible refine SG.set1 ?_ _)))) (fun hHeld => ?_)
   clear hK K
   try simp only [Act.put,sA,sB,sC]
   refine wpAnyH_ready (rs:=[4]) (by kernel_rfl) (by simp) ?_
   refine AllReadyH.cons (o:=?o17) ?hi17 (fun K hK => ?_) AllReadyH.nil
   case hi17 => (simp only [tA,tB,tC];rfl)
   go_simp
   refine hK.out _ _ (by (show SG gb (.slice ln nn cn) _;repeat (first | with_reducible exact KA.out | with_reducible exact KC.out | with_reducible refine SG.drew ?_ | with_reducible refine SG.alloc ?_ _ | (with_reducible refine SG.set1 ?_ _)))) (fun hHeld => ?_)
   clear hK K
   try simp only [Act.put,sA,sB,sC]
   refine wpAnyH_ready (rs:=[13]) (by kernel_rfl) (by simp) ?_
   refine AllReadyH.cons (o:=?o18) ?hi18 (fun K hK => ?_) AllReadyH.nil
   case hi18 => (simp only [tA,tB,tC];rfl)
   (refine step_append_lies _ (by rfl) _ _ _ (by rfl) W1.heap.size 314 i0 _ 3 24 Tryz.underlying298 HI.out.1 HI.out.2.1 HI.out.2.2.1 HI.out.2.2.2 rfl oq (.slice lo stk.length co) stk.length (ysOf stk) (by rfl) (HOO.out.drew.alloc _) ⟨w3.heap.size,0,none⟩ 1 1 [.pointer (some ⟨b,o,none⟩),.int .i64 0,.int .i64 nn] (by rfl) (by rfl) (World.news_of_block (heap_alloc_new w3.drew _)) (by simp [Value.oneCell']) oq (by have:=HB.out.1;unfold maxLen;omega) (by have:=HB.out.1;omega) (by have:=HB.out.2.2;simp;omega) (w3.heap.size + 1) (by simp) ?_;intro gg cap w4 hown4 hgrow4 hat4 hlt4;have KP:=HPF.out w4 gg cap hown4 hgrow4 hat4;have KC:=hid (show SG gb (.slice ln nn cn) w4 from KP.1);have kg1:=KP.2.1;have kgf:=KP.2.2.1;have HCL:=hid KP.2.2.2;clear KP hown4 hgrow4 hat4)
   refine hK.out _ _ (by (show SG gb (.slice ln nn cn) _;repeat (first | with_reducible exact KA.out | with_reducible exact KC.out | with_reducible refine SG.drew ?_ | with_reducible refine SG.alloc ?_ _ | (with_reducible refine SG.set1 ?_ _)))) (fun hHeld => ?_)
   clear hK K
   try simp only [Act.put,sA,sB,sC]
   refine tk 14 (oi:=?a19) (v:=?b19) ?c19 ?e19 ?f19 hHeld ?r19 ?d19
   case c19=>(simp only [tA,tB,tC];rfl)
   case d19=>exact fun _ _ _ h=>h
   case e19=>rfl
   case f19=>(intro w hSw;(try dsimp only at hSw);go_simp;try with_reducible rfl)
   try simp only [Act.put,sA,sB,sC]
   refine tk 15 (oi:=?a20) (v:=?b20) ?c20 ?e20 ?f20 hHeld ?r20 ?d20
   case c20=>(simp only [tA,tB,tC];rfl)
   case d20=>exact fun _ _ _ h=>h
   case e20=>rfl
   case f20=>(intro w hSw;(try dsimp only at hSw);go_simp;try with_reducible rfl)
   try simp only [Act.put,sA,sB,sC]
   refine wpAnyH_ready (rs:=[16]) (by kernel_rfl) (by simp) ?_
   refine AllReadyH.cons (o:=?o21) ?hi21 (fun K hK => ?_) AllReadyH.nil
   case hi21 => (simp only [tA,tB,tC];rfl)
   go_simp
   refine hK.out _ _ (by (show SG gb (.slice ln nn cn) _;repeat (first | with_reducible exact KA.out | with_reducible exact KC.out | with_reducible refine SG.drew ?_ | with_reducible refine SG.alloc ?_ _ | (with_reducible refine SG.set1 ?_ _)))) (fun hHeld => ?_)
   clear hK K
   try simp only [Act.put,sA,sB,sC]
   refine wpAnyH_done (by kernel_rfl) ?_ _
   (go_wp2;all_goals (refine bodyPost_end (v:=.tuple #[]) ?_ rfl ?_;(focus (simp [results,Tryz.results198]));exact ⟨rfl,.inr (HCL.out har)⟩))
 ·obtain ⟨ln,cn,hvn⟩:∃ ad cn,vn = .slice ad nn cn:=own_form HON.out
  subst hvn
  have hgw3:GW W1 gb mb nn stk (w2.alloc (.cells #[.int .i64 f,.int .i64 t] 311)):=HGW.out.same (HB2.out.alloc oq _)
  have hg3:(w2.alloc (.cells #[.int .i64 f,.int .i64 t] 311)).heap[gb]? = some (gbObj (.slice ln nn cn) vo mb):=(Below.heap_alloc _ _ _ oq).trans ((HB2.out.block _ hgl).trans HG.out)
  have KA:=hid (show SP w.heap.size f t (w2.alloc (.cells #[.int .i64 f,.int .i64 t] 311)) from ⟨by rw [← hs2];go_simp,by rw [← hs2];go_simp⟩)
  have hpg:¬ w.heap.size = gb:=by omega
  have hpb3:(w2.alloc (.cells #[.int .i64 f,.int .i64 t] 311)).heap[w.heap.size]? = some (.cells #[.int .i64 f,.int .i64 t] 311 (0,0)):=by rw [← hs2];exact heap_new w2 _
  obtain ⟨⟨q0,q1,q2⟩,qf⟩:=cells3g hg3
  generalize w2.alloc (.cells #[.int .i64 f,.int .i64 t] 311) = w3 at *
  obtain ⟨xs3,hon3,hnm3⟩:=(own_at hgw3 hg3).1
  have HON3:=hid hon3
  obtain ⟨i0,hi0,hi1,hi2,hi3⟩:=info_partsg infoEx
  have HI:=hid (And.intro hi0 (And.intro hi1 (And.intro hi2 hi3)))
  have hgl3:=lt_of_block hg3
  have hlow3:=hgw3.low
  have HB:=hid (And.intro hn (And.intro hgl3 hlow3.size))
  have hft:=HFT.out
  clear hi0 hi1 hi2 hi3 p0 p1 p2 pf g0 g1 g2 gf hs2 d0 d4 hso HB2 HGW HM HKP HPT HOO HG HON
  have hcn:=own_cap HON3.out
  have hi1:(0:Int) ≤ (f:Int):=by omega
  have hi2:(f:Int) ≤ (t:Int):=by omega
  have hi3:(t:Int) ≤ (cn:Int):=by omega
  have hi4:(0:Int) ≤ (t:Int):=by omega
  have hi5:(f:Int) ≤ (cn:Int):=by omega
  have HPF:=hid (fun (w4:World) (v':Value) hown hg hat => merge_facts (w4:=w4) (v':=v') hgw3 hg3 hon3 hnm3 hpb3 hft hown hg hat)
  have HN:=hid (part_news hon3 hnm3 hft)
  clear hpb3 hnm3 hon3 hg3 hgw3 hft hlow3
  cases ln with
  | none =>
   simp only at HN
   refine wp_region_held_drew (S:=fun w' => w'.cell? ⟨w.heap.size,0,none⟩ = some (.int .i64 f) ∧ w'.cell? ⟨w.heap.size,1,none⟩ = some (.int .i64 t)) (by kernel_rfl) (by (show SP w.heap.size f t _;repeat (first | with_reducible exact KA.out | with_reducible exact KC.out | with_reducible refine SP.drew ?_ | with_reducible refine SP.alloc ?_ _ | (with_reducible refine SP.set ?_ hpg _)))) (fun hHeld => ?_)
   refine tk 0 (oi:=?a47) (v:=?b47) ?c47 ?e47 ?f47 hHeld ?r47 ?d47
   case c47=>(simp only [tA,tB,tC];rfl)
   case d47=>exact fun _ _ _ h=>h
   case e47=>rfl
   case f47=>(intro w hSw;(try dsimp only at hSw);go_simp;try with_reducible rfl)
   try simp only [Act.put,sA,sB,sC]
   refine tk 1 (oi:=?a48) (v:=?b48) ?c48 ?e48 ?f48 hHeld ?r48 ?d48
   case c48=>(simp only [tA,tB,tC];rfl)
   case d48=>exact fun _ _ _ h=>h
   case e48=>rfl
   case f48=>(intro w hSw;(try dsimp only at hSw);go_simp;try with_reducible rfl)
   try simp only [Act.put,sA,sB,sC]
   refine tk 2 (oi:=?a49) (v:=?b49) ?c49 ?e49 ?f49 hHeld ?r49 ?d49
   case c49=>(simp only [tA,tB,tC];rfl)
   case d49=>exact fun _ _ _ h=>h
   case e49=>rfl
   case f49=>(intro w hSw;(try dsimp only at hSw);go_simp;try with_reducible rfl)
   try simp only [Act.put,sA,sB,sC]
   refine tk 3 (oi:=?a50) (v:=?b50) ?c50 ?e50 ?f50 hHeld ?r50 ?d50
   case c50=>(simp only [tA,tB,tC];rfl)
   case d50=>exact fun _ _ _ h=>h
   case e50=>rfl
   case f50=>(intro w hSw;(try dsimp only at hSw);go_simp;try with_reducible rfl)
   try simp only [Act.put,sA,sB,sC]
   refine tk 5 (oi:=?a51) (v:=?b51) ?c51 ?e51 ?f51 hHeld ?r51 ?d51
   case c51=>(simp only [tA,tB,tC];rfl)
   case d51=>exact fun _ _ _ h=>h
   case e51=>rfl
   case f51=>(intro w hSw;(try dsimp only at hSw);go_simp;try with_reducible rfl)
   try simp only [Act.put,sA,sB,sC]
   refine tk 6 (oi:=?a52) (v:=?b52) ?c52 ?e52 ?f52 hHeld ?r52 ?d52
   case c52=>(simp only [tA,tB,tC];rfl)
   case d52=>exact fun _ _ _ h=>h
   case e52=>rfl
   case f52=>(intro w hSw;(try dsimp only at hSw);go_simp;try with_reducible rfl)
   try simp only [Act.put,sA,sB,sC]
   refine tk 7 (oi:=?a53) (v:=?b53) ?c53 ?e53 ?f53 hHeld ?r53 ?d53
   case c53=>(simp only [tA,tB,tC];rfl)
   case d53=>exact fun _ _ _ h=>h
   case e53=>rfl
   case f53=>(intro w hSw;(try dsimp only at hSw);go_simp;try with_reducible rfl)
   try simp only [Act.put,sA,sB,sC]
   refine tk 9 (oi:=?a54) (v:=?b54) ?c54 ?e54 ?f54 hHeld ?r54 ?d54
   case c54=>(simp only [tA,tB,tC];rfl)
   case d54=>exact fun _ _ _ h=>h
   case e54=>rfl
   case f54=>(intro w hSw;(try dsimp only at hSw);go_simp;try with_reducible rfl)
   try simp only [Act.put,sA,sB,sC]
   refine tk 10 (oi:=?a55) (v:=?b55) ?c55 ?e55 ?f55 hHeld ?r55 ?d55
   case c55=>(simp only [tA,tB,tC];rfl)
   case d55=>exact fun _ _ _ h=>h
   case e55=>rfl
   case f55=>(intro w hSw;(try dsimp only at hSw);go_simp;try with_reducible rfl)
   try simp only [Act.put,sA,sB,sC]
   refine tk 11 (oi:=?a56) (v:=?b56) ?c56 ?e56 ?f56 hHeld ?r56 ?d56
   case c56=>(simp only [tA,tB,tC];rfl)
   case d56=>exact fun _ _ _ h=>h
   case e56=>rfl
   case f56=>(intro w hSw;(try dsimp only at hSw);go_simp;try with_reducible rfl)
   try simp only [Act.put,sA,sB,sC]
   refine tk 12 (oi:=?a57) (v:=?b57) ?c57 ?e57 ?f57 hHeld ?r57 ?d57
   case c57=>(simp only [tA,tB,tC];rfl)
   case d57=>exact fun _ _ _ h=>h
   case e57=>rfl
   case f57=>(intro w hSw;(try dsimp only at hSw);go_simp;try with_reducible rfl)
   try simp only [Act.put,sA,sB,sC]
   refine wpAnyH_ready (rs:=[4,8]) (by kernel_rfl) (by simp) ?_
   refine AllReadyH.cons (o:=?o70) ?hi70 (fun K hK => ?_) (AllReadyH.cons (o:=?p70) ?hj70 (fun K hK => ?_) AllReadyH.nil)
   case hi70 => (simp only [tA,tB,tC];rfl)
   case hj70 => (simp only [tA,tB,tC];rfl)
   ·go_simp
    refine hK.out _ _ (by (show SP w.heap.size f t _;repeat (first | with_reducible exact KA.out | with_reducible exact KC.out | with_reducible refine SP.drew ?_ | with_reducible refine SP.alloc ?_ _ | (with_reducible refine SP.set ?_ hpg _)))) (fun hHeld => ?_)
    clear hK K
    try simp only [Act.put,sA,sB,sC]
    refine wpAnyH_ready (rs:=[8]) (by kernel_rfl) (by simp) ?_
    refine AllReadyH.cons (o:=?o58) ?hi58 (fun K hK => ?_) AllReadyH.nil
    case hi58 => (simp only [tA,tB,tC];rfl)
    go_simp
    refine hK.out _ _ (by (show SP w.heap.size f t _;repeat (first | with_reducible exact KA.out | with_reducible exact KC.out | with_reducible refine SP.drew ?_ | with_reducible refine SP.alloc ?_ _ | (with_reducible refine SP.set ?_ hpg _)))) (fun hHeld => ?_)
    clear hK K
    try simp only [Act.put,sA,sB,sC]
    refine tk 13 (oi:=?a59) (v:=?b59) ?c59 ?e59 ?f59 hHeld ?r59 ?d59
    case c59=>(simp only [tA,tB,tC];rfl)
    case d59=>exact fun _ _ _ h=>h
    case e59=>rfl
    case f59=>(intro w hSw;(try dsimp only at hSw);go_simp;try with_reducible rfl)
    try simp only [Act.put,sA,sB,sC]
    refine wpAnyH_ready (rs:=[14]) (by kernel_rfl) (by simp) ?_
    refine AllReadyH.cons (o:=?o60) ?hi60 (fun K hK => ?_) AllReadyH.nil
    case hi60 => (simp only [tA,tB,tC];rfl)
    (refine step_append_any _ (by rfl) _ _ _ (by rfl) W1.heap.size 95 i0 _ 6 72 Tryz.underlying93 HI.out.1 HI.out.2.1 HI.out.2.2.1 HI.out.2.2.2 rfl oq (.slice none nn cn) nn xs3 (by rfl) (HON3.out.drew) none (t - f) (cn - f) ((xs3.drop (f * 6)).take ((t - f) * 6)) (by rfl) HN.out.1 HN.out.2.1 HN.out.2.2 (by have:=HB.out.1;have:=HFT.out;unfold maxLen;omega) (by have:=HB.out.1;have:=HFT.out;omega) (by have:=HB.out.2.2;simp;omega) ?_;intro v' w4 hown4 hgrow4 hat4;obtain ⟨lv,cv,rfl⟩:=own_form hown4;have KP:=HPF.out w4 _ hown4 hgrow4 hat4;have KC:=hid (show SP w.heap.size f t w4 from KP.1);have kg1:=KP.2.1;have kgf:=KP.2.2.1;have HCL:=hid KP.2.2.2;clear KP hown4 hgrow4 hat4)
    refine hK.out _ _ (by (show SP w.heap.size f t _;repeat (first | with_reducible exact KA.out | with_reducible exact KC.out | with_reducible refine SP.drew ?_ | with_reducible refine SP.alloc ?_ _ | (with_reducible refine SP.set ?_ hpg _)))) (fun hHeld => ?_)
    clear hK K
    try simp only [Act.put,sA,sB,sC]
    refine tk 15 (oi:=?a61) (v:=?b61) ?c61 ?e61 ?f61 hHeld ?r61 ?d61
    case c61=>(simp only [tA,tB,tC];rfl)
    case d61=>exact fun _ _ _ h=>h
    case e61=>rfl
    case f61=>(intro w hSw;(try dsimp only at hSw);go_simp;try with_reducible rfl)
    try simp only [Act.put,sA,sB,sC]
    refine tk 16 (oi:=?a62) (v:=?b62) ?c62 ?e62 ?f62 hHeld ?r62 ?d62
    case c62=>(simp only [tA,tB,tC];rfl)
    case d62=>exact fun _ _ _ h=>h
    case e62=>rfl
    case f62=>(intro w hSw;(try dsimp only at hSw);go_simp;try with_reducible rfl)
    try simp only [Act.put,sA,sB,sC]
    refine wpAnyH_ready (rs:=[17]) (by kernel_rfl) (by simp) ?_
    refine AllReadyH.cons (o:=?o63) ?hi63 (fun K hK => ?_) AllReadyH.nil
    case hi63 => (simp only [tA,tB,tC];rfl)
    go_simp
    refine hK.out _ _ (by (show SP w.heap.size f t _;repeat (first | with_reducible exact KA.out | with_reducible exact KC.out | with_reducible refine SP.drew ?_ | with_reducible refine SP.alloc ?_ _ | (with_reducible refine SP.set ?_ hpg _)))) (fun hHeld => ?_)
    clear hK K
    try simp only [Act.put,sA,sB,sC]
    refine wpAnyH_done (by kernel_rfl) ?_ _
    (go_wp2;all_goals (refine bodyPost_ret (v:=.tuple #[]) ?_ rfl ?_;(focus (simp [results,Tryz.results198]));exact ⟨rfl,.inl ⟨_,by have:=HFT.out;omega,HCL.out⟩⟩))
   ·go_simp
    refine hK.out _ _ (by (show SP w.heap.size f t _;repeat (first | with_reducible exact KA.out | with_reducible exact KC.out | with_reducible refine SP.drew ?_ | with_reducible refine SP.alloc ?_ _ | (with_reducible refine SP.set ?_ hpg _)))) (fun hHeld => ?_)
    clear hK K
    try simp only [Act.put,sA,sB,sC]
    refine tk 13 (oi:=?a64) (v:=?b64) ?c64 ?e64 ?f64 hHeld ?r64 ?d64
    case c64=>(simp only [tA,tB,tC];rfl)
    case d64=>exact fun _ _ _ h=>h
    case e64=>rfl
    case f64=>(intro w hSw;(try dsimp only at hSw);go_simp;try with_reducible rfl)
    try simp only [Act.put,sA,sB,sC]
    refine wpAnyH_ready (rs:=[4]) (by kernel_rfl) (by simp) ?_
    refine AllReadyH.cons (o:=?o65) ?hi65 (fun K hK => ?_) AllReadyH.nil
    case hi65 => (simp only [tA,tB,tC];rfl)
    go_simp
    refine hK.out _ _ (by (show SP w.heap.size f t _;repeat (first | with_reducible exact KA.out | with_reducible exact KC.out | with_reducible refine SP.drew ?_ | with_reducible refine SP.alloc ?_ _ | (with_reducible refine SP.set ?_ hpg _)))) (fun hHeld => ?_)
    clear hK K
    try simp only [Act.put,sA,sB,sC]
    refine wpAnyH_ready (rs:=[14]) (by kernel_rfl) (by simp) ?_
    refine AllReadyH.cons (o:=?o66) ?hi66 (fun K hK => ?_) AllReadyH.nil
    case hi66 => (simp only [tA,tB,tC];rfl)
    (refine step_append_any _ (by rfl) _ _ _ (by rfl) W1.heap.size 95 i0 _ 6 72 Tryz.underlying93 HI.out.1 HI.out.2.1 HI.out.2.2.1 HI.out.2.2.2 rfl oq (.slice none nn cn) nn xs3 (by rfl) (HON3.out.drew) none (t - f) (cn - f) ((xs3.drop (f * 6)).take ((t - f) * 6)) (by rfl) HN.out.1 HN.out.2.1 HN.out.2.2 (by have:=HB.out.1;have:=HFT.out;unfold maxLen;omega) (by have:=HB.out.1;have:=HFT.out;omega) (by have:=HB.out.2.2;simp;omega) ?_;intro v' w4 hown4 hgrow4 hat4;obtain ⟨lv,cv,rfl⟩:=own_form hown4;have KP:=HPF.out w4 _ hown4 hgrow4 hat4;have KC:=hid (show SP w.heap.size f t w4 from KP.1);have kg1:=KP.2.1;have kgf:=KP.2.2.1;have HCL:=hid KP.2.2.2;clear KP hown4 hgrow4 hat4)
    refine hK.out _ _ (by (show SP w.heap.size f t _;repeat (first | with_reducible exact KA.out | with_reducible exact KC.out | with_reducible refine SP.drew ?_ | with_reducible refine SP.alloc ?_ _ | (with_reducible refine SP.set ?_ hpg _)))) (fun hHeld => ?_)
    clear hK K
    try simp only [Act.put,sA,sB,sC]
    refine tk 15 (oi:=?a67) (v:=?b67) ?c67 ?e67 ?f67 hHeld ?r67 ?d67
    case c67=>(simp only [tA,tB,tC];rfl)
    case d67=>exact fun _ _ _ h=>h
    case e67=>rfl
    case f67=>(intro w hSw;(try dsimp only at hSw);go_simp;try with_reducible rfl)
    try simp only [Act.put,sA,sB,sC]
    refine tk 16 (oi:=?a68) (v:=?b68) ?c68 ?e68 ?f68 hHeld ?r68 ?d68
    case c68=>(simp only [tA,tB,tC];rfl)
    case d68=>exact fun _ _ _ h=>h
    case e68=>rfl
    case f68=>(intro w hSw;(try dsimp only at hSw);go_simp;try with_reducible rfl)
    try simp only [Act.put,sA,sB,sC]
    refine wpAnyH_ready (rs:=[17]) (by kernel_rfl) (by simp) ?_
    refine AllReadyH.cons (o:=?o69) ?hi69 (fun K hK => ?_) AllReadyH.nil
    case hi69 => (simp only [tA,tB,tC];rfl)
    go_simp
    refine hK.out _ _ (by (show SP w.heap.size f t _;repeat (first | with_reducible exact KA.out | with_reducible exact KC.out | with_reducible refine SP.drew ?_ | with_reducible refine SP.alloc ?_ _ | (with_reducible refine SP.set ?_ hpg _)))) (fun hHeld => ?_)
    clear hK K
    try simp only [Act.put,sA,sB,sC]
    refine wpAnyH_done (by kernel_rfl) ?_ _
    (go_wp2;all_goals (refine bodyPost_ret (v:=.tuple #[]) ?_ rfl ?_;(focus (simp [results,Tryz.results198]));exact ⟨rfl,.inl ⟨_,by have:=HFT.out;omega,HCL.out⟩⟩))
  | some aln =>
   obtain ⟨gn,rfl⟩:∃ gn,aln = ⟨gn,0,none⟩:=own_addr HON3.out
   simp only at HN
   refine wp_region_held_drew (S:=fun w' => w'.cell? ⟨w.heap.size,0,none⟩ = some (.int .i64 f) ∧ w'.cell? ⟨w.heap.size,1,none⟩ = some (.int .i64 t)) (by kernel_rfl) (by (show SP w.heap.size f t _;repeat (first | with_reducible exact KA.out | with_reducible exact KC.out | with_reducible refine SP.drew ?_ | with_reducible refine SP.alloc ?_ _ | (with_reducible refine SP.set ?_ hpg _)))) (fun hHeld => ?_)
   refine tk 0 (oi:=?a23) (v:=?b23) ?c23 ?e23 ?f23 hHeld ?r23 ?d23
   case c23=>(simp only [tA,tB,tC];rfl)
   case d23=>exact fun _ _ _ h=>h
   case e23=>rfl
   case f23=>(intro w hSw;(try dsimp only at hSw);go_simp;try with_reducible rfl)
   try simp only [Act.put,sA,sB,sC]
   refine tk 1 (oi:=?a24) (v:=?b24) ?c24 ?e24 ?f24 hHeld ?r24 ?d24
   case c24=>(simp only [tA,tB,tC];rfl)
   case d24=>exact fun _ _ _ h=>h
   case e24=>rfl
   case f24=>(intro w hSw;(try dsimp only at hSw);go_simp;try with_reducible rfl)
   try simp only [Act.put,sA,sB,sC]
   refine tk 2 (oi:=?a25) (v:=?b25) ?c25 ?e25 ?f25 hHeld ?r25 ?d25
   case c25=>(simp only [tA,tB,tC];rfl)
   case d25=>exact fun _ _ _ h=>h
   case e25=>rfl
   case f25=>(intro w hSw;(try dsimp only at hSw);go_simp;try with_reducible rfl)
   try simp only [Act.put,sA,sB,sC]
   refine tk 3 (oi:=?a26) (v:=?b26) ?c26 ?e26 ?f26 hHeld ?r26 ?d26
   case c26=>(simp only [tA,tB,tC];rfl)
   case d26=>exact fun _ _ _ h=>h
   case e26=>rfl
   case f26=>(intro w hSw;(try dsimp only at hSw);go_simp;try with_reducible rfl)
   try simp only [Act.put,sA,sB,sC]
   refine tk 5 (oi:=?a27) (v:=?b27) ?c27 ?e27 ?f27 hHeld ?r27 ?d27
   case c27=>(simp only [tA,tB,tC];rfl)
   case d27=>exact fun _ _ _ h=>h
   case e27=>rfl
   case f27=>(intro w hSw;(try dsimp only at hSw);go_simp;try with_reducible rfl)
   try simp only [Act.put,sA,sB,sC]
   refine tk 6 (oi:=?a28) (v:=?b28) ?c28 ?e28 ?f28 hHeld ?r28 ?d28
   case c28=>(simp only [tA,tB,tC];rfl)
   case d28=>exact fun _ _ _ h=>h
   case e28=>rfl
   case f28=>(intro w hSw;(try dsimp only at hSw);go_simp;try with_reducible rfl)
   try simp only [Act.put,sA,sB,sC]
   refine tk 7 (oi:=?a29) (v:=?b29) ?c29 ?e29 ?f29 hHeld ?r29 ?d29
   case c29=>(simp only [tA,tB,tC];rfl)
   case d29=>exact fun _ _ _ h=>h
   case e29=>rfl
   case f29=>(intro w hSw;(try dsimp only at hSw);go_simp;try with_reducible rfl)
   try simp only [Act.put,sA,sB,sC]
   refine tk 9 (oi:=?a30) (v:=?b30) ?c30 ?e30 ?f30 hHeld ?r30 ?d30
   case c30=>(simp only [tA,tB,tC];rfl)
   case d30=>exact fun _ _ _ h=>h
   case e30=>rfl
   case f30=>(intro w hSw;(try dsimp only at hSw);go_simp;try with_reducible rfl)
   try simp only [Act.put,sA,sB,sC]
   refine tk 10 (oi:=?a31) (v:=?b31) ?c31 ?e31 ?f31 hHeld ?r31 ?d31
   case c31=>(simp only [tA,tB,tC];rfl)
   case d31=>exact fun _ _ _ h=>h
   case e31=>rfl
   case f31=>(intro w hSw;(try dsimp only at hSw);go_simp;try with_reducible rfl)
   try simp only [Act.put,sA,sB,sC]
   refine tk 11 (oi:=?a32) (v:=?b32) ?c32 ?e32 ?f32 hHeld ?r32 ?d32
   case c32=>(simp only [tA,tB,tC];rfl)
   case d32=>exact fun _ _ _ h=>h
   case e32=>rfl
   case f32=>(intro w hSw;(try dsimp only at hSw);go_simp;try with_reducible rfl)
   try simp only [Act.put,sA,sB,sC]
   refine tk 12 (oi:=?a33) (v:=?b33) ?c33 ?e33 ?f33 hHeld ?r33 ?d33
   case c33=>(simp only [tA,tB,tC];rfl)
   case d33=>exact fun _ _ _ h=>h
   case e33=>rfl
   case f33=>(intro w hSw;(try dsimp only at hSw);go_simp;try with_reducible rfl)
   try simp only [Act.put,sA,sB,sC]
   refine wpAnyH_ready (rs:=[4,8]) (by kernel_rfl) (by simp) ?_
   refine AllReadyH.cons (o:=?o46) ?hi46 (fun K hK => ?_) (AllReadyH.cons (o:=?p46) ?hj46 (fun K hK => ?_) AllReadyH.nil)
   case hi46 => (simp only [tA,tB,tC];rfl)
   case hj46 => (simp only [tA,tB,tC];rfl)
   ·go_simp
    refine hK.out _ _ (by (show SP w.heap.size f t _;repeat (first | with_reducible exact KA.out | with_reducible exact KC.out | with_reducible refine SP.drew ?_ | with_reducible refine SP.alloc ?_ _ | (with_reducible refine SP.set ?_ hpg _)))) (fun hHeld => ?_)
    clear hK K
    try simp only [Act.put,sA,sB,sC]
    refine wpAnyH_ready (rs:=[8]) (by kernel_rfl) (by simp) ?_
    refine AllReadyH.cons (o:=?o34) ?hi34 (fun K hK => ?_) AllReadyH.nil
    case hi34 => (simp only [tA,tB,tC];rfl)
    go_simp
    refine hK.out _ _ (by (show SP w.heap.size f t _;repeat (first | with_reducible exact KA.out | with_reducible exact KC.out | with_reducible refine SP.drew ?_ | with_reducible refine SP.alloc ?_ _ | (with_reducible refine SP.set ?_ hpg _)))) (fun hHeld => ?_)
    clear hK K
    try simp only [Act.put,sA,sB,sC]
    refine tk 13 (oi:=?a35) (v:=?b35) ?c35 ?e35 ?f35 hHeld ?r35 ?d35
    case c35=>(simp only [tA,tB,tC];rfl)
    case d35=>exact fun _ _ _ h=>h
    case e35=>rfl
    case f35=>(intro w hSw;(try dsimp only at hSw);go_simp;try with_reducible rfl)
    try simp only [Act.put,sA,sB,sC]
    refine wpAnyH_ready (rs:=[14]) (by kernel_rfl) (by simp) ?_
    refine AllReadyH.cons (o:=?o36) ?hi36 (fun K hK => ?_) AllReadyH.nil
    case hi36 => (simp only [tA,tB,tC];rfl)
    (refine step_append_any _ (by rfl) _ _ _ (by rfl) W1.heap.size 95 i0 _ 6 72 Tryz.underlying93 HI.out.1 HI.out.2.1 HI.out.2.2.1 HI.out.2.2.2 rfl oq (.slice (some ⟨gn,0,none⟩) nn cn) nn xs3 (by rfl) (HON3.out.drew) (if cn = f then some ⟨gn,0,none⟩ else some ⟨gn,f * 6,none⟩) (t - f) (cn - f) ((xs3.drop (f * 6)).take ((t - f) * 6)) (by rfl) HN.out.1 HN.out.2.1 HN.out.2.2 (by have:=HB.out.1;have:=HFT.out;unfold maxLen;omega) (by have:=HB.out.1;have:=HFT.out;omega) (by have:=HB.out.2.2;simp;omega) ?_;intro v' w4 hown4 hgrow4 hat4;obtain ⟨lv,cv,rfl⟩:=own_form hown4;have KP:=HPF.out w4 _ hown4 hgrow4 hat4;have KC:=hid (show SP w.heap.size f t w4 from KP.1);have kg1:=KP.2.1;have kgf:=KP.2.2.1;have HCL:=hid KP.2.2.2;clear KP hown4 hgrow4 hat4)
    refine hK.out _ _ (by (show SP w.heap.size f t _;repeat (first | with_reducible exact KA.out | with_reducible exact KC.out | with_reducible refine SP.drew ?_ | with_reducible refine SP.alloc ?_ _ | (with_reducible refine SP.set ?_ hpg _)))) (fun hHeld => ?_)
    clear hK K
    try simp only [Act.put,sA,sB,sC]
    refine tk 15 (oi:=?a37) (v:=?b37) ?c37 ?e37 ?f37 hHeld ?r37 ?d37
    case c37=>(simp only [tA,tB,tC];rfl)
    case d37=>exact fun _ _ _ h=>h
    case e37=>rfl
    case f37=>(intro w hSw;(try dsimp only at hSw);go_simp;try with_reducible rfl)
    try simp only [Act.put,sA,sB,sC]
    refine tk 16 (oi:=?a38) (v:=?b38) ?c38 ?e38 ?f38 hHeld ?r38 ?d38
    case c38=>(simp only [tA,tB,tC];rfl)
    case d38=>exact fun _ _ _ h=>h
    case e38=>rfl
    case f38=>(intro w hSw;(try dsimp only at hSw);go_simp;try with_reducible rfl)
    try simp only [Act.put,sA,sB,sC]
    refine wpAnyH_ready (rs:=[17]) (by kernel_rfl) (by simp) ?_
    refine AllReadyH.cons (o:=?o39) ?hi39 (fun K hK => ?_) AllReadyH.nil
    case hi39 => (simp only [tA,tB,tC];rfl)
    go_simp
    refine hK.out _ _ (by (show SP w.heap.size f t _;repeat (first | with_reducible exact KA.out | with_reducible exact KC.out | with_reducible refine SP.drew ?_ | with_reducible refine SP.alloc ?_ _ | (with_reducible refine SP.set ?_ hpg _)))) (fun hHeld => ?_)
    clear hK K
    try simp only [Act.put,sA,sB,sC]
    refine wpAnyH_done (by kernel_rfl) ?_ _
    (go_wp2;all_goals (refine bodyPost_ret (v:=.tuple #[]) ?_ rfl ?_;(focus (simp [results,Tryz.results198]));exact ⟨rfl,.inl ⟨_,by have:=HFT.out;omega,HCL.out⟩⟩))
   ·go_simp
    refine hK.out _ _ (by (show SP w.heap.size f t _;repeat (first | with_reducible exact KA.out | with_reducible exact KC.out | with_reducible refine SP.drew ?_ | with_reducible refine SP.alloc ?_ _ | (with_reducible refine SP.set ?_ hpg _)))) (fun hHeld => ?_)
    clear hK K
    try simp only [Act.put,sA,sB,sC]
    refine tk 13 (oi:=?a40) (v:=?b40) ?c40 ?e40 ?f40 hHeld ?r40 ?d40
    case c40=>(simp only [tA,tB,tC];rfl)
    case d40=>exact fun _ _ _ h=>h
    case e40=>rfl
    case f40=>(intro w hSw;(try dsimp only at hSw);go_simp;try with_reducible rfl)
    try simp only [Act.put,sA,sB,sC]
    refine wpAnyH_ready (rs:=[4]) (by kernel_rfl) (by simp) ?_
    refine AllReadyH.cons (o:=?o41) ?hi41 (fun K hK => ?_) AllReadyH.nil
    case hi41 => (simp only [tA,tB,tC];rfl)
    go_simp
    refine hK.out _ _ (by (show SP w.heap.size f t _;repeat (first | with_reducible exact KA.out | with_reducible exact KC.out | with_reducible refine SP.drew ?_ | with_reducible refine SP.alloc ?_ _ | (with_reducible refine SP.set ?_ hpg _)))) (fun hHeld => ?_)
    clear hK K
    try simp only [Act.put,sA,sB,sC]
    refine wpAnyH_ready (rs:=[14]) (by kernel_rfl) (by simp) ?_
    refine AllReadyH.cons (o:=?o42) ?hi42 (fun K hK => ?_) AllReadyH.nil
    case hi42 => (simp only [tA,tB,tC];rfl)
    (refine step_append_any _ (by rfl) _ _ _ (by rfl) W1.heap.size 95 i0 _ 6 72 Tryz.underlying93 HI.out.1 HI.out.2.1 HI.out.2.2.1 HI.out.2.2.2 rfl oq (.slice (some ⟨gn,0,none⟩) nn cn) nn xs3 (by rfl) (HON3.out.drew) (if cn = f then some ⟨gn,0,none⟩ else some ⟨gn,f * 6,none⟩) (t - f) (cn - f) ((xs3.drop (f * 6)).take ((t - f) * 6)) (by rfl) HN.out.1 HN.out.2.1 HN.out.2.2 (by have:=HB.out.1;have:=HFT.out;unfold maxLen;omega) (by have:=HB.out.1;have:=HFT.out;omega) (by have:=HB.out.2.2;simp;omega) ?_;intro v' w4 hown4 hgrow4 hat4;obtain ⟨lv,cv,rfl⟩:=own_form hown4;have KP:=HPF.out w4 _ hown4 hgrow4 hat4;have KC:=hid (show SP w.heap.size f t w4 from KP.1);have kg1:=KP.2.1;have kgf:=KP.2.2.1;have HCL:=hid KP.2.2.2;clear KP hown4 hgrow4 hat4)
    refine hK.out _ _ (by (show SP w.heap.size f t _;repeat (first | with_reducible exact KA.out | with_reducible exact KC.out | with_reducible refine SP.drew ?_ | with_reducible refine SP.alloc ?_ _ | (with_reducible refine SP.set ?_ hpg _)))) (fun hHeld => ?_)
    clear hK K
    try simp only [Act.put,sA,sB,sC]
    refine tk 15 (oi:=?a43) (v:=?b43) ?c43 ?e43 ?f43 hHeld ?r43 ?d43
    case c43=>(simp only [tA,tB,tC];rfl)
    case d43=>exact fun _ _ _ h=>h
    case e43=>rfl
    case f43=>(intro w hSw;(try dsimp only at hSw);go_simp;try with_reducible rfl)
    try simp only [Act.put,sA,sB,sC]
    refine tk 16 (oi:=?a44) (v:=?b44) ?c44 ?e44 ?f44 hHeld ?r44 ?d44
    case c44=>(simp only [tA,tB,tC];rfl)
    case d44=>exact fun _ _ _ h=>h
    case e44=>rfl
    case f44=>(intro w hSw;(try dsimp only at hSw);go_simp;try with_reducible rfl)
    try simp only [Act.put,sA,sB,sC]
    refine wpAnyH_ready (rs:=[17]) (by kernel_rfl) (by simp) ?_
    refine AllReadyH.cons (o:=?o45) ?hi45 (fun K hK => ?_) AllReadyH.nil
    case hi45 => (simp only [tA,tB,tC];rfl)
    go_simp
    refine hK.out _ _ (by (show SP w.heap.size f t _;repeat (first | with_reducible exact KA.out | with_reducible exact KC.out | with_reducible refine SP.drew ?_ | with_reducible refine SP.alloc ?_ _ | (with_reducible refine SP.set ?_ hpg _)))) (fun hHeld => ?_)
    clear hK K
    try simp only [Act.put,sA,sB,sC]
    refine wpAnyH_done (by kernel_rfl) ?_ _
    (go_wp2;all_goals (refine bodyPost_ret (v:=.tuple #[]) ?_ rfl ?_;(focus (simp [results,Tryz.results198]));exact ⟨rfl,.inl ⟨_,by have:=HFT.out;omega,HCL.out⟩⟩))
end Go.Proofs.YtpjficjlfibibaaGreatDoor.syn
