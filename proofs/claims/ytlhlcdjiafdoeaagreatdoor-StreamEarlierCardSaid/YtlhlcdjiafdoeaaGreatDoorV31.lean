/- Parts of the proof. -/
import Derived.Deep.AppendLies
import Derived.Deep.RegionHeld3
import Derived.Test.YtlhlcdjiafdoeaaGreatDoorV07
set_option linter.all false
set_option maxRecDepth 100000
set_option maxHeartbeats 16000000
namespace Go.Proofs.YtlhlcdjiafdoeaaGreatDoor.syn
open Go.RowKit
theorem JC {P:Program} {T S I e:TypeId} {fld:Field} {nm:String} {sig:TypeId} {f n:Nat} (h:(P.info? T).bind (fun i=>i.methods.find? (·.name == nm))=some ⟨nm,sig,#[⟨S,0,true⟩],some (f,false)⟩)
  (hS:P.underlying S=some (.struct #[fld])) (hf:fld.type=I∧fld.offset=0) (hI:P.underlying I=some (.slice e)) (hz:(P.info? I).map (·.size)=some 1) {w:World} {b o:Nat} {v:Value} (hc:w.cell? ⟨b,o,none⟩=some v) :
  Sem.run P (method (n+1) T (.pointer (some ⟨b,o,none⟩)) nm) w=.ok (f,v) w:=by
 obtain⟨h1,h2⟩:=hf
 cases hq:P.info? T with
 | none=>rw[hq] at h;cases h
 | some i =>
  rw[hq] at h
  simp only[Option.bind_some] at h
  cases hj:P.info? I with
  | none=>rw[hj] at hz;cases hz
  | some j =>
   rw[hj] at hz
   have hs:j.size=1:=by simpa using hz
   have hadd:(⟨b,o,none⟩:Addr).add 0=⟨b,o,none⟩:=by unfold Addr.add;simp
   simp[method,typeInfo,hq,h,follow,receiverAt,Place.get,run_underlying hS,run_underlying hI,fieldPlace,sizeOf,hj,h1,h2,hs,asAddr,loadVar,isAgg,hadd,hc]
theorem jH {P:Program} {T X:TypeId} {nm:String} {sig:TypeId} {f n:Nat} (h:(P.info? T).bind (fun i=>i.methods.find? (·.name == nm))=some ⟨nm,sig,#[],some (f,true)⟩) (hT:P.underlying T=some (.pointer X)) (w:World) (a:Addr) :
  Sem.run P (method (n+1) T (.pointer (some a)) nm) w=.ok (f,.pointer (some a)) w:=by
 cases hq:P.info? T with
 | none=>rw[hq] at h;cases h
 | some i =>
  rw[hq] at h
  simp only[Option.bind_some] at h
  simp[method,typeInfo,hq,h,follow,receiverAt,Place.get,run_underlying hT]
theorem q_len : (Tryz.prog.info? 220).bind (fun i => i.methods.find? (·.name == "Len")) = some ⟨"Len", 181, #[⟨177, 0, true⟩], some (90, false)⟩ := by kernel_rfl
theorem ZbI : (Tryz.prog.info? 220).bind (fun i => i.methods.find? (·.name == "Less")) = some ⟨"Less", 262, #[⟨177, 0, true⟩], some (212, false)⟩ := by kernel_rfl
theorem ZbK : (Tryz.prog.info? 220).bind (fun i => i.methods.find? (·.name == "Swap")) = some ⟨"Swap", 242, #[⟨177, 0, true⟩], some (214, false)⟩ := by kernel_rfl
theorem ZcL : (Tryz.prog.info? 220).bind (fun i => i.methods.find? (·.name == "Pop")) = some ⟨"Pop", 244, #[], some (215, true)⟩ := by kernel_rfl
theorem ZbJ : (Tryz.prog.info? 220).bind (fun i => i.methods.find? (·.name == "Push")) = some ⟨"Push", 240, #[], some (216, true)⟩ := by kernel_rfl
theorem ZbH:(match Tryz.prog.underlying 177 with|some (.struct fs)=>some (fs.toList.map (fun f=>(f.type,f.offset)))|_=>none)=some [(175,0)]:=by kernel_rfl
theorem zc:∃fld,Tryz.prog.underlying 177=some (.struct #[fld])∧fld.type=175∧fld.offset=0:=by
 have h:=ZbH
 split at h
 ·rename_i fs hfs
  simp only[Option.some.injEq] at h
  obtain⟨l⟩:=fs
  cases l with
  | nil=>simp at h
  | cons f l =>
   cases l with
   | nil =>
    simp at h
    exact⟨f,hfs,h.1,h.2⟩
   | cons g l=>simp at h
 cases h
theorem Uw:Tryz.prog.underlying 175=some (.slice 3):=by kernel_rfl
theorem KO:(Tryz.prog.info? 175).map (·.size)=some 1:=by kernel_rfl
theorem yS:Tryz.prog.underlying 220=some (.pointer 177):=by kernel_rfl
theorem ZaY (n : Nat) {w : World} {b o : Nat} {v : Value} (hc : w.cell? ⟨b, o, none⟩ = some v) : Sem.run Tryz.prog (method (n + 1) 220 (.pointer (some ⟨b, o, none⟩)) "Len") w = .ok (90, v) w := by
 obtain⟨fld,h1,h2⟩:=zc
 exact JC (n:=n) q_len h1 h2 Uw KO hc
theorem Ux (n : Nat) {w : World} {b o : Nat} {v : Value} (hc : w.cell? ⟨b, o, none⟩ = some v) : Sem.run Tryz.prog (method (n + 1) 220 (.pointer (some ⟨b, o, none⟩)) "Less") w = .ok (212, v) w := by
 obtain⟨fld,h1,h2⟩:=zc
 exact JC (n:=n) ZbI h1 h2 Uw KO hc
theorem KW (n : Nat) {w : World} {b o : Nat} {v : Value} (hc : w.cell? ⟨b, o, none⟩ = some v) : Sem.run Tryz.prog (method (n + 1) 220 (.pointer (some ⟨b, o, none⟩)) "Swap") w = .ok (214, v) w := by
 obtain⟨fld,h1,h2⟩:=zc
 exact JC (n:=n) ZbK h1 h2 Uw KO hc
theorem ZcC (n : Nat) (w : World) (a : Addr) : Sem.run Tryz.prog (method (n + 1) 220 (.pointer (some a)) "Pop") w = .ok (215, .pointer (some a)) w := jH (n := n) ZcL yS w a
theorem Zbu (n : Nat) (w : World) (a : Addr) : Sem.run Tryz.prog (method (n + 1) 220 (.pointer (some a)) "Push") w = .ok (216, .pointer (some a)) w := jH (n := n) ZbJ yS w a
def QV (w:World) (B:Nat) (v:Value) (q:List Int):Prop:=w.ownsRow B 3 1 v q.length (ints q)
theorem QV.form {w:World} {B:Nat} {v:Value} {q:List Int} (h:QV w B v q) (hq:q≠[]):∃g cap,v=.slice (some ⟨g,0,none⟩) q.length cap∧B≤g∧g<w.heap.size∧(∀i,i<q.length→w.cell? ⟨g,i,none⟩=some (.int .i64 (q.getD i 0)))∧∀i,w.frozen? ⟨g,i,none⟩=false:=by
 have h0:0<q.length:=by cases q with
  | nil=>exact absurd rfl hq
  | cons _ _=>simp
 have h2:=h
 rcases h.2 with ⟨_,h1⟩|⟨g,cap,cur,rfl,hb,hg,_⟩
 ·omega
 exact⟨g,cap,rfl,hb,Zb hg,fun i hi=>(World.ownsRow.cellAt h2 i oq).trans (ints_at hi),World.ownsRow.frozenAt h2⟩
theorem Kb {w:World} (v:Value) (q:List Int) {B:Nat} (h:QV w B v q):Calls Tryz.prog 90 #[v] w fun x w'=>x=.returned (.int .i64 (q.length:Int))∧w'=w:=by
 obtain⟨ad,cap,rfl⟩:=YD h
 clear h
 go_enter Tryz.func90,Tryz.ntmps90
 go_wp2
 go_ret
 exact⟨rfl,rfl⟩
theorem JV {w:World} (v:Value) (q:List Int) {B:Nat} (h:QV w B v q) (i j:Nat) (hi:i<q.length) (hj:j<q.length) :
  Calls Tryz.prog 212 #[v,.int .i64 (i:Int),.int .i64 (j:Int)] w fun x w'=>x=.returned (.bool (decide (q.getD i 0<q.getD j 0)))∧∃m,w'=w.drewN m:=by
 obtain⟨g,cap,rfl,hB,hg,hc,hf⟩:=h.form (by intro e;rw[e] at hi;simp at hi)
 have c1:=hc i hi
 have c2:=hc j hj
 have i0:(0:Int)≤(i:Int):=oq
 have j0:(0:Int)≤(j:Int):=oq
 have i1:(i:Int)<(q.length:Int):=oq
 have j1:(j:Int)<(q.length:Int):=oq
 generalize q.getD i 0=x at c1 ⊢
 generalize q.getD j 0=y at c2 ⊢
 clear hc h
 go_enter Tryz.func212,Tryz.ntmps212
 go_upto_region 1 with fail
 go_still kq
 change Exit.then _ _ Exit.normal _ w.drew
 go_wp2
 go_ret
 exact⟨rfl,1,rfl⟩
theorem JZ {w:World} (v:Value) (q:List Int) {B:Nat} (h:QV w B v q) (i j:Nat) (hi:i<q.length) (hj:j<q.length) :
  Calls Tryz.prog 214 #[v,.int .i64 (i:Int),.int .i64 (j:Int)] w fun x w'=>x=.returned (.tuple #[])∧QV w' B v (swp q i j)∧But (fun k=>v.ownBlock=some k) w w':=by
 obtain⟨g,cap,rfl,hB,hg,hc,hf⟩:=h.form (by intro e;rw[e] at hi;simp at hi)
 have c1:=hc i hi
 have c2:=hc j hj
 have f1:=hf i
 have f2:=hf j
 have i0:(0:Int)≤(i:Int):=oq
 have j0:(0:Int)≤(j:Int):=oq
 have i1:(i:Int)<(q.length:Int):=oq
 have j1:(j:Int)<(q.length:Int):=oq
 obtain⟨x,hx⟩:∃x,q.getD i 0=x:=⟨_,rfl⟩
 obtain⟨y,hy⟩:∃y,q.getD j 0=y:=⟨_,rfl⟩
 rw[hx] at c1
 rw[hy] at c2
 have main:∀W:World,W.heap=((w.setCell ⟨g,i,none⟩ (.int .i64 y)).setCell ⟨g,j,none⟩ (.int .i64 x)).heap→W.os=w.os→W.tape=w.tape→W.output=w.output→QV W B (.slice (some ⟨g,0,none⟩) q.length cap) (swp q i j)∧But (fun k=>(Value.slice (some ⟨g,0,none⟩) q.length cap).ownBlock=some k) w W:=by
  intro W h1 h2 h3 h4
  have o1:=Jy (Jy h i (.int .i64 y) hi) j (.int .i64 x) hj
  have b1:But (fun k=>(Value.slice (some ⟨g,0,none⟩) q.length cap).ownBlock=some k) w ((w.setCell ⟨g,i,none⟩ (.int .i64 y)).setCell ⟨g,j,none⟩ (.int .i64 x)):=(But.set (S:=fun k=>(Value.slice (some ⟨g,0,none⟩) q.length cap).ownBlock=some k) (b:=g) (o:=i) rfl _).trans (But.set (S:=fun k=>(Value.slice (some ⟨g,0,none⟩) q.length cap).ownBlock=some k) (b:=g) (o:=j) rfl _)
  have b2:But (fun k=>False) ((w.setCell ⟨g,i,none⟩ (.int .i64 y)).setCell ⟨g,j,none⟩ (.int .i64 x)) W:=⟨h2.trans b1.os.symm,h3.trans b1.tape.symm,h4.trans b1.output.symm,by rw[h1];exact Zc _,fun k _ _=>by rw[h1]⟩
  refine⟨?_,b1.then b2 (fun _ _ e=>e.elim)⟩
  have o2:=b2.own o1 (fun _ _ e=>e)
  rw[ints_set,ints_set] at o2
  unfold QV
  rw[Xk]
  unfold swp
  rw[hx,hy]
  exact o2
 have HM:=hid main
 obtain⟨u,hu⟩:∃u,(w.setCell ⟨g,i,none⟩ (.int .i64 y)).cell? ⟨g,j,none⟩=some u:=by
  have:=World.ownsRow.cellAt (Jy h i (.int .i64 y) hi) j oq
  rw[this]
  exact⟨_,Ze (by simp[QX];omega)⟩
 clear main hc hf h hx hy
 go_enter Tryz.func214,Tryz.ntmps214
 go_region
 all_goals go_wp2
 all_goals (go_end0;exact⟨rfl,HM.out _ rfl rfl rfl rfl⟩)
theorem jU (x:Int) (w:World):(Instr.typeAssert (.iface 3 (.int .i64 x)) 20 3 false).run Tryz.prog w=.ok (.int .i64 x) w:=by kernel_rfl
theorem V7:(Tryz.prog.info? 3).map (fun i=>(i.zero,i.size,i.bytes))=some (some (.int .i64 0),1,8):=by kernel_rfl
structure QM (w:World) (b o B:Nat) (v:Value) (q:List Int):Prop where
 cell:w.cell? ⟨b,o,none⟩=some v
 fz:w.frozen? ⟨b,o,none⟩=false
 own:QV w B v q
 lt:b<B
 hi:B≤w.heap.size
def JF (w:World) (b o B:Nat) (v:Value) (q':List Int) (w':World):Prop:=∃v' arr t arr',QM w' b o B v' q'∧(∀k,v'.ownBlock=some k→v.ownBlock=some k∨w.heap.size≤k)∧But (fun k=>k=b∨v.ownBlock=some k) w w' ∧
 w.heap[b]?=some (.cells arr t (0,0))∧w'.heap[b]?=some (.cells arr' t (0,0))∧arr'=arr.setIfInBounds o v'
theorem QM.but {w w':World} {b o B:Nat} {v:Value} {q:List Int} (h:QM w b o B v q) {S:Nat→Prop} (hb:But S w w') (h1:¬S b) (h2:∀k,v.ownBlock=some k→¬S k):QM w' b o B v q:=by
 have hlt:b<w.heap.size:=Zd h.lt h.hi
 exact⟨(Zn (w:=w) (hb.block b hlt h1)).trans h.cell,(Z4 (w:=w) (hb.block b hlt h1)).trans h.fz,hb.own h.own h2,h.lt,Zm h.hi hb.size⟩
theorem QM.keep {w w':World} {b o B:Nat} {v:Value} {q:List Int} (h:QM w b o B v q) (hb:Below w.heap.size w w'):QM w' b o B v q:=h.but (But.of_below (S:=fun _=>False) hb) (fun h=>h) (fun _ _ h=>h)
theorem JJ {w:World} {B:Nat} {v:Value} {q:List Int} (h:QV w B v q):∀k,v.ownBlock=some k→B≤k∧k<w.heap.size:=World.ownsRow.lt h
theorem vZ {w:World} {b o B:Nat} {v:Value} {q:List Int} {arr:Array Value} {t:TypeId} (h:QM w b o B v q) (ha:w.heap[b]?=some (.cells arr t (0,0))) (hq:q.length≤100000) (x:Int) :
  Calls Tryz.prog 216 #[.pointer (some ⟨b,o,none⟩),.iface 3 (.int .i64 x)] w fun y w'=>y=.returned (.tuple #[])∧JF w b o B v (q++[x]) w':=by
 obtain⟨i0,hi0,hi1,hi2,hi3⟩:=info_parts V7
 have HI:=hid (Zh hi0 (Zh hi1 (Zh hi2 hi3)))
 have c0:=h.cell
 have f0:=h.fz
 have hbB:=h.lt
 have hBw:=h.hi
 have HM:=hid h
 obtain⟨ad,cap,rfl⟩:=YD h.own
 have main:∀(w4 W:World) (gg cap4:Nat),w4.ownsRow B 3 1 (.slice (some ⟨gg,0,none⟩) (q.length+1) cap4) (q.length+1) (ints q++[.int .i64 x])→But (fun k=>(Value.slice ad q.length cap).ownBlock=some k) w w4→((Value.slice ad q.length cap).ownBlock=some gg∨w.heap.size≤gg) →
   W=(w4.setCell ⟨b,o,none⟩ (.slice (some ⟨gg,0,none⟩) (q.length+1) cap4))→JF w b o B (.slice ad q.length cap) (q++[x]) W:=by
  intro w4 W gg cap4 ho hbt hgg hW
  subst hW
  have hob:=JJ HM.out.own
  have hblt:b<w.heap.size:=Zd hbB hBw
  have hb4:=hbt.block b hblt (fun e=>by have:=(hob b e).1;omega)
  have hs:=But.set (S:=fun k=>k=b) (w:=w4) (o:=o) rfl (.slice (some ⟨gg,0,none⟩) (q.length+1) cap4)
  have hc4:(w4.setCell ⟨b,o,none⟩ (.slice (some ⟨gg,0,none⟩) (q.length+1) cap4)).heap[b]?=some (.cells (arr.setIfInBounds o (.slice (some ⟨gg,0,none⟩) (q.length+1) cap4)) t (0,0)):=Zj w4 b o arr t _ (hb4.trans ha)
  have hoa:o<arr.size:=by
   have:=HM.out.cell
   rw[Z5 w b o arr t (0,0) ha] at this
   exact(Zq.1 this).1
  refine⟨_,arr,t,_,⟨?_,?_,?_,hbB,Zm hBw (Zm hbt.size hs.size)⟩,?_,(hbt.imp (fun i _ e=>.inr e)).then hs (fun i _ e=>.inl e),ha,hc4,rfl⟩
  ·rw[Z5 _ b o _ t (0,0) hc4];simp[hoa]
  ·simp[World.frozen?,hc4]
  ·have:=hs.own ho (fun k hk e=>by have:=(World.ownsRow.lt ho k hk).1;omega)
   unfold QV
   rw[←JU]
   simpa using this
  intro k hk
  cases hk
  exact hgg
 have HMN:=hid main
 have hta:=jU x
 have hblt:b<w.heap.size:=oq
 have hbne:¬b=w.heap.size:=oq
 clear main h hi0 hi1 hi2 hi3
 go_enter Tryz.func216,Tryz.ntmps216
 go_region_law (refine step_append_lies _ (by rfl) _ _ _ (by rfl) B 3 i0 _ 1 8 Tryz.underlying175 HI.out.1 HI.out.2.1 HI.out.2.2.1 HI.out.2.2.2 rfl oq (.slice ad q.length cap) q.length (ints q) (by rfl) ((HM.out.keep bq).own) ⟨w.heap.size,0,none⟩ 1 1 [.int .i64 x] (by rfl) (by rfl) (World.news_of_block (Zy _ _)) (by simp[Value.oneCell']) oq (by unfold maxLen;omega) oq (by simp;omega) (w.heap.size+1) (by simp) ?_;intro gg cap4 w4 hown4 hgrow4 hat4 hlt4;have hbt4:But (fun k=>(Value.slice ad q.length cap).ownBlock=some k) w w4:=(But.of_below (bq:Below w.heap.size w _)).then (But.of_grown hgrow4) (fun i _ e=>e);have hnb:¬(Value.slice ad q.length cap).ownBlock=some b:=(fun e=>by have:=(JJ HM.out.own b e).1;omega);have c4:=(Zn (a:=⟨b,o,none⟩) (hbt4.block b oq hnb)).trans c0;have f4:=(Z4 (a:=⟨b,o,none⟩) (hbt4.block b oq hnb)).trans f0;have HO4:=hid hown4;have HBT4:=hid hbt4;have HG4:=hid (show(Value.slice ad q.length cap).ownBlock=some gg∨w.heap.size≤gg from hat4.elim .inl (fun e=>.inr oq));clear hown4 hgrow4 hat4 hbt4)
 all_goals (go_wp2;go_end0;exact⟨rfl,HMN.out _ _ gg cap4 HO4.out HBT4.out HG4.out rfl⟩)
theorem gu {w:World} {b o B:Nat} {v:Value} {q:List Int} {arr:Array Value} {t:TypeId} (h:QM w b o B v q) (ha:w.heap[b]?=some (.cells arr t (0,0))) (hq:q≠[]) (hql:q.length≤100000) :
  Calls Tryz.prog 215 #[.pointer (some ⟨b,o,none⟩)] w fun y w'=>y=.returned (.iface 3 (.int .i64 (q.getD (q.length-1) 0)))∧JF w b o B v (q.take (q.length-1)) w':=by
 obtain⟨g,cap,rfl,hBg,hg,hc,hf⟩:=h.own.form hq
 have h0:0<q.length:=by cases q with
  | nil=>exact absurd rfl hq
  | cons _ _=>simp
 have c0:=h.cell
 have f0:=h.fz
 have hbB:=h.lt
 have hBw:=h.hi
 obtain⟨n,hn⟩:∃n,q.length=n+1:=⟨q.length-1,oq⟩
 have c1:=hc n oq
 have main:JF w b o B (.slice (some ⟨g,0,none⟩) q.length cap) (q.take (q.length-1)) (w.setCell ⟨b,o,none⟩ (.slice (some ⟨g,0,none⟩) n cap)):=by
  have hs:=But.set (S:=fun k=>k=b) (w:=w) (o:=o) rfl (.slice (some ⟨g,0,none⟩) n cap)
  have hc4:(w.setCell ⟨b,o,none⟩ (.slice (some ⟨g,0,none⟩) n cap)).heap[b]?=some (.cells (arr.setIfInBounds o (.slice (some ⟨g,0,none⟩) n cap)) t (0,0)):=Zj w b o arr t _ ha
  have hoa:o<arr.size:=by
   rw[Z5 w b o arr t (0,0) ha] at c0
   exact(Zq.1 c0).1
  refine⟨.slice (some ⟨g,0,none⟩) n cap,arr,t,_,⟨?_,?_,?_,hbB,Zm hBw hs.size⟩,fun k hk=>.inl hk,hs.imp (fun i _ e=>.inl e),ha,hc4,rfl⟩
  ·rw[Z5 _ b o _ t (0,0) hc4];simp[hoa]
  ·simp[World.frozen?,hc4]
  have h1:=yK (m:=n) h.own oq
  have h2:=hs.own h1 (fun k hk e=>by have hk2:g=k:=(by simpa [Value.ownBlock] using hk);subst hk2;omega)
  unfold QV
  rw[hn,Nat.add_sub_cancel,Z9,show min n q.length=n by omega,show ints (q.take n)=(ints q).take n by unfold ints;rw[List.map_take]]
  exact h2
 have HMN:=hid main
 obtain⟨x,hx⟩:∃x,q.getD n 0=x:=⟨_,rfl⟩
 have HX:=hid (show q.getD (q.length-1) 0=x by rw[hn,Nat.add_sub_cancel];exact hx)
 rw[HX.out]
 rw[hx] at c1
 rw[hn] at HMN c0
 rw[hn]
 have hw1:IntKind.i64.wrap (((n+1:Nat):Int)-1)=(n:Int):=by rw[show((n+1:Nat):Int)-1=(n:Int) by omega];exact ZJ _ oq
 have HLEN:=hid (fun(W:World) (hb:Below w.heap.size w W)=>Kb (w:=W) _ q (B:=B) ((h.keep hb).own))
 rw[hn] at HLEN
 have n0:(0:Int)≤(n:Int):=oq
 have n1:(n:Int)<((n+1:Nat):Int):=oq
 have n2:(n:Int)≤((n+1:Nat):Int):=oq
 have hcap:n+1≤cap:=by
  rcases h.own.2 with ⟨e,_⟩|⟨_,_,_,e,_,_,e2,_⟩
  ·cases e
  injection e with _ _ e3;rw[e3];omega
 have n3:(n:Int)≤(cap:Int):=oq
 clear main hc hf h hx HX
 go_enter Tryz.func215,Tryz.ntmps215
 go_wp2_with (go_at_call 90;refine(HLEN.out _ bq).mono ?_;rintro y w2 ⟨rfl,rfl⟩)
 go_ret
 exact⟨rfl,HMN.out⟩
structure Zcp (w:World) (b o B:Nat) (v:Value) (ans:List Int) (n:Nat) (q:List Int) (j:Nat) (wr:World):Prop where
 go:upP n q j=ans
 fuel:j<n
 lt:j<q.length
 len:q.length≤100000
 qm:QM wr b o B v q
 but:But (fun k=>v.ownBlock=some k) w wr
theorem ZaO (j:Nat):((j:Int)-1).tdiv 2=(((j-1)/2:Nat):Int):=by
 cases j with
 | zero=>decide
 | succ j =>
  rw[show((j+1:Nat):Int)-1=(j:Int) by omega,Nat.add_sub_cancel]
  rfl
theorem Zb1 {w:World} {b o B:Nat} {v:Value} {q:List Int} (h:QM w b o B v q) (n j:Nat) (hn:j<n) (hj:j<q.length) (hq:q.length≤100000) :
  Calls Tryz.prog 149 #[.iface 220 (.pointer (some ⟨b,o,none⟩)),.int .i64 (j:Int)] w fun y w'=>y=.returned (.tuple #[])∧QM w' b o B v (upP n q j)∧But (fun k=>v.ownBlock=some k) w w':=by
 obtain⟨ans,hans⟩:∃ans,upP n q j=ans:=⟨_,rfl⟩
 rw[hans]
 have HST:=hid (show Zcp w b o B v ans n q j w from ⟨hans,hn,hj,hq,h,But.refl _ _⟩)
 clear h hn hj hq hans
 go_enter Tryz.func149,Tryz.ntmps149
 go_wp2
 go_loopw [1] (fun s1 wr=>Hid (∃n q j,s1=.int .i64 ((j:Nat):Int)∧Zcp w b o B v ans n q j wr)) (fun s _=>(intOf s).toNat)
 case atStart=>exact⟨n,q,j,rfl,HST.out⟩
 clear HST
 obtain⟨n,q,j,rfl,hat⟩:=hrel.out
 clear hrel
 have hlen:=hat.len
 have hjl:=hat.lt
 have hfu:=hat.fuel
 have c0:=hat.qm.cell
 have HA:=hid hat
 have mL:=fun n=>Ux n c0
 have hhf:=ZaO j
 obtain⟨i,hi⟩:∃i,(j-1)/2=i:=⟨_,rfl⟩
 rw[hi] at hhf
 obtain⟨m,rfl⟩:∃m,n=m+1:=⟨n-1,oq⟩
 have hgo:=hat.go
 rw[upP,hi] at hgo
 clear hat
 by_cases hij:i=j
 ·rw[Z0 hij] at hgo
  subst hgo
  have hie:((i:Int) == (j:Int))=true:=by rw[beq_iff_eq];omega
  go_wp2
  go_end0
  exact⟨rfl,HA.out.qm,HA.out.but⟩
 rw[ZZ hij] at hgo
 have hie:((i:Int) == (j:Int))=false:=by rw[ZW];omega
 have hlt:i<j:=oq
 have HLS:=hid (JV (w:=wr) v q HA.out.qm.own j i hjl oq)
 by_cases hl:q.getD j 0<q.getD i 0
 ·rw[Z0 hl] at hgo
  rw[ZY hl] at HLS
  have HGO:=hid hgo
  clear hgo hi
  go_wp2_with (first|(go_at_call 212;refine HLS.out.mono ?_;rintro y w2 ⟨rfl,m2,rfl⟩;have mS:=fun n=>KW n (w:=wr.drewN m2) (b:=b) (o:=o) (v:=v) c0;have HSW:=hid (JZ (w:=wr.drewN m2) v q (show QV (wr.drewN m2) B v q from HA.out.qm.own) i j oq hjl))|(go_at_call 214;refine HSW.out.mono ?_;rintro y w3 ⟨rfl,hq3,hb3⟩;have HQ3:=hid hq3;have HB3:=hid hb3;clear hq3 hb3))
  have hb:But (fun k=>v.ownBlock=some k) wr w3:=((But.refl _ wr).drewN m2).trans HB3.out
  have hvb:¬v.ownBlock=some b:=fun e=>by have:=(JJ HA.out.qm.own b e).1;have:=HA.out.qm.lt;omega
  have hbl:b<wr.heap.size:=Zd HA.out.qm.lt HA.out.qm.hi
  exact⟨hid ⟨m,swp q i j,i,rfl,HGO.out,oq,by rw[Xk];omega,by rw[Xk];exact hlen,⟨(Zn (w:=wr) (hb.block b hbl hvb)).trans HA.out.qm.cell,(Z4 (w:=wr) (hb.block b hbl hvb)).trans HA.out.qm.fz,HQ3.out,HA.out.qm.lt,Zm HA.out.qm.hi hb.size⟩,HA.out.but.trans hb⟩,by simp[intOf];omega⟩
 rw[ZZ hl] at hgo
 subst hgo
 rw[ZX hl] at HLS
 clear hi
 go_wp2_with (go_at_call 212;refine HLS.out.mono ?_;rintro y w2 ⟨rfl,m2,rfl⟩)
 go_end0
 have hb:But (fun k=>v.ownBlock=some k) wr (wr.drewN m2):=(But.refl _ wr).drewN m2
 exact⟨rfl,⟨HA.out.qm.cell,HA.out.qm.fz,HA.out.qm.own,HA.out.qm.lt,HA.out.qm.hi⟩,HA.out.but.trans hb⟩
structure Kh (w:World) (b o B:Nat) (v:Value) (ans:List Int) (n:Nat) (k:Nat) (q:List Int) (i:Nat) (wr:World):Prop where
 go:Ql k q i n=ans
 fuel:n-i≤k
 le:n≤q.length
 lt:i<n∨n=0∧i=0
 len:q.length≤100000
 qm:QM wr b o B v q
 but:But (fun k=>v.ownBlock=some k) w wr
theorem Kh.next {w:World} {b o B:Nat} {v:Value} {ans:List Int} {n k i kd:Nat} {q:List Int} {wr:World} (h:Kh w b o B v ans n (k+1) q i wr) (hk:kd<n∧i<kd) (hgo:Ql k (swp q i kd) kd n=ans) {w3:World} {m2:Nat}
  (hq3:QV w3 B v (swp q i kd)) (hb3:But (fun k=>v.ownBlock=some k) (wr.drewN m2) w3):Kh w b o B v ans n k (swp q i kd) kd w3:=by
 have hb:But (fun k=>v.ownBlock=some k) wr w3:=((But.refl _ wr).drewN m2).trans hb3
 have hvb:¬v.ownBlock=some b:=fun e=>by have:=(JJ h.qm.own b e).1;have:=h.qm.lt;omega
 have hbl:b<wr.heap.size:=Zd h.qm.lt h.qm.hi
 have hf:=h.fuel
 have hl:=h.lt
 exact⟨hgo,oq,by rw[Xk];exact h.le,.inl hk.1,by rw[Xk];exact h.len,⟨(Zn (w:=wr) (hb.block b hbl hvb)).trans h.qm.cell,(Z4 (w:=wr) (hb.block b hbl hvb)).trans h.qm.fz,hq3,h.qm.lt,Zm h.qm.hi hb.size⟩,h.but.trans hb⟩
def Zb7 (y:Ending):Prop:=∃c:Bool,y=.returned (.bool c)
theorem ka {w:World} {b o B:Nat} {v:Value} {q:List Int} (h:QM w b o B v q) (k n:Nat) (hn:n≤q.length) (hk:n≤k) (hq:q.length≤100000) :
  Calls Tryz.prog 150 #[.iface 220 (.pointer (some ⟨b,o,none⟩)),.int .i64 0,.int .i64 (n:Int)] w fun y w'=>Zb7 y∧QM w' b o B v (Ql k q 0 n)∧But (fun k=>v.ownBlock=some k) w w':=by
 obtain⟨ans,hans⟩:∃ans,Ql k q 0 n=ans:=⟨_,rfl⟩
 rw[hans]
 have HST:=hid (show Kh w b o B v ans n k q 0 w from ⟨hans,oq,hn,oq,hq,h,But.refl _ _⟩)
 clear h hk hn hq hans
 go_enter Tryz.func150,Tryz.ntmps150
 go_wp2
 go_loopw [7] (fun s7 wr=>Hid (∃k q i,s7=.int .i64 ((i:Nat):Int)∧Kh w b o B v ans n k q i wr)) (fun s _=>n-(intOf s).toNat)
 case atStart=>exact⟨k,q,0,rfl,HST.out⟩
 clear HST
 obtain⟨k,q,i,rfl,hat⟩:=hrel.out
 clear hrel
 have hlen:=hat.len
 have hnl:=hat.le
 have hfu:=hat.fuel
 have hil:=hat.lt
 have c0:=hat.qm.cell
 have HA:=hid hat
 have hgo:=hat.go
 have mL:=fun n=>Ux n c0
 obtain⟨j1,hj1⟩:∃j1,2*i+1=j1:=⟨_,rfl⟩
 obtain⟨j2,hj2⟩:∃j2,2*i+2=j2:=⟨_,rfl⟩
 have e1:2*(i:Int)+1=(j1:Int):=oq
 have e2:(j1:Int)+1=(j2:Int):=oq
 have n1:¬(j1:Int)<0:=oq
 have hib:i≤100000:=oq
 have hj1b:j1≤200001:=oq
 clear hat
 by_cases hn1:n≤j1
 ·have hans:q=ans:=by
   cases k with
   | zero=>exact hgo
   | succ k=>rw[Ql,Z0 oq] at hgo;exact hgo
  subst hans
  have hge:(n:Int)≤(j1:Int):=oq
  clear hgo hil hj1 hj2
  go_wp2
  all_goals (go_ret;exact⟨⟨_,rfl⟩,HA.out.qm,HA.out.but⟩)
 obtain⟨k,rfl⟩:∃m,k=m+1:=⟨k-1,oq⟩
 rw[Ql,ZZ oq] at hgo
 have hge:¬(n:Int)≤(j1:Int):=oq
 have hge2:(j1:Int)<(n:Int):=oq
 have hkd0:=qu (l:=q) (i:=i) (n:=n) oq
 have hKD:E5 q i n=if j2<n∧q.getD j2 0<q.getD j1 0 then j2 else j1:=by unfold E5;rw[hj1,hj2]
 obtain⟨kd,hkd⟩:∃kd,E5 q i n=kd:=⟨_,rfl⟩
 rw[hkd] at hgo hkd0 hKD
 have HGO:=hid hgo
 have HKD:=hid hkd0
 have hkl:=hkd0.1
 have hik:=hkd0.2
 clear hgo hkd hkd0 hj1 hil
 by_cases hn2:j2<n
 ·have hlt2:(j2:Int)<(n:Int):=oq
  have HLS:=hid (JV (w:=wr) v q HA.out.qm.own j2 j1 oq oq)
  by_cases hl:q.getD j2 0<q.getD j1 0
  ·rw[Z0 ⟨hn2,hl⟩] at hKD
   subst hKD
   rw[ZY hl] at HLS
   have HLS2:=hid (fun m=>JV (w:=wr.drewN m) v q HA.out.qm.own kd i oq oq)
   by_cases hl2:q.getD kd 0<q.getD i 0
   ·have HG:=hid (show Ql k (swp q i kd) kd n=ans by have:=HGO.out;rw[Z0 hl2] at this;exact this)
    rw[ZY hl2] at HLS2
    clear hl hl2 HGO hj2
    go_wp2_with (first|(go_at_call 212;refine HLS.out.mono ?_;rintro y w2 ⟨rfl,m1,rfl⟩;have mL2:=fun n=>Ux n (w:=wr.drewN m1) (b:=b) (o:=o) (v:=v) c0;have HL2:=hid (HLS2.out m1);clear HLS)|(go_at_call 212;refine HL2.out.mono ?_;rintro y w2 ⟨rfl,m2,rfl⟩;have mS:=fun n=>KW n (w:=wr.drewN (m1+m2)) (b:=b) (o:=o) (v:=v) c0;have HSW:=hid (JZ (w:=wr.drewN (m1+m2)) v q (show QV _ B v q from HA.out.qm.own) i kd oq oq))|(go_at_call 214;refine HSW.out.mono ?_;rintro y w3 ⟨rfl,hq3,hb3⟩;have HQ3:=hid hq3;have HB3:=hid hb3;clear hq3 hb3))
    exact⟨hid ⟨k,swp q i kd,kd,rfl,HA.out.next HKD.out HG.out (m2:=m1+m2) HQ3.out HB3.out⟩,by simp[intOf];omega⟩
   have hans:q=ans:=by have:=HGO.out;rw[ZZ hl2] at this;exact this
   rw[ZX hl2] at HLS2
   subst hans
   clear hl hl2 HGO hj2
   go_wp2_with (first|(go_at_call 212;refine HLS.out.mono ?_;rintro y w2 ⟨rfl,m1,rfl⟩;have mL2:=fun n=>Ux n (w:=wr.drewN m1) (b:=b) (o:=o) (v:=v) c0;have HL2:=hid (HLS2.out m1);clear HLS)|(go_at_call 212;refine HL2.out.mono ?_;rintro y w2 ⟨rfl,m2,rfl⟩))
   all_goals (go_ret;exact⟨⟨_,rfl⟩,⟨HA.out.qm.cell,HA.out.qm.fz,HA.out.qm.own,HA.out.qm.lt,HA.out.qm.hi⟩,HA.out.but.trans ((But.refl _ wr).drewN (m1+m2))⟩)
  rw[ZZ (fun e=>hl e.2)] at hKD
  subst hKD
  rw[ZX hl] at HLS
  have HLS2:=hid (fun m=>JV (w:=wr.drewN m) v q HA.out.qm.own kd i oq oq)
  by_cases hl2:q.getD kd 0<q.getD i 0
  ·have HG:=hid (show Ql k (swp q i kd) kd n=ans by have:=HGO.out;rw[Z0 hl2] at this;exact this)
   rw[ZY hl2] at HLS2
   clear hl hl2 HGO hj2
   go_wp2_with (first|(go_at_call 212;refine HLS.out.mono ?_;rintro y w2 ⟨rfl,m1,rfl⟩;have mL2:=fun n=>Ux n (w:=wr.drewN m1) (b:=b) (o:=o) (v:=v) c0;have HL2:=hid (HLS2.out m1);clear HLS)|(go_at_call 212;refine HL2.out.mono ?_;rintro y w2 ⟨rfl,m2,rfl⟩;have mS:=fun n=>KW n (w:=wr.drewN (m1+m2)) (b:=b) (o:=o) (v:=v) c0;have HSW:=hid (JZ (w:=wr.drewN (m1+m2)) v q (show QV _ B v q from HA.out.qm.own) i kd oq oq))|(go_at_call 214;refine HSW.out.mono ?_;rintro y w3 ⟨rfl,hq3,hb3⟩;have HQ3:=hid hq3;have HB3:=hid hb3;clear hq3 hb3))
   exact⟨hid ⟨k,swp q i kd,kd,rfl,HA.out.next HKD.out HG.out (m2:=m1+m2) HQ3.out HB3.out⟩,by simp[intOf];omega⟩
  have hans:q=ans:=by have:=HGO.out;rw[ZZ hl2] at this;exact this
  rw[ZX hl2] at HLS2
  subst hans
  clear hl hl2 HGO hj2
  go_wp2_with (first|(go_at_call 212;refine HLS.out.mono ?_;rintro y w2 ⟨rfl,m1,rfl⟩;have mL2:=fun n=>Ux n (w:=wr.drewN m1) (b:=b) (o:=o) (v:=v) c0;have HL2:=hid (HLS2.out m1);clear HLS)|(go_at_call 212;refine HL2.out.mono ?_;rintro y w2 ⟨rfl,m2,rfl⟩))
  all_goals (go_ret;exact⟨⟨_,rfl⟩,⟨HA.out.qm.cell,HA.out.qm.fz,HA.out.qm.own,HA.out.qm.lt,HA.out.qm.hi⟩,HA.out.but.trans ((But.refl _ wr).drewN (m1+m2))⟩)
 have hlt2:¬(j2:Int)<(n:Int):=oq
 rw[ZZ (fun e=>hn2 e.1)] at hKD
 subst hKD
 have HLS2:=hid (JV (w:=wr) v q HA.out.qm.own kd i oq oq)
 by_cases hl2:q.getD kd 0<q.getD i 0
 ·have HG:=hid (show Ql k (swp q i kd) kd n=ans by have:=HGO.out;rw[Z0 hl2] at this;exact this)
  rw[ZY hl2] at HLS2
  clear hl2 HGO hj2
  go_wp2_with (first|(go_at_call 212;refine HLS2.out.mono ?_;rintro y w2 ⟨rfl,m2,rfl⟩;have mS:=fun n=>KW n (w:=wr.drewN m2) (b:=b) (o:=o) (v:=v) c0;have HSW:=hid (JZ (w:=wr.drewN m2) v q (show QV _ B v q from HA.out.qm.own) i kd oq oq))|(go_at_call 214;refine HSW.out.mono ?_;rintro y w3 ⟨rfl,hq3,hb3⟩;have HQ3:=hid hq3;have HB3:=hid hb3;clear hq3 hb3))
  exact⟨hid ⟨k,swp q i kd,kd,rfl,HA.out.next HKD.out HG.out (m2:=m2) HQ3.out HB3.out⟩,by simp[intOf];omega⟩
 have hans:q=ans:=by have:=HGO.out;rw[ZZ hl2] at this;exact this
 rw[ZX hl2] at HLS2
 subst hans
 clear hl2 HGO hj2
 go_wp2_with (go_at_call 212;refine HLS2.out.mono ?_;rintro y w2 ⟨rfl,m2,rfl⟩)
 all_goals (go_ret;exact⟨⟨_,rfl⟩,⟨HA.out.qm.cell,HA.out.qm.fz,HA.out.qm.own,HA.out.qm.lt,HA.out.qm.hi⟩,HA.out.but.trans ((But.refl _ wr).drewN m2)⟩)
theorem JF.qm {w w':World} {b o B:Nat} {v:Value} {q:List Int} (h:JF w b o B v q w'):∃v',QM w' b o B v' q:=by
 obtain⟨v',arr,t,arr',h1,_⟩:=h
 exact⟨v',h1⟩
theorem JF.then {w w' w2:World} {b o B:Nat} {v v':Value} {q':List Int} {arr arr':Array Value} {t:TypeId} (hB:∀k,v'.ownBlock=some k→v.ownBlock=some k∨w.heap.size≤k) (hb:But (fun k=>k=b∨v.ownBlock=some k) w w')
  (h1:w.heap[b]?=some (.cells arr t (0,0))) (h2:w'.heap[b]?=some (.cells arr' t (0,0))) (h3:arr'=arr.setIfInBounds o v') (hq:QM w2 b o B v' q') (hb2:But (fun k=>v'.ownBlock=some k) w' w2):JF w b o B v q' w2:=by
 have hne:¬v'.ownBlock=some b:=fun e=>by have:=(JJ hq.own b e).1;have:=hq.lt;omega
 refine⟨v',arr,t,arr',hq,hB,hb.then hb2 (fun i hi e=>?_),h1,(hb2.block b (Zb h2) hne).trans h2,h3⟩
 rcases hB i e with h|h
 ·exact .inr h
 omega
theorem GY {w:World} {b o B:Nat} {v:Value} {q:List Int} {arr:Array Value} {t:TypeId} (h:QM w b o B v q) (ha:w.heap[b]?=some (.cells arr t (0,0))) (hq:q.length≤10000) (x:Int) :
  Calls Tryz.prog 127 #[.iface 220 (.pointer (some ⟨b,o,none⟩)),.iface 3 (.int .i64 x)] w fun y w'=>y=.returned (.tuple #[])∧JF w b o B v (QI q x) w':=by
 have HP:=hid (vZ h ha oq x)
 have mP:=fun n w=>Zbu n w ⟨b,o,none⟩
 clear h ha
 go_enter Tryz.func127,Tryz.ntmps127
 go_wp2_with (first|(go_at_call 216;refine HP.out.mono ?_;rintro y w2 ⟨rfl,v2,arr1,t1,arr2,hq2,hB2,hb2,hh1,hh2,hh3⟩;have c2:=hq2.cell;have mL:=fun n=>ZaY n c2;have HQ2:=hid hq2;have HLE:=hid (Kb v2 (q++[x]) hq2.own);have HUP:=hid (fun(W:World) (hW:W=w2)=>Zb1 (w:=W) (b:=b) (o:=o) (B:=B) (v:=v2) (q:=q++[x]) (hW▸hq2) (q.length+1) q.length oq (by simp) (by simp;omega));have HREST:=hid (Zh hB2 (Zh hb2 (Zh hh1 (Zh hh2 hh3))));clear hq2 hB2 hb2 hh1 hh2 hh3)|(go_at_call 90;refine HLE.out.mono ?_;rintro y w3 ⟨rfl,rfl⟩;have hll:(((q++[x]).length:Nat):Int)-1=(q.length:Int):=(by simp))|(go_at_call 149;refine(HUP.out _ rfl).mono ?_;rintro y w4 ⟨rfl,hq4,hb4⟩))
 go_end0
 obtain⟨hB2,hb2,hh1,hh2,hh3⟩:=HREST.out
 exact⟨rfl,JF.then hB2 hb2 hh1 hh2 hh3 hq4 hb4⟩
theorem kD {w:World} {b o B:Nat} {v:Value} {q:List Int} {arr:Array Value} {t:TypeId} (h:QM w b o B v q) (ha:w.heap[b]?=some (.cells arr t (0,0))) (hq:q≠[]) (hql:q.length≤10000) :
  Calls Tryz.prog 128 #[.iface 220 (.pointer (some ⟨b,o,none⟩))] w fun y w'=>y=.returned (.iface 3 (.int .i64 (Qe q).1))∧JF w b o B v (Qe q).2 w':=by
 have h0:0<q.length:=by cases q with
  | nil=>exact absurd rfl hq
  | cons _ _=>simp
 obtain⟨n,hn⟩:∃n,q.length=n+1:=⟨q.length-1,oq⟩
 have c0:=h.cell
 have hblt:b<w.heap.size:=Zd h.lt h.hi
 have hvb:¬v.ownBlock=some b:=fun e=>by have:=(JJ h.own b e).1;have:=h.lt;omega
 have mL:=fun n=>ZaY n c0
 have mS:=fun n=>KW n c0
 have HLE:=hid (Kb v q h.own)
 have HSW:=hid (JZ (w:=w) v q h.own 0 n oq oq)
 have hsk:XP q=Ql q.length (swp q 0 n) 0 n:=by unfold XP;rw[show q.length-1=n by omega]
 have HDN:=hid (fun(W:World) (h1:QV W B v (swp q 0 n)) (h2:But (fun k=>v.ownBlock=some k) w W) =>
  ka (w:=W) (b:=b) (o:=o) (B:=B) (v:=v) (q:=swp q 0 n) ⟨(Zn (w:=w) (h2.block b hblt hvb)).trans h.cell,(Z4 (w:=w) (h2.block b hblt hvb)).trans h.fz,h1,h.lt,Zm h.hi h2.size⟩ q.length n (by rw[Xk];omega) oq (by rw[Xk];omega))
 rw[←hsk] at HDN
 have HPO:=hid (fun(W:World) (h1:QM W b o B v (XP q)) (h2:But (fun k=>v.ownBlock=some k) w W)=>gu (w:=W) h1 ((h2.block b hblt hvb).trans ha) (by intro e;have:=QQ q;rw[e] at this;simp at this;omega) (by rw[QQ];omega))
 have hpp:Qe q=((XP q).getD ((XP q).length-1) 0,(XP q).take ((XP q).length-1)):=by unfold Qe;rw[QQ]
 rw[hpp]
 simp only
 have HH:=hid h
 have HHA:=hid ha
 have hw1:IntKind.i64.wrap ((q.length:Int)-1)=(n:Int):=by rw[show(q.length:Int)-1=(n:Int) by omega];exact ZJ _ oq
 have hw2:(q.length:Int)-1=(n:Int):=oq
 have mP:=fun n w=>ZcC n w ⟨b,o,none⟩
 obtain⟨x,hx⟩:∃x,(XP q).getD ((XP q).length-1) 0=x:=⟨_,rfl⟩
 obtain⟨q',hq'⟩:∃q',(XP q).take ((XP q).length-1)=q':=⟨_,rfl⟩
 rw[hx,hq'] at HPO ⊢
 clear h ha hq hsk hpp hx hq'
 go_enter Tryz.func128,Tryz.ntmps128
 go_wp2_with (first|(go_at_call 90;refine HLE.out.mono ?_;rintro y w3 ⟨rfl,rfl⟩)|(go_at_call 214;refine HSW.out.mono ?_;rintro y w2 ⟨rfl,hq2,hb2⟩;have HQ2:=hid hq2;have HB2:=hid hb2;clear hq2 hb2)|(go_at_call 150;refine(HDN.out _ HQ2.out HB2.out).mono ?_;rintro y w4 ⟨⟨cc,rfl⟩,hq4,hb4⟩;have HQ4:=hid hq4;have HB4:=hid (HB2.out.trans hb4);clear hq4 hb4)|(go_at_call 215;refine(HPO.out _ HQ4.out HB4.out).mono ?_;rintro y w5 ⟨rfl,hp5⟩;have HP5:=hid hp5;clear hp5))
 go_ret
 obtain⟨v5,arr1,t1,arr2,hq5,hB5,hb5,hh1,hh2,hh3⟩:=HP5.out
 have e1:=(HB4.out.block b hblt hvb).trans HHA.out
 rw[e1] at hh1
 injection hh1 with hh1
 injection hh1 with hh1 hh4 hh5
 subst hh1;subst hh4
 refine⟨rfl,v5,arr,t,arr2,hq5,fun k hk=>?_,?_,HHA.out,hh2,hh3⟩
 ·rcases hB5 k hk with h1|h1
  ·exact .inl h1
  exact .inr (Zm HB4.out.size h1)
 exact(HB4.out.imp (fun i _ e=>.inr e)).then hb5 (fun i hi e=>e)
end Go.Proofs.YtlhlcdjiafdoeaaGreatDoor.syn
