/-
  Parts of the proof: Dl7, Dl8, Dl9.
-/
import Derived.Test.YtgigilkpndhddaaGreatDoorQ34
namespace Go.Proofs.YtgigilkpndhddaaGreatDoor.syn
set_option linter.unusedVariables false
set_option linter.unusedSimpArgs false
set_option linter.unnecessarySimpa false
set_option maxRecDepth 100000
set_option maxHeartbeats 16000000
open Go.RowKit Go.Shelf Go.Sort Go.Lib
theorem Ek {l:List Int} (hn:l.Nodup) {i:Nat} (hi:i<l.length):l.idxOf l[i]=i:=by
 have h1:=gq hn (Zi hi)
 obtain⟨h2,h3⟩:=ZA.1 h1
 rw[List.nodup_iff_pairwise_ne,List.pairwise_iff_getElem] at hn
 apply Yh
 intro hne
 rcases Nat.lt_or_gt_of_ne hne with h|h
 ·exact hn _ _ h2 hi h h3
 exact hn _ _ hi h2 h h3.symm
theorem Zbj {f:FD} {order:List Int} {u:Int} (ho:YN f order):(J0 f order u).Pairwise (fun a b=>order.idxOf (a.1:Int)<order.idxOf (b.1:Int)∨(a.1=b.1∧a.2<b.2)):=by
 unfold J0
 rw[List.pairwise_flatMap]
 refine⟨fun t _=>?_,?_⟩
 ·unfold Y9
  rw[List.pairwise_map]
  exact List.pairwise_lt_range.imp (fun h=>.inr ⟨rfl,h⟩)
 rw[List.pairwise_iff_getElem]
 intro i j hi hj hij x hx y hy
 unfold Y9 at hx hy
 obtain⟨k,_,rfl⟩:=Ye.1 hx
 obtain⟨m,_,rfl⟩:=Ye.1 hy
 have h1:=ho.rng _ (Zi hi)
 have h2:=ho.rng _ (Zi hj)
 refine .inl ?_
 show order.idxOf ((order[i].toNat:Nat):Int)<order.idxOf ((order[j].toNat:Nat):Int)
 rw[show((order[i].toNat:Nat):Int)=order[i] by omega,show((order[j].toNat:Nat):Int)=order[j] by omega,Ek ho.nd hi,Ek ho.nd hj]
 exact hij
def jb (x:YA):Nat × Nat:=(x.t.toNat,x.n.toNat)
theorem EA (f:FD) (b:Nat × Nat):jb (mkJ f b)=b:=by unfold jb mkJ;simp
theorem gD (x y:YA):ltOf cfJ x y=decide (x.r<y.r):=by
 unfold ltOf cfJ ks
 by_cases h:x.r<y.r
 ·rw[Z2 h];simp[h]
 rw[Z1 h]
 by_cases h2:y.r<x.r
 ·rw[Z2 h2];simp[h]
 rw[Z1 h2];simp[h]
theorem Zbv {f:FD} {order:List Int} {u:Int} (ho:YN f order) (hc:Ec f) {d':Array YA} (h:UA (ltOf cfJ) ((J0 f order u).map (mkJ f)).toArray d'):∃B,d'=(B.map (mkJ f)).toArray∧Xv f order u B:=by
 obtain⟨⟨hsz,_,hp⟩,hs⟩:=h
 have hl:d'.toList.Perm ((J0 f order u).map (mkJ f)):=by
  have e1:(d'.extract 0 ((J0 f order u).map (mkJ f)).toArray.size)=d':=by rw[←hsz];simp
  have e2:(((J0 f order u).map (mkJ f)).toArray.extract 0 ((J0 f order u).map (mkJ f)).toArray.size)=((J0 f order u).map (mkJ f)).toArray:=Array.extract_size
  rw[e1,e2] at hp
  simpa using hp
 have hmem:∀x∈d'.toList,mkJ f (jb x)=x:=fun x hx=>by
  obtain⟨b,_,rfl⟩:=Ye.1 (hl.mem_iff.1 hx)
  rw[EA]
 have hB:(d'.toList.map jb).map (mkJ f)=d'.toList:=by
  rw[List.map_map]
  conv=>rhs;rw[←List.map_id d'.toList]
  exact List.map_congr_left (fun x hx=>hmem x hx)
 refine⟨d'.toList.map jb,by rw[hB],?_,?_⟩
 ·have h1:=hl.map jb
  rw[List.map_map] at h1
  have h2:(J0 f order u).map (jb∘mkJ f)=J0 f order u:=by
   conv=>rhs;rw[←List.map_id (J0 f order u)]
   exact List.map_congr_left (fun b _=>EA f b)
  rw[h2] at h1
  exact h1.symm
 have h3:=hs (fun x y=>RJ f order (jb x) (jb y)) (fun x y z h1 h2=>h1.trans h2) ?_
 ·rw[List.pairwise_map,List.pairwise_iff_getElem]
  intro i j hi hj hij
  have h4:=h3 i j (Zk _) hij (by rw[←hsz];simpa using hj)
  rw[getElem!_pos d' i (by simpa using hi),getElem!_pos d' j (by simpa using hj)] at h4
  simpa using h4
 intro p q hpq hq
 have hq':q<(J0 f order u).length:=by simpa using hq
 have hp':p<(J0 f order u).length:=oq
 have e1:((J0 f order u).map (mkJ f)).toArray[p]! = mkJ f (J0 f order u)[p]:=by rw[getElem!_pos _ p (by simpa using hp')];simp
 have e2:((J0 f order u).map (mkJ f)).toArray[q]! = mkJ f (J0 f order u)[q]:=by rw[getElem!_pos _ q (by simpa using hq')];simp
 rw[e1,e2]
 have h5:=List.pairwise_iff_getElem.1 (Zbj ho (u:=u)) p q hp' hq' hpq
 obtain⟨a,ha⟩:∃a,(J0 f order u)[p]=a:=⟨_,rfl⟩
 obtain⟨b,hb⟩:∃b,(J0 f order u)[q]=b:=⟨_,rfl⟩
 have hma:a∈J0 f order u:=by rw[←ha];exact Zi hp'
 rw[ha,hb] at h5
 rw[ha,hb]
 refine⟨fun hlt=>?_,fun hlt=>?_⟩
 ·show RJ f order (jb (mkJ f a)) (jb (mkJ f b))
  rw[EA,EA]
  rw[gD] at hlt
  have h6:¬Ql f b<Ql f a:=of_decide_eq_false hlt
  unfold RJ
  rcases h5 with h5|⟨h5,h7⟩
  ·by_cases h8:Ql f a<Ql f b
   ·exact .inl h8
   exact .inr ⟨oq,h5⟩
  refine .inl ?_
  have hat:=(Zah ho (u:=u) (t:=a.1) (n:=a.2)).1 hma
  have hpp:=(hc a.1 hat.1).1
  unfold Ql
  rw[←h5]
  have h9:=Int.mul_le_mul_of_nonneg_right (show(a.2:Int)+1≤(b.2:Int) by omega) (show 0≤(tkO f a.1).per by omega)
  rw[Int.add_mul] at h9
  omega
 show RJ f order (jb (mkJ f b)) (jb (mkJ f a))
 rw[EA,EA]
 rw[gD] at hlt
 exact .inl (Yi hlt)
theorem uq {dl:List YA} {t:Nat} (h:t<dl.length*5):(dl.flatMap Qb)[t]?=some (Qb dl.toArray[t/5]!)[t%5]!:=by
 induction dl generalizing t with
 | nil=>simp at h
 | cons x dl ih =>
  rw[List.flatMap_cons]
  by_cases ht:t<5
  ·rw[List.getElem?_append_left (show t<(Qb x).length from ht)]
   have e1:t/5=0:=oq
   have e2:t%5=t:=oq
   rw[e1,e2]
   have:(x::dl).toArray[0]! = x:=rfl
   rw[this,getElem!_pos _ t (show t<(Qb x).length from ht),Ze]
  rw[List.getElem?_append_right (show(Qb x).length≤t by show 5≤t;omega)]
  have hl:(Qb x).length=5:=rfl
  rw[hl,ih (t:=t-5) (by simp at h;omega)]
  have e1:t/5=(t-5)/5+1:=oq
  have e2:(t-5)%5=t%5:=oq
  rw[e1,e2]
  have h4:(t-5)/5<dl.length:=by simp at h;omega
  have:(x::dl).toArray[(t-5)/5+1]! = dl.toArray[(t-5)/5]!:=by
   rw[getElem!_pos _ _ (by simp;exact h4),getElem!_pos _ _ (by simpa using h4)]
   simp
  rw[this]
theorem uA {W:World} {base g c:Nat} {dl:List YA} (h:W.ownsRow base 43 5 (.slice (some ⟨g,0,none⟩) dl.length c) dl.length (dl.flatMap Qb)):JH W g 0 dl.toArray:=by
 rcases h.2 with ⟨e,_⟩|⟨g',cap,cur,e,hb,hg,hnc,hcm,hcs,htk⟩
 ·cases e
 injection e with e1 e2 e3
 injection e1 with e1
 injection e1 with e1
 subst e1
 refine⟨fun t ht=>?_,Zb hg⟩
 have ht':t<dl.length*5:=by simpa using ht
 rw[get_flatK _ _ _ _ (by simpa using ht'),ZD]
 refine⟨?_,by simp[World.frozen?,hg]⟩
 rw[Z7 W g t cur _ (0,0) hg,←Array.getElem?_toList]
 have h1:=uq ht'
 rw[←htk,Yn ht'] at h1
 exact h1
theorem xK (w:World):Calls Tryz.prog 66 #[.slice none 0 0,.func (.func 67) #[] #[]] w fun e w'=>e=.returned (.tuple #[])∧Below w.heap.size w w':=by
 have hI:∀W,Calls Tryz.prog 137 #[.slice none 0 0,.int .i64 0,.int .i64 0,.func (.func 67) #[] #[]] W fun e w'=>e=.returned (.tuple #[])∧Below W.heap.size W w':=fun W=>by
  go_enter Tryz.func137,Tryz.ntmps137
  go_wp2
  go_loopw [8] (fun s8 W'=>Hid (s8=.int .i64 1∧Below W.heap.size W W')) (fun _ _=>0)
  case atStart=>exact⟨by go_num,bq⟩
  obtain⟨rfl,hb⟩:=hrel.out
  clear hrel
  have HB:=hid hb
  clear hb
  go_wp2
  go_end0
  exact⟨rfl,HB.out⟩
 have hS:∀W,Calls Tryz.prog 110 #[.slice none 0 0,.int .i64 0,.func (.func 67) #[] #[]] W fun e w'=>e=.returned (.tuple #[])∧Below W.heap.size W w':=fun W=>by
  go_enter Tryz.func110,Tryz.ntmps110
  go_wp2
  go_loopw [7,8] (fun s7 s8 W'=>Hid (s7=.int .i64 0∧s8=.int .i64 20∧Below W.heap.size W W')) (fun _ _ _=>0)
  case atStart=>exact⟨rfl,rfl,Zg _ _⟩
  obtain⟨rfl,rfl,hb⟩:=hrel.out
  clear hrel
  have HB:=hid hb
  clear hb
  go_wp2_with (go_at_call 137;refine(hI _).mono ?_;rintro e w2 ⟨rfl,hb2⟩;have HB2:=hid (HB.out.trans (hb2.mono HB.out.size));clear hb2)
  go_loopw [6] (fun s6 W'=>Hid (s6=.int .i64 20∧Below W.heap.size W W')) (fun _ _=>0)
  case atStart=>exact⟨rfl,HB2.out⟩
  obtain⟨rfl,hb⟩:=hrel.out
  clear hrel
  have HB3:=hid hb
  clear hb
  go_wp2
  go_end0
  exact⟨rfl,HB3.out⟩
 go_enter Tryz.func66,Tryz.ntmps66
 go_wp2_with (go_at_call 110;refine(hS _).mono ?_;rintro e w2 ⟨rfl,hb2⟩)
 go_end0
 exact⟨rfl,hb2⟩
theorem ZaZ {α:Type} [Inhabited α] {enc:α→List Value} {k:Nat} {w W':World} {blk off:Nat} {d:Array α} (h:SWK enc k w blk off d W'):But (fun b=>b=blk) w W':=by
 obtain⟨m,os,rfl⟩:=h
 refine⟨rfl,rfl,rfl,?_,fun b hb hne=>?_⟩
 ·simp[sortWorldK,putRowK,putRow,mapBlock,grow,ahead]
 unfold sortWorldK
 rw[heap_grow_old _ _ (by simpa [putRowK,putRow,mapBlock,ahead] using hb)]
 simp only[putRowK,putRow,mapBlock,ahead,Array.getElem?_modify]
 rw[Z1 (fun e=>hne e.symm)]
 rfl
def jaB (ja:Option Addr):Option Nat:=ja.map (·.block)
structure BC (S:Nat→Prop) (W W':World):Prop where
 size:W.heap.size≤W'.heap.size
 block:∀(k:Nat) (cs:Array Value) (t:TypeId) (fr:Nat × Nat),W.heap[k]?=some (.cells cs t fr)→¬S k→W'.heap[k]?=some (.cells cs t fr)
theorem BC.of_but {S:Nat→Prop} {W W':World} (h:But S W W'):BC S W W':=⟨h.size,fun k _ _ _ hk hs=>(h.block k (Zb hk) hs).trans hk⟩
theorem BC.of_mk {S:Nat→Prop} {lo:Nat} {W W':World} (h:MkW lo W W'):BC S W W':=⟨Nat.le_of_eq h.size.symm,fun k cs t fr hk _=>h.cells k _ hk rfl⟩
theorem BC.then {S:Nat→Prop} {A B C:World} (h:BC S A B) (k:BC S B C):BC S A C:=⟨Zm h.size k.size,fun j cs t fr hj hs=>k.block j cs t fr (h.block j cs t fr hj hs) hs⟩
theorem BC.own {S:Nat→Prop} {w w':World} {base:Nat} {e:TypeId} {size n:Nat} {v:Value} {xs:List Value} (h:BC S w w') (ho:w.ownsRow base e size v n xs) (hS:∀k,v.ownBlock=some k→¬S k):w'.ownsRow base e size v n xs:=by
 refine⟨ho.1,?_⟩
 rcases ho.2 with hn|⟨g,cap,cur,rfl,hb,hgg,rest⟩
 ·exact .inl hn
 exact .inr ⟨g,cap,cur,rfl,hb,h.block g _ _ _ hgg (hS g rfl),rest⟩
def JR (W:World) (ja:Option Addr) (d:Array YA):Prop:=d.size=0∨∃g,ja=some ⟨g,0,none⟩∧JH W g 0 d
theorem JR.bc {W W':World} {ja:Option Addr} {d:Array YA} (h:JR W ja d) {S:Nat→Prop} (hb:BC S W W') (hS:∀g,jaB ja=some g→¬S g):JR W' ja d:=by
 by_cases h0:d.size=0
 ·exact .inl h0
 rcases h with h|⟨g,rfl,h⟩
 ·exact .inl h
 refine .inr ⟨g,rfl,h.but ?_⟩
 have h1:=(h.cell (i:=0) oq).1.1
 have hl:=h.lt
 cases ho:W.heap[g]? with
 | none=>simp[World.cell?,ho] at h1
 | some o =>
  cases o with
  | cells cs t fr=>exact hb.block g cs t fr ho (hS g rfl)
  | _=>simp[World.cell?,ho] at h1
theorem JR.but {W W':World} {ja:Option Addr} {d:Array YA} (h:JR W ja d) {S:Nat→Prop} (hb:But S W W') (hS:∀g,jaB ja=some g→¬S g):JR W' ja d:=h.bc (BC.of_but hb) hS
theorem JR.below {W W':World} {ja:Option Addr} {d:Array YA} (h:JR W ja d) (hb:Below W.heap.size W W'):JR W' ja d:=h.but (But.of_below (S:=fun _=>False) hb) (fun _ _ e=>e)
theorem xy {W:World} {base cj:Nat} {ja:Option Addr} {f:FD} {order:List Int} {u:Int} (ho:YN f order) (hc:Ec f) (N:Nat) (hN:((J0 f order u).map (mkJ f)).length=N) (hN2:N≤1000000) (hown:W.ownsRow base 43 5 (.slice ja N cj) N (((J0 f order u).map (mkJ f)).flatMap Qb)) :
  Calls Tryz.prog 66 #[.slice ja N cj,.func (.func 67) #[] #[]] W fun e w'=>e=.returned (.tuple #[])∧(∃B,Xv f order u B∧B.length=N∧JR w' ja (B.map (mkJ f)).toArray)∧But (fun b=>jaB ja=some b) W w':=by
 subst hN
 rcases hown.2 with ⟨e,hn⟩|⟨g,cap,cur,e,hb,hg,_⟩
 ·rw[e]
  injection e with e1 e2 e3
  subst e1
  refine(xK W).mono ?_
  rintro y w' ⟨rfl,hb⟩
  have hJ:J0 f order u=[]:=by
   have:=hn
   rw[Zo] at this
   exact Yd this
  refine⟨rfl,⟨[],⟨by rw[hJ],List.Pairwise.nil⟩,by rw[hJ];rfl,.inl rfl⟩,But.of_below hb⟩
 injection e with e1 e2 e3
 subst e1
 have hJH:=uA hown
 have h:=E4 g 0 cj ((J0 f order u).map (mkJ f)).toArray W hJH.holds hJH.lt (by simp at hN2 ⊢;omega)
 rw[ZI] at h
 refine h.mono ?_
 rintro y w' ⟨rfl,d',hst,hsw⟩
 obtain⟨B,rfl,hB⟩:=Zbv ho hc hst
 have hl:B.length=((J0 f order u).map (mkJ f)).length:=by rw[Zo];exact hB.perm.length_eq.symm
 refine⟨rfl,⟨B,hB,hl,.inr ⟨g,rfl,⟨hsw.holds hJH.lt hJH.holds (by simp[hl]),hsw.lt hJH.lt⟩⟩⟩,(ZaZ hsw).imp (fun b _ e=>by rw[e];rfl)⟩
structure PlW (W3 W:World) (pb T:Nat) (vs:List Value) (B:List (Nat × Nat)) (i:Nat):Prop where
 but:But (fun k=>k=pb) W3 W
 lt:pb<W3.heap.size
 len:vs.length=T
 row:W.heap[pb]?=some (.cells vs.toArray 41 (0,0))
 fam:Fam W W3.heap.size 3 vs ((List.range T).map (fun t=>ints (plP B i t)))
theorem PlW.start {W:World} {pb T:Nat} {B:List (Nat × Nat)} (h:W.heap[pb]?=some (.cells (List.replicate T (.slice none 0 0)).toArray 41 (0,0))):PlW W W pb T (List.replicate T (.slice none 0 0)) B 0:=by
 refine⟨But.refl _ _,Zb h,by simp,h,?_⟩
 have h1:=Fam.nils W W.heap.size 3 T
 have h2:(List.range T).map (fun t=>ints (plP B 0 t))=List.replicate T []:=by
  rw[List.eq_replicate_iff]
  refine⟨by simp,fun x hx=>?_⟩
  obtain⟨t,_,rfl⟩:=Ye.1 hx
  rfl
 rw[h2]
 exact h1
theorem PlW.at {W3 W:World} {pb T:Nat} {vs:List Value} {B:List (Nat × Nat)} {i:Nat} (h:PlW W3 W pb T vs B i) {t:Nat} (ht:t<T):∃v,vs[t]?=some v∧W.cell? ⟨pb,t,none⟩=some v∧W.frozen? ⟨pb,t,none⟩=false∧W.ownsRow W3.heap.size 3 1 v (plP B i t).length (ints (plP B i t)):=by
 have hl:=h.len
 refine⟨vs[t],Ze oq,?_,by simp[World.frozen?,h.row],?_⟩
 ·rw[Z7 W pb t _ _ _ h.row]
  simp[hl,ht]
 have:=h.fam.own t vs[t] (ints (plP B i t)) (Ze oq) (by simp[ht])
 rwa [Ja] at this
theorem PlW.app {W3 W w4:World} {pb T:Nat} {vs:List Value} {B:List (Nat × Nat)} {i:Nat} (h:PlW W3 W pb T vs B i) {t:Nat} (ht:t<T) (hB:(B.getD i (0,0)).1=t) {v v':Value} (hv:vs[t]?=some v) (hb4:But (fun k=>v.ownBlock=some k) W w4)
  (hown:w4.ownsRow W3.heap.size 3 1 v' ((plP B i t).length+1) (ints (plP B i t)++[.int .i64 (i:Int)])) (hv':∀k,v'.ownBlock=some k→v.ownBlock=some k∨W.heap.size≤k):PlW W3 (w4.setCell ⟨pb,t,none⟩ v') pb T (vs.set t v') B (i+1):=by
 have hl:=h.lt
 have hlen:=h.len
 have hge:=fun k hk=>h.fam.block hv k hk
 have hne:∀k,v.ownBlock=some k→k≠pb:=fun k hk e=>by have:=hge k hk;omega
 have h1:=(hb4.block pb (Zb h.row) (fun e=>hne pb e rfl)).trans h.row
 have hbs:But (fun k=>v.ownBlock=some k∨k=pb) W (w4.setCell ⟨pb,t,none⟩ v'):=(hb4.imp (fun _ _ e=>.inl e)).then (But.set (S:=fun k=>k=pb) rfl _) (fun _ _ e=>.inr e)
 refine⟨h.but.then hbs (fun k hk e=>by rcases e with e|e<;>first|exact e|(have:=hge k e;omega)),h.lt,by rw[List.length_set];exact hlen,?_,?_⟩
 ·have h2:=Zj _ pb t _ _ v' h1
  rw[h2]
  simp
 have h3:(List.range T).map (fun t=>ints (plP B (i+1) t))=((List.range T).map (fun t=>ints (plP B i t))).set t (ints (plP B i t)++[.int .i64 (i:Int)]):=by
  apply List.ext_getElem
  ·simp
  intro j h4 h5
  rw[List.getElem_set]
  simp only[List.getElem_map,List.getElem_range]
  rw[ew,hB]
  by_cases e:t=j
  ·subst e
   rw[Z2 rfl,Z2 rfl,←Jq]
  rw[Z1 e,Z1 e,List.append_nil]
 rw[h3]
 refine h.fam.put hv (hbs.imp (fun k _ e=>by rcases e with e|e<;>first|exact .inl e|exact .inr oq)) ?_ hv'
 rw[Zx,Ja]
 exact Xm hown h.lt v'
theorem PlW.done {W3 W:World} {pb T:Nat} {vs:List Value} {B:List (Nat × Nat)} {i:Nat} (h:PlW W3 W pb T vs B i) {S:Nat→Prop} (hS:∀k,S k→k<W3.heap.size∧k≠pb) {W':World} (hb:BC S W W'):PlM W' pb (plP B i) T:=by
 have hrow:W'.heap[pb]?=_:=hb.block pb _ _ _ h.row (fun e=>(hS _ e).2 rfl)
 refine⟨Zb hrow,fun t ht=>?_⟩
 obtain⟨v,hv,hc,_,ho⟩:=h.at ht
 obtain⟨a,c,rfl⟩:=Yy ho
 refine⟨a,c,(Zn (w:=W) (a:=⟨pb,t,none⟩) (hrow.trans h.row.symm)).trans hc,?_⟩
 have ho2:=hb.own ho (fun k hk hs=>by have h1:=(hS k hs).1;have h2:=Qy ho k hk;omega)
 rcases ho2.2 with ⟨_,hn⟩|⟨g,cap,cur,e,hb2,hg,_⟩
 ·exact .inl (Yd hn)
 injection e with e1 e2 e3
 subst e1
 refine .inr ⟨g,0,rfl,Zb hg,fun j hj=>?_⟩
 rw[Z8,ZD]
 refine(World.ownsRow.cellAt ho2 j (by rw[Z8];exact hj)).trans ?_
 rw[ints_at hj,Zf,Ze hj]
 rfl
structure Qs (W:World) (f:FD) (ai an aT al:Option Addr) (ci cn ct cl:Nat) (u:Int) (wb pb cp:Nat) (ja:Option Addr) (cj:Nat) (B:List (Nat × Nat)) (d:Array YA):Prop where
 box:W.heap[wb]?=some (.cells #[.slice ai f.ins.length ci,.slice an f.nods.length cn,.slice aT f.tasks.length ct,.slice al f.tells.length cl,.int .i64 u,.slice ja d.size cj,.slice (some ⟨pb,0,none⟩) f.tasks.length cp] 84 (0,0))
 ne:jaB ja≠some wb
 jobs:JR W ja d
 pl:∀W',BC (fun b=>jaB ja=some b) W W'→PlM W' pb (plP B B.length) f.tasks.length
 sz:d.size=B.length
theorem Qs.but {W W':World} {f:FD} {ai an aT al:Option Addr} {ci cn ct cl:Nat} {u:Int} {wb pb cp:Nat} {ja:Option Addr} {cj:Nat} {B:List (Nat × Nat)} {d d':Array YA} (h:Qs W f ai an aT al ci cn ct cl u wb pb cp ja cj B d) (hb:But (fun b=>jaB ja=some b) W W') (hs:d'.size=d.size) (hj:JR W' ja d'):Qs W' f ai an aT al ci cn ct cl u wb pb cp ja cj B d' :=
 ⟨by rw[hs];exact(hb.block wb (Zb h.box) h.ne).trans h.box,h.ne,hj,fun W2 h2=>h.pl W2 ((BC.of_but hb).then h2),hs.trans h.sz⟩
theorem Qs.below {W W':World} {f:FD} {ai an aT al:Option Addr} {ci cn ct cl:Nat} {u:Int} {wb pb cp:Nat} {ja:Option Addr} {cj:Nat} {B:List (Nat × Nat)} {d:Array YA} (h:Qs W f ai an aT al ci cn ct cl u wb pb cp ja cj B d) (hb:Below W.heap.size W W'):Qs W' f ai an aT al ci cn ct cl u wb pb cp ja cj B d :=
 h.but (But.of_below hb) rfl (h.jobs.below hb)
theorem Qs.mk' {W W':World} {f:FD} {ai an aT al:Option Addr} {ci cn ct cl:Nat} {u:Int} {wb pb cp:Nat} {ja:Option Addr} {cj:Nat} {B:List (Nat × Nat)} {d:Array YA} (h:Qs W f ai an aT al ci cn ct cl u wb pb cp ja cj B d) {lo:Nat} (hm:MkW lo W W'):Qs W' f ai an aT al ci cn ct cl u wb pb cp ja cj B d :=
 ⟨hm.cells _ _ h.box rfl,h.ne,h.jobs.bc (BC.of_mk (S:=fun _=>False) hm) (fun _ _ e=>e),fun W2 h2=>h.pl W2 ((BC.of_mk hm).then h2),h.sz⟩
open Go.RowKit Go.Sort
theorem Vp:∀(l:List index.Op3) (p q p' q':Int),clock.Yz p q=true→clock.YU p q l=(p',q',0)→clock.Yz p' q'=true
 | [],p,q,p',q',hr,h=>by
  simp only[clock.YU,Z4] at h
  obtain⟨rfl,rfl,_⟩:=h
  exact hr
 | o::r,p,q,p',q',hr,h=>by
  obtain⟨k,N,d⟩:=o
  rw[clock.YU] at h
  rcases ha:clock.Yx p q k N d with ⟨p1,f1,e1⟩
  simp only[ha] at h
  split at h
  ·rename_i he
   subst he
   exact Vp r p1 f1 p' q' (JJ ha).2.1 h
  rename_i he
  simp only[Z4] at h
  exact absurd h.2.2 he
theorem XZ {f:FD} {a:AD} {cp cf:Int} (h:X0 f a cp cf=true):clock.Yz cp cf=true∧(JB f a.src).isSome=true∧a.ops.length≤20:=by
 unfold X0 at h
 cases hs:JB f a.src with
 | none=>rw[hs] at h;cases h
 | some s =>
  obtain⟨sp,sf⟩:=s
  rw[hs] at h
  simp only[ZB,Yj] at h
  obtain⟨hl,h0,h1,h2⟩:=h
  unfold clock.xz at h0 h1 h2
  by_cases hr:clock.Yz sp sf=true
  ·rw[Z2 hr] at h0 h1 h2
   exact⟨Vp a.ops sp sf cp cf hr (by rw[←h0,←h1,←h2]),rfl,hl⟩
  rw[Z1 hr] at h0
  simp at h0
structure RgF (f:FD):Prop where
 few:f.tasks.length≤30
 clk:Ec f
 fits:∀t,t<f.tasks.length→∀a∈(tkO f t).args,X0 f a (tkO f t).per (tkO f t).ph=true
 node:∀t,t<f.tasks.length→∃k:Nat,(tkO f t).node=(k:Int)∧∃h:k<f.nods.length,1≤f.nods[k].bud∧f.nods[k].bud≤1000
 tel:∀t∈f.tells,(1≤t.dl∧t.dl≤1000)∧X0 f t.arg t.per t.ph=true
theorem vF {f:FD} (h:Xj f=true):RgF f:=by
 unfold Xj at h
 simp only[ZB,List.all_eq_true,Yj] at h
 obtain⟨_,h2,h3,h4,h5⟩:=h
 have key:∀t,t<f.tasks.length→(∃k:Nat,(tkO f t).node=(k:Int)∧∃h:k<f.nods.length,1≤f.nods[k].bud∧f.nods[k].bud≤1000)∧(tkO f t).args≠[]∧∀a∈(tkO f t).args,X0 f a (tkO f t).per (tkO f t).ph=true:=by
  intro t ht
  have h6:=h3 f.tasks[t] (Zi ht)
  rw[VL ht] at h6
  by_cases hk:(tkO f t).node<0∨(f.nods.length:Int)≤(tkO f t).node
  ·rw[Ux hk] at h6;cases h6
  have h7:(tkO f t).node.toNat<f.nods.length:=oq
  have h8:(tkO f t).node=((tkO f t).node.toNat:Int):=oq
  rw[En h7 h8] at h6
  simp only[ZB,List.all_eq_true,Yj] at h6
  refine⟨⟨_,h8,h7,?_⟩,fun e=>h6.1 (by rw[e];rfl),h6.2.2⟩
  have:=h2 _ (Zi h7)
  unfold JV at this
  simpa using this
 refine⟨h5,fun t ht=>?_,fun t ht=>(key t ht).2.2,fun t ht=>(key t ht).1,fun t ht=>?_⟩
 ·obtain⟨_,hne,hf⟩:=key t ht
  obtain⟨a,ha⟩:=List.exists_mem_of_ne_nil _ hne
  exact clock.Xd.1 (XZ (hf a ha)).1
 have:=h4 t ht
 unfold Ke JV at this
 simpa using this
theorem Eg {f:FD} {a:AD} {cp cf:Int} (hT:f.tasks.length≤30) (hI:f.ins.length≤1000) (h:X0 f a cp cf=true):0≤a.src∧a.src≤100000:=by
 have h1:=(XZ h).2.1
 by_cases h0:a.src<0
 ·rw[jL h0] at h1;cases h1
 by_cases h2:(f.ins.length:Int)≤a.src
 ·have:=Gt h1 h2;omega
 omega
def Vo (f:FD) (B:List (Nat × Nat)) (i:Nat):List Int:=(tkO f (B.getD i (0,0)).1).args.filterMap (fun a=>Qa f B a ((B.getD i (0,0)).2:Int))
def YT (f:FD) (B:List (Nat × Nat)) (i:Nat):List Int:=Lib.compact ((Vo f B i).mergeSort (fun x y=>decide (x≤y)))
theorem gu {f:FD} {B:List (Nat × Nat)} {i:Nat} {x:Int} (h:x∈YT f B i):x∈Vo f B i:=List.mem_mergeSort.1 (U3 (Nat.le_of_eq (by simp)) x h)
theorem Kj {f:FD} {order:List Int} {u:Int} {B:List (Nat × Nat)} (hB:Xv f order u B) (ho:YN f order) (hr:RgF f) {i:Nat} (hi:i<B.length) {x:Int} (h:x∈YT f B i):∃p:Nat,x=(p:Int)∧p<i:=by
 have h1:=gu h
 unfold Vo at h1
 obtain⟨a,ha,hx⟩:=List.mem_filterMap.1 h1
 have hb:B[i]?=some (B.getD i (0,0)):=by rw[Zf,Ze hi];rfl
 obtain⟨⟨t,n⟩,hbb⟩:∃b,B.getD i (0,0)=b:=⟨_,rfl⟩
 rw[hbb] at ha hx hb
 simp only at ha hx
 have hm:=(hB.mem ho).1 (Ya hb)
 obtain⟨p,s,k,rfl,h2,h3⟩:=Zcr hB ho hr.fits hm.1 (hr.clk t hm.1).1 hm.2 ha hx
 exact⟨p,rfl,hB.lt h2 hb h3⟩
structure NdS (W:World) (f:FD) (B:List (Nat × Nat)) (ja:Option Addr) (d:Array YA) (i:Nat):Prop where
 base:∀k,k<B.length→d[k]!.t=((B.getD k (0,0)).1:Int)∧d[k]!.n=((B.getD k (0,0)).2:Int)∧d[k]!.r=Ql f (B.getD k (0,0))∧d[k]!.d=Ql f (B.getD k (0,0))+(tkO f (B.getD k (0,0)).1).per
 nd:∀k,k<i→d[k]!.nl=(YT f B k).length∧∀W',BC (fun b=>jaB ja=some b) W W'→Row Uz 1 W' (YT f B k) d[k]!.na
theorem NdS.bc {W W':World} {f:FD} {B:List (Nat × Nat)} {ja:Option Addr} {d:Array YA} {i:Nat} (h:NdS W f B ja d i) (hb:BC (fun b=>jaB ja=some b) W W'):NdS W' f B ja d i:=⟨h.base,fun k hk=>⟨(h.nd k hk).1,fun W2 h2=>(h.nd k hk).2 W2 (hb.then h2)⟩⟩
theorem NdS.start (W:World) (f:FD) (B:List (Nat × Nat)) (ja:Option Addr):NdS W f B ja (B.map (mkJ f)).toArray 0:=by
 refine⟨fun k hk=>?_,fun k hk=>oq⟩
 have:(B.map (mkJ f)).toArray[k]! = mkJ f (B.getD k (0,0)):=by
  rw[getElem!_pos _ k (by simpa using hk)]
  simp[Zf,hk]
 rw[this]
 exact⟨rfl,rfl,rfl,rfl⟩
theorem VV {d:Array YA} {i:Nat} (hi:i<d.size) (x:YA) (k:Nat):(d.setIfInBounds i x)[k]! = if k=i then x else d[k]!:=by
 by_cases h:k=i
 ·subst h;rw[Z2 rfl,getElem!_set_same _ _ _ hi]
 rw[Z1 h]
 by_cases hk:k<d.size
 ·rw[getElem!_pos d k hk,getElem!_pos (d.setIfInBounds i x) k (by simpa using hk),Array.getElem_setIfInBounds_ne (by simpa using hk) (fun e=>h e.symm)]
 rw[getElem!_neg d k hk,getElem!_neg (d.setIfInBounds i x) k (by simpa using hk)]
theorem NdS.put {W W':World} {f:FD} {B:List (Nat × Nat)} {ja:Option Addr} {d:Array YA} {i:Nat} (h:NdS W f B ja d i) (hb:BC (fun b=>jaB ja=some b) W W') (hi:i<d.size) (hsz:d.size=B.length) {a:Option Addr} {c:Nat} (hr:∀W2,BC (fun b=>jaB ja=some b) W' W2→Row Uz 1 W2 (YT f B i) a) :
  NdS W' f B ja (d.setIfInBounds i { d[i]! with na:=a,nl:=(YT f B i).length,nc:=c }) (i+1):=by
 refine⟨fun k hk=>?_,fun k hk=>?_⟩
 ·rw[VV hi]
  by_cases e:k=i
  ·subst e;rw[Z2 rfl];exact h.base k hk
  rw[Z1 e];exact h.base k hk
 rw[VV hi]
 by_cases e:k=i
 ·subst e;rw[Z2 rfl];exact⟨rfl,hr⟩
 rw[Z1 e];exact⟨(h.nd k oq).1,fun W2 h2=>(h.nd k oq).2 W2 (hb.then h2)⟩
theorem gW {W:World} {base:Nat} {a:Option Addr} {n c:Nat} {l:List Int} (h:QV W base (.slice a n c) l) {S:Nat→Prop} (hS:∀k,S k→k<base) {W':World} (hb:BC S W W'):n=l.length∧Row Uz 1 W' l a:=by
 have h2:=hb.own h (fun k hk hs=>by have h1:=hS k hs;have h3:=Qy h k hk;omega)
 rcases h2.2 with ⟨e,hn⟩|⟨g,cap,cur,e,_,hg,_⟩
 ·cases e
  rw[Yd hn]
  exact⟨rfl,.inl rfl⟩
 injection e with e1 e2 e3
 subst e1
 subst e2
 subst e3
 refine⟨rfl,.inr ⟨g,0,rfl,Zb hg,fun j hj=>?_⟩⟩
 rw[Z8,ZD]
 refine(World.ownsRow.cellAt h2 j (by rw[Z8];exact hj)).trans ?_
 rw[ints_at hj,Zf,Ze hj]
 rfl
end Go.Proofs.YtgigilkpndhddaaGreatDoor.syn
