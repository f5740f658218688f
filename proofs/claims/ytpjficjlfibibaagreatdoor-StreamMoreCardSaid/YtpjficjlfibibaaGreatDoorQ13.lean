/-
  Parts of the proof: Gath2.
-/
import Derived.Deep.Upon
import Derived.Deep.RegionHeld3
import Derived.Test.YtpjficjlfibibaaGreatDoorQ04
namespace Go.Proofs.YtpjficjlfibibaaGreatDoor.syn
open Go.RowKit
set_option linter.unusedVariables false
set_option linter.unusedSimpArgs false
theorem cells3g {w:World} {b:Nat} {v0 v1 v2:Value} {t:TypeId} (h:w.heap[b]? = some (.cells #[v0,v1,v2] t (0,0))) :
  (w.cell? ⟨b,0,none⟩ = some v0 ∧ w.cell? ⟨b,1,none⟩ = some v1 ∧ w.cell? ⟨b,2,none⟩ = some v2) ∧ ∀ o,w.frozen? ⟨b,o,none⟩ = false:=by
 refine ⟨⟨?_,?_,?_⟩,?_⟩
 all_goals first | (intro o;simp [World.frozen?,h]) | simp [World.cell?,h]
theorem info_partsg {P:Program} {e:TypeId} {z:Value} {n b:Nat} (h:(P.info? e).map (fun i => (i.zero,i.size,i.bytes)) = some (some z,n,b)):∃ i,P.info? e = some i ∧ i.zero = some z ∧ i.size = n ∧ i.bytes = b:=by
 cases hi:P.info? e with
 | none => rw [hi] at h;cases h
 | some i => rw [hi] at h;simp at h;exact ⟨i,rfl,h.1,h.2.1,h.2.2⟩
theorem infoEx:(Tryz.prog.info? 95).map (fun i => (i.zero,i.size,i.bytes)) = some (some (.agg #[.int .i64 0,.string ⟨#[]⟩,.int .i64 0,.int .i64 0,.slice none 0 0,.int .i64 0]),6,72):=by kernel_rfl
theorem infoOp:(Tryz.prog.info? 314).map (fun i => (i.zero,i.size,i.bytes)) = some (some (.agg #[.pointer none,.int .i64 0,.int .i64 0]),3,24):=by kernel_rfl
theorem own_low {w:World} {base:Nat} {e:TypeId} {size:Nat} {v:Value} {n:Nat} {xs:List Value} (h:w.ownsRow base e size v n xs) {b:Nat} (hb:b < base):some b ≠ v.ownBlock:=by
 intro e
 have:=(h.lt b e.symm).1
 omega
theorem own_other {w:World} {base:Nat} {e t:TypeId} {size:Nat} {v:Value} {n:Nat} {xs:List Value} (h:w.ownsRow base e size v n xs) {b:Nat} {cs:Array Value} {fr:Nat × Nat} (hb:w.heap[b]? = some (.cells cs t fr)) (ht:t ≠ e):some b ≠ v.ownBlock:=by
 intro he
 rcases h.2 with ⟨h1,_⟩ | ⟨g,cap,cur,h1,_,hg,_⟩
 ·rw [h1] at he;cases he
 ·rw [h1] at he
  injection he with he
  have he:b = g:=he
  subst he
  rw [hb] at hg
  injection hg with hg
  injection hg with _ hg _
  exact ht hg
def zEx:List Value:=[.int .i64 0,.string ⟨#[]⟩,.int .i64 0,.int .i64 0,.slice none 0 0,.int .i64 0]
structure ParF (w w4:World) (gb b o gg nn:Nat) (vn:Value) (k:Int) (nm:ByteArray) (n d a:Int):Prop where
 ne:(gg ≠ gb ∧ gg ≠ b) ∧ ¬ gb = gg ∧ ¬ b = gg
 c0:w4.cell? ⟨b,o,none⟩ = some (.int .i64 k)
 c1:w4.cell? ⟨b,o + 1,none⟩ = some (.string nm)
 c2:w4.cell? ⟨b,o + 2,none⟩ = some (.int .i64 n)
 c3:w4.cell? ⟨b,o + 3,none⟩ = some (.int .i64 d)
 c5:w4.cell? ⟨b,o + 5,none⟩ = some (.int .i64 a)
 g0:w4.cell? ⟨gb,0,none⟩ = some vn
 gf:w4.frozen? ⟨gb,0,none⟩ = false
 f:w4.frozen? ⟨gg,nn * 6,none⟩ = false ∧ w4.frozen? ⟨gg,nn * 6 + 1,none⟩ = false ∧ w4.frozen? ⟨gg,nn * 6 + 2,none⟩ = false ∧ w4.frozen? ⟨gg,nn * 6 + 3,none⟩ = false ∧ w4.frozen? ⟨gg,nn * 6 + 4,none⟩ = false ∧ w4.frozen? ⟨gg,nn * 6 + 5,none⟩ = false
 q:w4.cell? ⟨gg,nn * 6,none⟩ = some (.int .i64 0) ∧ w4.cell? ⟨gg,nn * 6 + 1,none⟩ = some (.string ⟨#[]⟩) ∧ w4.cell? ⟨gg,nn * 6 + 2,none⟩ = some (.int .i64 0) ∧ w4.cell? ⟨gg,nn * 6 + 3,none⟩ = some (.int .i64 0) ∧ w4.cell? ⟨gg,nn * 6 + 4,none⟩ = some (.slice none 0 0) ∧ w4.cell? ⟨gg,nn * 6 + 5,none⟩ = some (.int .i64 0)
theorem par_facts {w w4:World} {base gb b o nn gg cap:Nat} {vn vo vm:Value} {xs:List Value} {ob:Obj} {k n d a:Int} {nm:ByteArray} (hb:w.heap[gb]? = some (.cells #[vn,vo,vm] 300 (0,0))) (hon:w.ownsRow base 95 6 vn nn xs) (hlt:b < base) (hbase:base ≤ w.heap.size)
  (d0:w.cell? ⟨b,o,none⟩ = some (.int .i64 k)) (d1:w.cell? ⟨b,o + 1,none⟩ = some (.string nm)) (d2:w.cell? ⟨b,o + 2,none⟩ = some (.int .i64 n)) (d3:w.cell? ⟨b,o + 3,none⟩ = some (.int .i64 d)) (d5:w.cell? ⟨b,o + 5,none⟩ = some (.int .i64 a))
  (hown:w4.ownsRow base 95 6 (.slice (some ⟨gg,0,none⟩) (nn + 1) cap) (nn + 1) (xs ++ zEx)) (hg:((w.drew).alloc ob).grownBy w4 vn.ownBlock) (hat:vn.ownBlock = some gg ∨ gg = w.heap.size + 1):ParF w w4 gb b o gg nn vn k nm n d a:=by
 have hgl:=lt_of_block hb
 have e1:=own_other hon hb (by decide)
 have e2:=own_low hon hlt
 have n1:gg ≠ gb:=by
  intro e
  rcases hat with h | h
  ·rw [e] at h;exact e1 h.symm
  ·omega
 have n2:gg ≠ b:=by
  intro e
  rcases hat with h | h
  ·rw [e] at h;exact e2 h.symm
  ·omega
 obtain ⟨⟨x0,x1,x2⟩,xf⟩:=cells3g hb
 have kc:∀ (bb oo:Nat),bb < w.heap.size → some bb ≠ vn.ownBlock → w4.cell? ⟨bb,oo,none⟩ = w.cell? ⟨bb,oo,none⟩:=fun bb oo h1 h2 => (hg.cell_far ⟨bb,oo,none⟩ (by simp;omega) h2).trans ((Below.refl w.heap.size w).drew.alloc (by exact Nat.le_refl _) ob |>.cell (p:=⟨bb,oo,none⟩) h1)
 have kf:∀ (bb oo:Nat),bb < w.heap.size → some bb ≠ vn.ownBlock → w4.frozen? ⟨bb,oo,none⟩ = w.frozen? ⟨bb,oo,none⟩:=fun bb oo h1 h2 => (hg.frozen_far ⟨bb,oo,none⟩ (by simp;omega) h2).trans ((Below.refl w.heap.size w).drew.alloc (by exact Nat.le_refl _) ob |>.frozen (p:=⟨bb,oo,none⟩) h1)
 have ff:=fun j => hown.frozenAt j
 have qq:∀ j,j < 6 → w4.cell? ⟨gg,nn * 6 + j,none⟩ = zEx[j]?:=by
  intro j hj
  rw [hown.cellAt _ oq,List.getElem?_append_right (by rw [hon.1];omega),hon.1,Nat.add_sub_cancel_left]
 refine ⟨⟨⟨n1,n2⟩,fun e => n1 e.symm,fun e => n2 e.symm⟩,(kc b _ oq e2).trans d0,(kc b _ oq e2).trans d1,(kc b _ oq e2).trans d2,(kc b _ oq e2).trans d3,(kc b _ oq e2).trans d5,(kc gb _ hgl e1).trans x0,(kf gb _ hgl e1).trans (xf 0),⟨ff _,ff _,ff _,ff _,ff _,ff _⟩,⟨qq 0 oq,qq 1 oq,qq 2 oq,qq 3 oq,qq 4 oq,qq 5 oq⟩⟩
def s6 (w:World) (g o:Nat) (v0 v1 v2 v3 v4 v5:Value):World:=(((((w.setCell ⟨g,o,none⟩ v0).setCell ⟨g,o + 1,none⟩ v1).setCell ⟨g,o + 2,none⟩ v2).setCell ⟨g,o + 3,none⟩ v3).setCell ⟨g,o + 4,none⟩ v4).setCell ⟨g,o + 5,none⟩ v5
theorem s6_own {w:World} {base:Nat} {e:TypeId} {size g n cap:Nat} {ys:List Value} (h:w.ownsRow base e size (.slice (some ⟨g,0,none⟩) n cap) n ys) (o:Nat) (v0 v1 v2 v3 v4 v5:Value) :
  (s6 w g o v0 v1 v2 v3 v4 v5).ownsRow base e size (.slice (some ⟨g,0,none⟩) n cap) n ((((((ys.set o v0).set (o + 1) v1).set (o + 2) v2).set (o + 3) v3).set (o + 4) v4).set (o + 5) v5) :=
 (((((((h.stored o v0).1).stored (o + 1) v1).1.stored (o + 2) v2).1.stored (o + 3) v3).1.stored (o + 4) v4).1.stored (o + 5) v5).1
theorem s6_heap (w:World) (g o:Nat) (v0 v1 v2 v3 v4 v5:Value) (k:Nat) (hk:k ≠ g):(s6 w g o v0 v1 v2 v3 v4 v5).heap[k]? = w.heap[k]?:=by
 have hs:∀ (w:World) (o:Nat) (v:Value),(w.setCell ⟨g,o,none⟩ v).heap[k]? = w.heap[k]?:=fun w o v => heap_setCell_other w ⟨g,o,none⟩ k v hk
 unfold s6
 simp only [hs]
theorem set_frame (w:World) (a:Addr) (v:Value):(w.setCell a v).os = w.os ∧ (w.setCell a v).tape = w.tape ∧ (w.setCell a v).output = w.output:=⟨rfl,rfl,rfl⟩
theorem s6_frame (w:World) (g o:Nat) (v0 v1 v2 v3 v4 v5:Value):(s6 w g o v0 v1 v2 v3 v4 v5).os = w.os ∧ (s6 w g o v0 v1 v2 v3 v4 v5).tape = w.tape ∧ (s6 w g o v0 v1 v2 v3 v4 v5).output = w.output:=by
 unfold s6;simp only [set_frame,and_self]
theorem s6_size (w:World) (g o:Nat) (v0 v1 v2 v3 v4 v5:Value):(s6 w g o v0 v1 v2 v3 v4 v5).heap.size = w.heap.size:=by simp [s6,World.setCell]
theorem set6 {xs:List Value} {n:Nat} (hx:xs.length = n * 6) (z0 z1 z2 z3 z4 z5 v0 v1 v2 v3 v4 v5:Value) :
  ((((((xs ++ [z0,z1,z2,z3,z4,z5]).set (n * 6) v0).set (n * 6 + 1) v1).set (n * 6 + 2) v2).set (n * 6 + 3) v3).set (n * 6 + 4) v4).set (n * 6 + 5) v5 = xs ++ [v0,v1,v2,v3,v4,v5]:=by
 have e:∀ (i:Nat) (l:List Value) (v:Value),(xs ++ l).set (n * 6 + i) v = xs ++ l.set i v:=fun i l v => by rw [List.set_append_right _ _ oq];congr 2;omega
 have e0:=e 0
 simp only [Nat.add_zero] at e0
 rw [e0,e,e,e,e,e]
 rfl
theorem gb_set {w:World} {gb mb:Nat} {vn vo:Value} (h:w.heap[gb]? = some (gbObj vn vo mb)) (v':Value):(w.setCell ⟨gb,0,none⟩ v').heap[gb]? = some (gbObj v' vo mb) :=
 heap_setCell_same w gb 0 _ _ v' h
theorem gb_set1 {w:World} {gb mb:Nat} {vn vo:Value} (h:w.heap[gb]? = some (gbObj vn vo mb)) (v':Value):(w.setCell ⟨gb,1,none⟩ v').heap[gb]? = some (gbObj vn v' mb) :=
 heap_setCell_same w gb 1 _ _ v' h
theorem nmr_one {k:Int} {nm:ByteArray} {n d a:Int}:NmR [.int .i64 k,.string nm,.int .i64 n,.int .i64 d,.slice none 0 0,.int .i64 a] 1 :=
 ⟨by simp [Value.oneCell'],fun j hj => by obtain rfl:j = 0:=oq;exact ⟨k,nm,n,d,a,rfl,rfl,rfl,rfl,rfl,rfl⟩⟩
theorem par_close {W1 w w4:World} {gb mb nn gg cap:Nat} {stk:List SE} {vn vo:Value} {xs:List Value} {ob:Obj} (h:GW W1 gb mb nn stk w) (hgb:w.heap[gb]? = some (gbObj vn vo mb)) (hon:w.ownsRow W1.heap.size 95 6 vn nn xs) (hnm:NmR xs nn)
  (hown:w4.ownsRow W1.heap.size 95 6 (.slice (some ⟨gg,0,none⟩) (nn + 1) cap) (nn + 1) (xs ++ zEx)) (hg:((w.drew).alloc ob).grownBy w4 vn.ownBlock) (hat:vn.ownBlock = some gg ∨ gg = w.heap.size + 1) (hne:gg ≠ gb) (k:Int) (nm:ByteArray) (n d a:Int) :
  GW W1 gb mb (nn + 1) stk ((s6 w4 gg (nn * 6) (.int .i64 k) (.string nm) (.int .i64 n) (.int .i64 d) (.slice none 0 0) (.int .i64 a)).setCell ⟨gb,0,none⟩ (.slice (some ⟨gg,0,none⟩) (nn + 1) cap)) ∧
  GW W1 gb mb (nn + 1) stk (s6 (w4.setCell ⟨gb,0,none⟩ (.slice (some ⟨gg,0,none⟩) (nn + 1) cap)) gg (nn * 6) (.int .i64 k) (.string nm) (.int .i64 n) (.int .i64 d) (.slice none 0 0) (.int .i64 a)):=by
 have hgl:=lt_of_block hgb
 have e1:=own_other hon hgb (by decide)
 have hal:∀ j,j < w.heap.size → ((w.drew).alloc ob).heap[j]? = w.heap[j]?:=fun j hj => Below.heap_alloc w.drew ob j hj
 have h4b:∀ j,j < w.heap.size → vn.ownBlock ≠ some j → w4.heap[j]? = w.heap[j]?:=fun j hj hn => (hg.block j (by simp;omega) (fun e => hn e.symm)).trans (hal j hj)
 have hgb4:w4.heap[gb]? = some (gbObj vn vo mb):=(h4b gb hgl (fun e => e1 e.symm)).trans hgb
 have hs4:w.heap.size ≤ w4.heap.size:=by have:=hg.size;simp at this;omega
 have hkg:∀ j,j < w.heap.size → ¬ (j = gb ∨ vn.ownBlock = some j) → j ≠ gg:=by
  intro j hj hn e
  rcases hat with h1 | h1
  ·exact hn (.inr (by rw [e];exact h1))
  ·omega
 refine ⟨h.names hgb hon ⟨?_,?_,?_,?_,fun j hj hn => ?_⟩ (gb_set ((s6_heap w4 gg _ _ _ _ _ _ _ gb (fun e => hne e.symm)).trans hgb4) _) (xs':=xs ++ [.int .i64 k,.string nm,.int .i64 n,.int .i64 d,.slice none 0 0,.int .i64 a]) ?_ (hnm.snoc hon.1 nmr_one) oq,
  h.names hgb hon ⟨?_,?_,?_,?_,fun j hj hn => ?_⟩ ((s6_heap _ gg _ _ _ _ _ _ _ gb (fun e => hne e.symm)).trans (gb_set hgb4 _)) (xs':=xs ++ [.int .i64 k,.string nm,.int .i64 n,.int .i64 d,.slice none 0 0,.int .i64 a]) ?_ (hnm.snoc hon.1 nmr_one) oq⟩
 ·exact ((set_frame _ _ _).1.trans (s6_frame _ _ _ _ _ _ _ _ _).1).trans hg.os
 ·exact ((set_frame _ _ _).2.1.trans (s6_frame _ _ _ _ _ _ _ _ _).2.1).trans hg.tape
 ·exact ((set_frame _ _ _).2.2.trans (s6_frame _ _ _ _ _ _ _ _ _).2.2).trans hg.output
 ·rw [show ((s6 w4 gg (nn * 6) (.int .i64 k) (.string nm) (.int .i64 n) (.int .i64 d) (.slice none 0 0) (.int .i64 a)).setCell ⟨gb,0,none⟩ (.slice (some ⟨gg,0,none⟩) (nn + 1) cap)).heap.size = w4.heap.size by rw [← s6_size w4 gg (nn * 6) (.int .i64 k) (.string nm) (.int .i64 n) (.int .i64 d) (.slice none 0 0) (.int .i64 a)];simp [World.setCell]];exact hs4
 ·rw [heap_setCell_other _ _ _ _ (show j ≠ gb from fun e => hn (.inl e)),s6_heap _ _ _ _ _ _ _ _ _ _ (hkg j hj hn)]
  exact h4b j hj (fun e => hn (.inr e))
 ·have:=s6_own hown (nn * 6) (.int .i64 k) (.string nm) (.int .i64 n) (.int .i64 d) (.slice none 0 0) (.int .i64 a)
  rw [zEx,set6 hon.1] at this
  exact ownsRow_to this fun j hj => heap_setCell_other _ _ _ _ (fun e => hne (by have:some gg = some j:=hj;injection this with this;rw [this];exact e))
 ·exact ((s6_frame _ _ _ _ _ _ _ _ _).1.trans (set_frame _ _ _).1).trans hg.os
 ·exact ((s6_frame _ _ _ _ _ _ _ _ _).2.1.trans (set_frame _ _ _).2.1).trans hg.tape
 ·exact ((s6_frame _ _ _ _ _ _ _ _ _).2.2.trans (set_frame _ _ _).2.2).trans hg.output
 ·rw [s6_size];simpa [World.setCell] using hs4
 ·rw [s6_heap _ _ _ _ _ _ _ _ _ _ (hkg j hj hn),heap_setCell_other _ _ _ _ (show j ≠ gb from fun e => hn (.inl e))]
  exact h4b j hj (fun e => hn (.inr e))
 ·have hown':(w4.setCell ⟨gb,0,none⟩ (.slice (some ⟨gg,0,none⟩) (nn + 1) cap)).ownsRow W1.heap.size 95 6 (.slice (some ⟨gg,0,none⟩) (nn + 1) cap) (nn + 1) (xs ++ zEx) :=
   ownsRow_to hown fun j hj => heap_setCell_other _ _ _ _ (fun e => hne (by have:some gg = some j:=hj;injection this with this;rw [this];exact e))
  have:=s6_own hown' (nn * 6) (.int .i64 k) (.string nm) (.int .i64 n) (.int .i64 d) (.slice none 0 0) (.int .i64 a)
  rw [zEx,set6 hon.1] at this
  exact this
def SPar (b o:Nat) (k:Int) (nm:ByteArray) (n d a:Int) (w':World):Prop:=w'.cell? ⟨b,o,none⟩ = some (.int .i64 k) ∧ w'.cell? ⟨b,o + 1,none⟩ = some (.string nm) ∧ w'.cell? ⟨b,o + 2,none⟩ = some (.int .i64 n) ∧ w'.cell? ⟨b,o + 3,none⟩ = some (.int .i64 d) ∧ w'.cell? ⟨b,o + 5,none⟩ = some (.int .i64 a)
theorem SPar.set {b o:Nat} {k:Int} {nm:ByteArray} {n d a:Int} {w':World} (h:SPar b o k nm n d a w') {g j:Nat} (hg:¬ b = g) (u:Value):SPar b o k nm n d a (w'.setCell ⟨g,j,none⟩ u):=by
 have hc:∀ o,(w'.setCell ⟨g,j,none⟩ u).cell? ⟨b,o,none⟩ = w'.cell? ⟨b,o,none⟩:=fun o => World.cell?_setCell_far _ _ _ _ (fun e => hg e.symm)
 exact ⟨(hc _).trans h.1,(hc _).trans h.2.1,(hc _).trans h.2.2.1,(hc _).trans h.2.2.2.1,(hc _).trans h.2.2.2.2⟩
theorem SPar.drew {b o:Nat} {k:Int} {nm:ByteArray} {n d a:Int} {w':World} (h:SPar b o k nm n d a w'):SPar b o k nm n d a w'.drew:=h
theorem SPar.alloc {b o:Nat} {k:Int} {nm:ByteArray} {n d a:Int} {w':World} (h:SPar b o k nm n d a w') (ob:Obj):SPar b o k nm n d a (w'.alloc ob):=by
 have hb:b < w'.heap.size:=World.block_lt_of_cell? w' ⟨b,o,none⟩ h.1
 have hc:∀ o,(w'.alloc ob).cell? ⟨b,o,none⟩ = w'.cell? ⟨b,o,none⟩:=fun o => World.cell?_alloc_lt _ _ _ hb
 exact ⟨(hc _).trans h.1,(hc _).trans h.2.1,(hc _).trans h.2.2.1,(hc _).trans h.2.2.2.1,(hc _).trans h.2.2.2.2⟩
set_option maxRecDepth 100000 in
set_option maxHeartbeats 1000000 in
theorem meet_par {W1 w:World} {gb mb nn:Nat} {stk:List SE} (h:GW W1 gb mb nn stk w) {b o:Nat} {e:PE} (he:ExpAt W1 b o e) (hk:e.k = 11) (hn:nn ≤ 60000000000) :
  Calls Tryz.prog 198 #[.pointer (some ⟨gb,0,none⟩),.pointer (some ⟨b,o,none⟩)] w fun x w' => x = .returned (.tuple #[]) ∧ GW W1 gb mb (nn + 1) stk w':=by
 obtain ⟨vn,vo,xs,hgbb,hon,hnm,hoo⟩:=h.sta
 have HL:=hid h.low
 have HM:=hid h.map
 have hgb:=h.hgb
 have hmb:=h.hmb
 have HS:=hid h.stk
 have HON:=hid hon
 have HNM:=hid hnm
 have HOO:=hid hoo
 have HG:=hid hgbb
 obtain ⟨⟨g0,g1,g2⟩,gf⟩:=cells3g hgbb
 obtain ⟨k,nm,n,d,args,a⟩:=e
 obtain ⟨hlt,hfz,c0,c1,c2,c3,c5,⟨ad,cap,c4,_⟩,_⟩:=he
 simp only at hk c0 c1 c2 c3 c5 c4
 subst hk
 have hc:=fun o => h.low.cell (p:=⟨b,o,none⟩) hlt
 have d0:=(hc o).trans c0
 have d1:=(hc (o + 1)).trans c1
 have d2:=(hc (o + 2)).trans c2
 have d3:=(hc (o + 3)).trans c3
 have d5:=(hc (o + 5)).trans c5
 have hsz:=h.low.size
 have hgl:=lt_of_block hgbb
 obtain ⟨i0,hi0,hi1,hi2,hi3⟩:=info_partsg infoEx
 have HI:=hid (And.intro hi0 (And.intro hi1 (And.intro hi2 hi3)))
 obtain ⟨ln,cn,hvn⟩:∃ ad cn,vn = .slice ad nn cn:=by
  rcases hon.2 with ⟨h1,h2⟩ | ⟨g,cap,cur,h1,_⟩
  ·exact ⟨none,0,by rw [h1,h2]⟩
  ·exact ⟨_,cap,h1⟩
 subst hvn
 have HPF:=hid (fun (w4:World) (gg cap:Nat) hown hg hat => par_facts (w4:=w4) (gg:=gg) (cap:=cap) (ob:=.cells #[.int .i64 0,.string ⟨#[]⟩,.int .i64 0,.int .i64 0,.slice none 0 0,.int .i64 0] 95) hgbb hon hlt hsz d0 d1 d2 d3 d5 hown hg hat)
 have HPC:=hid (fun (w4:World) (gg cap:Nat) hown hg hat hne => par_close (w4:=w4) (gg:=gg) (cap:=cap) (ob:=.cells #[.int .i64 0,.string ⟨#[]⟩,.int .i64 0,.int .i64 0,.slice none 0 0,.int .i64 0] 95) h hgbb hon hnm hown hg hat hne 11 nm n d a)
 clear h hi0 hi1 hi2 hi3 hc c0 c1 c2 c3 c4 c5 hon hnm hoo hgbb hfz
 have hnn0:(0:Int) ≤ (nn:Int):=by omega
 have hnn1:(nn:Int) < (nn:Int) + 1:=by omega
 have HB:=hid (And.intro hn (And.intro hgl (And.intro hlt hsz)))
 clear hn
 go_enter Tryz.func198,Tryz.ntmps198
 go_wp2
 have KA:=hid (show SPar b o 11 nm n d a w from ⟨d0,d1,d2,d3,d5⟩)
 have hbgb:¬ b = gb:=by omega
 clear d0 d1 d2 d3 d5
 refine wp_region_held_drew (S:=fun w' => w'.cell? ⟨b,o,none⟩ = some (.int .i64 11) ∧ w'.cell? ⟨b,o + 1,none⟩ = some (.string nm) ∧ w'.cell? ⟨b,o + 2,none⟩ = some (.int .i64 n) ∧ w'.cell? ⟨b,o + 3,none⟩ = some (.int .i64 d) ∧ w'.cell? ⟨b,o + 5,none⟩ = some (.int .i64 a)) (by kernel_rfl) (by (show SPar b o 11 nm n d a _;repeat (first | with_reducible exact KA.out | with_reducible exact KC.out | with_reducible refine SPar.drew ?_ | with_reducible refine SPar.alloc ?_ _ | (with_reducible refine SPar.set ?_ hbn _) | (with_reducible refine SPar.set ?_ hbgb _)))) (fun hHeld => ?_)
 refine tk 0 (oi:=?a1) (v:=?b1) ?c1 ?e1 ?f1 (by assumption) ?r1 ?d1
 case c1=>(simp only [tA,tB,tC];rfl)
 case d1=>exact fun _ _ _ h=>h
 case e1=>rfl
 case f1=>(intro w hSw;(try dsimp only at hSw);go_simp;try with_reducible rfl)
 try simp only [Act.put,sA,sB,sC]
 refine tk 1 (oi:=?a2) (v:=?b2) ?c2 ?e2 ?f2 (by assumption) ?r2 ?d2
 case c2=>(simp only [tA,tB,tC];rfl)
 case d2=>exact fun _ _ _ h=>h
 case e2=>rfl
 case f2=>(intro w hSw;(try dsimp only at hSw);go_simp;try with_reducible rfl)
 try simp only [Act.put,sA,sB,sC]
 refine tk 2 (oi:=?a3) (v:=?b3) ?c3 ?e3 ?f3 (by assumption) ?r3 ?d3
 case c3=>(simp only [tA,tB,tC];rfl)
 case d3=>exact fun _ _ _ h=>h
 case e3=>rfl
 case f3=>(intro w hSw;(try dsimp only at hSw);go_simp;try with_reducible rfl)
 try simp only [Act.put,sA,sB,sC]
 refine tk 4 (oi:=?a4) (v:=?b4) ?c4 ?e4 ?f4 (by assumption) ?r4 ?d4
 case c4=>(simp only [tA,tB,tC];rfl)
 case d4=>exact fun _ _ _ h=>h
 case e4=>rfl
 case f4=>(intro w hSw;(try dsimp only at hSw);go_simp;try with_reducible rfl)
 try simp only [Act.put,sA,sB,sC]
 refine tk 5 (oi:=?a5) (v:=?b5) ?c5 ?e5 ?f5 (by assumption) ?r5 ?d5
 case c5=>(simp only [tA,tB,tC];rfl)
 case d5=>exact fun _ _ _ h=>h
 case e5=>rfl
 case f5=>(intro w hSw;(try dsimp only at hSw);go_simp;try with_reducible rfl)
 try simp only [Act.put,sA,sB,sC]
 refine tk 6 (oi:=?a6) (v:=?b6) ?c6 ?e6 ?f6 (by assumption) ?r6 ?d6
 case c6=>(simp only [tA,tB,tC];rfl)
 case d6=>exact fun _ _ _ h=>h
 case e6=>rfl
 case f6=>(intro w hSw;(try dsimp only at hSw);go_simp;try with_reducible rfl)
 try simp only [Act.put,sA,sB,sC]
 refine tk 7 (oi:=?a7) (v:=?b7) ?c7 ?e7 ?f7 (by assumption) ?r7 ?d7
 case c7=>(simp only [tA,tB,tC];rfl)
 case d7=>exact fun _ _ _ h=>h
 case e7=>rfl
 case f7=>(intro w hSw;(try dsimp only at hSw);go_simp;try with_reducible rfl)
 try simp only [Act.put,sA,sB,sC]
 refine tk 8 (oi:=?a8) (v:=?b8) ?c8 ?e8 ?f8 (by assumption) ?r8 ?d8
 case c8=>(simp only [tA,tB,tC];rfl)
 case d8=>exact fun _ _ _ h=>h
 case e8=>rfl
 case f8=>(intro w hSw;(try dsimp only at hSw);go_simp;try with_reducible rfl)
 try simp only [Act.put,sA,sB,sC]
 refine tk 9 (oi:=?a9) (v:=?b9) ?c9 ?e9 ?f9 (by assumption) ?r9 ?d9
 case c9=>(simp only [tA,tB,tC];rfl)
 case d9=>exact fun _ _ _ h=>h
 case e9=>rfl
 case f9=>(intro w hSw;(try dsimp only at hSw);go_simp;try with_reducible rfl)
 try simp only [Act.put,sA,sB,sC]
 refine tk 10 (oi:=?a10) (v:=?b10) ?c10 ?e10 ?f10 (by assumption) ?r10 ?d10
 case c10=>(simp only [tA,tB,tC];rfl)
 case d10=>exact fun _ _ _ h=>h
 case e10=>rfl
 case f10=>(intro w hSw;(try dsimp only at hSw);go_simp;try with_reducible rfl)
 try simp only [Act.put,sA,sB,sC]
 refine tk 11 (oi:=?a11) (v:=?b11) ?c11 ?e11 ?f11 (by assumption) ?r11 ?d11
 case c11=>(simp only [tA,tB,tC];rfl)
 case d11=>exact fun _ _ _ h=>h
 case e11=>rfl
 case f11=>(intro w hSw;(try dsimp only at hSw);go_simp;try with_reducible rfl)
 try simp only [Act.put,sA,sB,sC]
 refine tk 12 (oi:=?a12) (v:=?b12) ?c12 ?e12 ?f12 (by assumption) ?r12 ?d12
 case c12=>(simp only [tA,tB,tC];rfl)
 case d12=>exact fun _ _ _ h=>h
 case e12=>rfl
 case f12=>(intro w hSw;(try dsimp only at hSw);go_simp;try with_reducible rfl)
 try simp only [Act.put,sA,sB,sC]
 refine tk 13 (oi:=?a13) (v:=?b13) ?c13 ?e13 ?f13 (by assumption) ?r13 ?d13
 case c13=>(simp only [tA,tB,tC];rfl)
 case d13=>exact fun _ _ _ h=>h
 case e13=>rfl
 case f13=>(intro w hSw;(try dsimp only at hSw);go_simp;try with_reducible rfl)
 try simp only [Act.put,sA,sB,sC]
 refine tk 14 (oi:=?a14) (v:=?b14) ?c14 ?e14 ?f14 (by assumption) ?r14 ?d14
 case c14=>(simp only [tA,tB,tC];rfl)
 case d14=>exact fun _ _ _ h=>h
 case e14=>rfl
 case f14=>(intro w hSw;(try dsimp only at hSw);go_simp;try with_reducible rfl)
 try simp only [Act.put,sA,sB,sC]
 refine tk 15 (oi:=?a15) (v:=?b15) ?c15 ?e15 ?f15 (by assumption) ?r15 ?d15
 case c15=>(simp only [tA,tB,tC];rfl)
 case d15=>exact fun _ _ _ h=>h
 case e15=>rfl
 case f15=>(intro w hSw;(try dsimp only at hSw);go_simp;try with_reducible rfl)
 try simp only [Act.put,sA,sB,sC]
 refine tk 16 (oi:=?a16) (v:=?b16) ?c16 ?e16 ?f16 (by assumption) ?r16 ?d16
 case c16=>(simp only [tA,tB,tC];rfl)
 case d16=>exact fun _ _ _ h=>h
 case e16=>rfl
 case f16=>(intro w hSw;(try dsimp only at hSw);go_simp;try with_reducible rfl)
 try simp only [Act.put,sA,sB,sC]
 refine tk 17 (oi:=?a17) (v:=?b17) ?c17 ?e17 ?f17 (by assumption) ?r17 ?d17
 case c17=>(simp only [tA,tB,tC];rfl)
 case d17=>exact fun _ _ _ h=>h
 case e17=>rfl
 case f17=>(intro w hSw;(try dsimp only at hSw);go_simp;try with_reducible rfl)
 try simp only [Act.put,sA,sB,sC]
 refine tk 18 (oi:=?a18) (v:=?b18) ?c18 ?e18 ?f18 (by assumption) ?r18 ?d18
 case c18=>(simp only [tA,tB,tC];rfl)
 case d18=>exact fun _ _ _ h=>h
 case e18=>rfl
 case f18=>(intro w hSw;(try dsimp only at hSw);go_simp;try with_reducible rfl)
 try simp only [Act.put,sA,sB,sC]
 refine tk 19 (oi:=?a19) (v:=?b19) ?c19 ?e19 ?f19 (by assumption) ?r19 ?d19
 case c19=>(simp only [tA,tB,tC];rfl)
 case d19=>exact fun _ _ _ h=>h
 case e19=>rfl
 case f19=>(intro w hSw;(try dsimp only at hSw);go_simp;try with_reducible rfl)
 try simp only [Act.put,sA,sB,sC]
 refine tk 20 (oi:=?a20) (v:=?b20) ?c20 ?e20 ?f20 (by assumption) ?r20 ?d20
 case c20=>(simp only [tA,tB,tC];rfl)
 case d20=>exact fun _ _ _ h=>h
 case e20=>rfl
 case f20=>(intro w hSw;(try dsimp only at hSw);go_simp;try with_reducible rfl)
 try simp only [Act.put,sA,sB,sC]
 refine tk 21 (oi:=?a21) (v:=?b21) ?c21 ?e21 ?f21 (by assumption) ?r21 ?d21
 case c21=>(simp only [tA,tB,tC];rfl)
 case d21=>exact fun _ _ _ h=>h
 case e21=>rfl
 case f21=>(intro w hSw;(try dsimp only at hSw);go_simp;try with_reducible rfl)
 try simp only [Act.put,sA,sB,sC]
 refine tk 22 (oi:=?a22) (v:=?b22) ?c22 ?e22 ?f22 (by assumption) ?r22 ?d22
 case c22=>(simp only [tA,tB,tC];rfl)
 case d22=>exact fun _ _ _ h=>h
 case e22=>rfl
 case f22=>(intro w hSw;(try dsimp only at hSw);go_simp;try with_reducible rfl)
 try simp only [Act.put,sA,sB,sC]
 refine tk 23 (oi:=?a23) (v:=?b23) ?c23 ?e23 ?f23 (by assumption) ?r23 ?d23
 case c23=>(simp only [tA,tB,tC];rfl)
 case d23=>exact fun _ _ _ h=>h
 case e23=>rfl
 case f23=>(intro w hSw;(try dsimp only at hSw);go_simp;try with_reducible rfl)
 try simp only [Act.put,sA,sB,sC]
 refine tk 24 (oi:=?a24) (v:=?b24) ?c24 ?e24 ?f24 (by assumption) ?r24 ?d24
 case c24=>(simp only [tA,tB,tC];rfl)
 case d24=>exact fun _ _ _ h=>h
 case e24=>rfl
 case f24=>(intro w hSw;(try dsimp only at hSw);go_simp;try with_reducible rfl)
 try simp only [Act.put,sA,sB,sC]
 refine wpAnyH_ready (rs:=[3,26]) (by kernel_rfl) (by simp) ?_
 refine AllReadyH.cons (o:=?o43) ?hi43 (fun K hK => ?_) (AllReadyH.cons (o:=?p43) ?hj43 (fun K hK => ?_) AllReadyH.nil)
 case hi43 => (simp only [tA,tB,tC];rfl)
 case hj43 => (simp only [tA,tB,tC];rfl)
 ·go_simp
  refine hK.out _ _ (by (show SPar b o 11 nm n d a _;repeat (first | with_reducible exact KA.out | with_reducible exact KC.out | with_reducible refine SPar.drew ?_ | with_reducible refine SPar.alloc ?_ _ | (with_reducible refine SPar.set ?_ hbn _) | (with_reducible refine SPar.set ?_ hbgb _)))) (fun hHeld => ?_)
  clear hK K
  try simp only [Act.put,sA,sB,sC]
  refine tk 25 (oi:=?a25) (v:=?b25) ?c25 ?e25 ?f25 (by assumption) ?r25 ?d25
  case c25=>(simp only [tA,tB,tC];rfl)
  case d25=>exact fun _ _ _ h=>h
  case e25=>rfl
  case f25=>(intro w hSw;(try dsimp only at hSw);go_simp;try with_reducible rfl)
  try simp only [Act.put,sA,sB,sC]
  refine wpAnyH_ready (rs:=[26]) (by kernel_rfl) (by simp) ?_
  refine AllReadyH.cons (o:=?o26) ?hi26 (fun K hK => ?_) AllReadyH.nil
  case hi26 => (simp only [tA,tB,tC];rfl)
  go_simp
  refine hK.out _ _ (by (show SPar b o 11 nm n d a _;repeat (first | with_reducible exact KA.out | with_reducible exact KC.out | with_reducible refine SPar.drew ?_ | with_reducible refine SPar.alloc ?_ _ | (with_reducible refine SPar.set ?_ hbn _) | (with_reducible refine SPar.set ?_ hbgb _)))) (fun hHeld => ?_)
  clear hK K
  try simp only [Act.put,sA,sB,sC]
  refine wpAnyH_ready (rs:=[27]) (by kernel_rfl) (by simp) ?_
  refine AllReadyH.cons (o:=?o27) ?hi27 (fun K hK => ?_) AllReadyH.nil
  case hi27 => (simp only [tA,tB,tC];rfl)
  (refine step_append_lies _ (by rfl) _ _ _ (by rfl) W1.heap.size 95 i0 _ 6 72 Tryz.underlying93 HI.out.1 HI.out.2.1 HI.out.2.2.1 HI.out.2.2.2 rfl oq (.slice ln nn cn) nn xs (by rfl) (HON.out.drew.alloc _) ⟨w.heap.size,0,none⟩ 1 1 zEx (by rfl) (by rfl) (World.news_of_block (heap_alloc_new w.drew _)) (by simp [Value.oneCell',zEx]) oq (by have:=HB.out.1;unfold maxLen;omega) (by have:=HB.out.1;omega) (by have:=HB.out.2.2.2;simp;omega) (w.heap.size + 1) (by simp) ?_;intro gg cap w4 hown4 hgrow4 hat4 hlt4;have KP:=HPF.out w4 gg cap hown4 hgrow4 hat4;have HOWN4:=hid hown4;have HGROW4:=hid hgrow4;have HAT4:=hid hat4;clear hown4 hgrow4 hat4;have KC:=hid (show SPar b o 11 nm n d a w4 from ⟨KP.c0,KP.c1,KP.c2,KP.c3,KP.c5⟩);obtain ⟨f0,f1,f2,f3,f4,f5⟩:=KP.f;obtain ⟨q0,q1,q2,q3,q4,q5⟩:=KP.q;have kgf:=KP.gf;have kg0:=KP.g0;obtain ⟨hne,hgn,hbn⟩:=KP.ne;have HNE:=hid hne.1;clear hne KP)
  refine hK.out _ _ (by (show SPar b o 11 nm n d a _;repeat (first | with_reducible exact KA.out | with_reducible exact KC.out | with_reducible refine SPar.drew ?_ | with_reducible refine SPar.alloc ?_ _ | (with_reducible refine SPar.set ?_ hbn _) | (with_reducible refine SPar.set ?_ hbgb _)))) (fun hHeld => ?_)
  clear hK K
  try simp only [Act.put,sA,sB,sC]
  refine tk 28 (oi:=?a28) (v:=?b28) ?c28 ?e28 ?f28 (by assumption) ?r28 ?d28
  case c28=>(simp only [tA,tB,tC];rfl)
  case d28=>exact fun _ _ _ h=>h
  case e28=>rfl
  case f28=>(intro w hSw;(try dsimp only at hSw);go_simp;try with_reducible rfl)
  try simp only [Act.put,sA,sB,sC]
  refine tk 30 (oi:=?a29) (v:=?b29) ?c29 ?e29 ?f29 (by assumption) ?r29 ?d29
  case c29=>(simp only [tA,tB,tC];rfl)
  case d29=>exact fun _ _ _ h=>h
  case e29=>rfl
  case f29=>(intro w hSw;(try dsimp only at hSw);go_simp;try with_reducible rfl)
  try simp only [Act.put,sA,sB,sC]
  refine tk 31 (oi:=?a30) (v:=?b30) ?c30 ?e30 ?f30 (by assumption) ?r30 ?d30
  case c30=>(simp only [tA,tB,tC];rfl)
  case d30=>exact fun _ _ _ h=>h
  case e30=>rfl
  case f30=>(intro w hSw;(try dsimp only at hSw);go_simp;try with_reducible rfl)
  try simp only [Act.put,sA,sB,sC]
  refine wpAnyH_ready (rs:=[29,32]) (by kernel_rfl) (by simp) ?_
  refine AllReadyH.cons (o:=?o33) ?hi33 (fun K hK => ?_) (AllReadyH.cons (o:=?p33) ?hj33 (fun K hK => ?_) AllReadyH.nil)
  case hi33 => (simp only [tA,tB,tC];rfl)
  case hj33 => (simp only [tA,tB,tC];rfl)
  ·go_simp
   refine hK.out _ _ (by (show SPar b o 11 nm n d a _;repeat (first | with_reducible exact KA.out | with_reducible exact KC.out | with_reducible refine SPar.drew ?_ | with_reducible refine SPar.alloc ?_ _ | (with_reducible refine SPar.set ?_ hbn _) | (with_reducible refine SPar.set ?_ hbgb _)))) (fun hHeld => ?_)
   clear hK K
   try simp only [Act.put,sA,sB,sC]
   refine wpAnyH_ready (rs:=[32]) (by kernel_rfl) (by simp) ?_
   refine AllReadyH.cons (o:=?o31) ?hi31 (fun K hK => ?_) AllReadyH.nil
   case hi31 => (simp only [tA,tB,tC];rfl)
   go_simp
   refine hK.out _ _ (by (show SPar b o 11 nm n d a _;repeat (first | with_reducible exact KA.out | with_reducible exact KC.out | with_reducible refine SPar.drew ?_ | with_reducible refine SPar.alloc ?_ _ | (with_reducible refine SPar.set ?_ hbn _) | (with_reducible refine SPar.set ?_ hbgb _)))) (fun hHeld => ?_)
   clear hK K
   try simp only [Act.put,sA,sB,sC]
   refine wpAnyH_done (by kernel_rfl) ?_ _
   (go_wp2;refine bodyPost_ret (v:=.tuple #[]) ?_ rfl ?_;(focus (simp [results,Tryz.results198]));exact ⟨rfl,(HPC.out _ _ _ HOWN4.out HGROW4.out HAT4.out HNE.out).1⟩)
  ·go_simp
   refine hK.out _ _ (by (show SPar b o 11 nm n d a _;repeat (first | with_reducible exact KA.out | with_reducible exact KC.out | with_reducible refine SPar.drew ?_ | with_reducible refine SPar.alloc ?_ _ | (with_reducible refine SPar.set ?_ hbn _) | (with_reducible refine SPar.set ?_ hbgb _)))) (fun hHeld => ?_)
   clear hK K
   try simp only [Act.put,sA,sB,sC]
   refine wpAnyH_ready (rs:=[29]) (by kernel_rfl) (by simp) ?_
   refine AllReadyH.cons (o:=?o32) ?hi32 (fun K hK => ?_) AllReadyH.nil
   case hi32 => (simp only [tA,tB,tC];rfl)
   go_simp
   refine hK.out _ _ (by (show SPar b o 11 nm n d a _;repeat (first | with_reducible exact KA.out | with_reducible exact KC.out | with_reducible refine SPar.drew ?_ | with_reducible refine SPar.alloc ?_ _ | (with_reducible refine SPar.set ?_ hbn _) | (with_reducible refine SPar.set ?_ hbgb _)))) (fun hHeld => ?_)
   clear hK K
   try simp only [Act.put,sA,sB,sC]
   refine wpAnyH_done (by kernel_rfl) ?_ _
   (go_wp2;refine bodyPost_ret (v:=.tuple #[]) ?_ rfl ?_;(focus (simp [results,Tryz.results198]));exact ⟨rfl,(HPC.out _ _ _ HOWN4.out HGROW4.out HAT4.out HNE.out).2⟩)
 ·go_simp
  refine hK.out _ _ (by (show SPar b o 11 nm n d a _;repeat (first | with_reducible exact KA.out | with_reducible exact KC.out | with_reducible refine SPar.drew ?_ | with_reducible refine SPar.alloc ?_ _ | (with_reducible refine SPar.set ?_ hbn _) | (with_reducible refine SPar.set ?_ hbgb _)))) (fun hHeld => ?_)
  clear hK K
  try simp only [Act.put,sA,sB,sC]
  refine wpAnyH_ready (rs:=[3]) (by kernel_rfl) (by simp) ?_
  refine AllReadyH.cons (o:=?o34) ?hi34 (fun K hK => ?_) AllReadyH.nil
  case hi34 => (simp only [tA,tB,tC];rfl)
  go_simp
  refine hK.out _ _ (by (show SPar b o 11 nm n d a _;repeat (first | with_reducible exact KA.out | with_reducible exact KC.out | with_reducible refine SPar.drew ?_ | with_reducible refine SPar.alloc ?_ _ | (with_reducible refine SPar.set ?_ hbn _) | (with_reducible refine SPar.set ?_ hbgb _)))) (fun hHeld => ?_)
  clear hK K
  try simp only [Act.put,sA,sB,sC]
  refine tk 25 (oi:=?a35) (v:=?b35) ?c35 ?e35 ?f35 (by assumption) ?r35 ?d35
  case c35=>(simp only [tA,tB,tC];rfl)
  case d35=>exact fun _ _ _ h=>h
  case e35=>rfl
  case f35=>(intro w hSw;(try dsimp only at hSw);go_simp;try with_reducible rfl)
  try simp only [Act.put,sA,sB,sC]
  refine wpAnyH_ready (rs:=[27]) (by kernel_rfl) (by simp) ?_
  refine AllReadyH.cons (o:=?o36) ?hi36 (fun K hK => ?_) AllReadyH.nil
  case hi36 => (simp only [tA,tB,tC];rfl)
  (refine step_append_lies _ (by rfl) _ _ _ (by rfl) W1.heap.size 95 i0 _ 6 72 Tryz.underlying93 HI.out.1 HI.out.2.1 HI.out.2.2.1 HI.out.2.2.2 rfl oq (.slice ln nn cn) nn xs (by rfl) (HON.out.drew.alloc _) ⟨w.heap.size,0,none⟩ 1 1 zEx (by rfl) (by rfl) (World.news_of_block (heap_alloc_new w.drew _)) (by simp [Value.oneCell',zEx]) oq (by have:=HB.out.1;unfold maxLen;omega) (by have:=HB.out.1;omega) (by have:=HB.out.2.2.2;simp;omega) (w.heap.size + 1) (by simp) ?_;intro gg cap w4 hown4 hgrow4 hat4 hlt4;have KP:=HPF.out w4 gg cap hown4 hgrow4 hat4;have HOWN4:=hid hown4;have HGROW4:=hid hgrow4;have HAT4:=hid hat4;clear hown4 hgrow4 hat4;have KC:=hid (show SPar b o 11 nm n d a w4 from ⟨KP.c0,KP.c1,KP.c2,KP.c3,KP.c5⟩);obtain ⟨f0,f1,f2,f3,f4,f5⟩:=KP.f;obtain ⟨q0,q1,q2,q3,q4,q5⟩:=KP.q;have kgf:=KP.gf;have kg0:=KP.g0;obtain ⟨hne,hgn,hbn⟩:=KP.ne;have HNE:=hid hne.1;clear hne KP)
  refine hK.out _ _ (by (show SPar b o 11 nm n d a _;repeat (first | with_reducible exact KA.out | with_reducible exact KC.out | with_reducible refine SPar.drew ?_ | with_reducible refine SPar.alloc ?_ _ | (with_reducible refine SPar.set ?_ hbn _) | (with_reducible refine SPar.set ?_ hbgb _)))) (fun hHeld => ?_)
  clear hK K
  try simp only [Act.put,sA,sB,sC]
  refine tk 28 (oi:=?a37) (v:=?b37) ?c37 ?e37 ?f37 (by assumption) ?r37 ?d37
  case c37=>(simp only [tA,tB,tC];rfl)
  case d37=>exact fun _ _ _ h=>h
  case e37=>rfl
  case f37=>(intro w hSw;(try dsimp only at hSw);go_simp;try with_reducible rfl)
  try simp only [Act.put,sA,sB,sC]
  refine tk 30 (oi:=?a38) (v:=?b38) ?c38 ?e38 ?f38 (by assumption) ?r38 ?d38
  case c38=>(simp only [tA,tB,tC];rfl)
  case d38=>exact fun _ _ _ h=>h
  case e38=>rfl
  case f38=>(intro w hSw;(try dsimp only at hSw);go_simp;try with_reducible rfl)
  try simp only [Act.put,sA,sB,sC]
  refine tk 31 (oi:=?a39) (v:=?b39) ?c39 ?e39 ?f39 (by assumption) ?r39 ?d39
  case c39=>(simp only [tA,tB,tC];rfl)
  case d39=>exact fun _ _ _ h=>h
  case e39=>rfl
  case f39=>(intro w hSw;(try dsimp only at hSw);go_simp;try with_reducible rfl)
  try simp only [Act.put,sA,sB,sC]
  refine wpAnyH_ready (rs:=[29,32]) (by kernel_rfl) (by simp) ?_
  refine AllReadyH.cons (o:=?o42) ?hi42 (fun K hK => ?_) (AllReadyH.cons (o:=?p42) ?hj42 (fun K hK => ?_) AllReadyH.nil)
  case hi42 => (simp only [tA,tB,tC];rfl)
  case hj42 => (simp only [tA,tB,tC];rfl)
  ·go_simp
   refine hK.out _ _ (by (show SPar b o 11 nm n d a _;repeat (first | with_reducible exact KA.out | with_reducible exact KC.out | with_reducible refine SPar.drew ?_ | with_reducible refine SPar.alloc ?_ _ | (with_reducible refine SPar.set ?_ hbn _) | (with_reducible refine SPar.set ?_ hbgb _)))) (fun hHeld => ?_)
   clear hK K
   try simp only [Act.put,sA,sB,sC]
   refine wpAnyH_ready (rs:=[32]) (by kernel_rfl) (by simp) ?_
   refine AllReadyH.cons (o:=?o40) ?hi40 (fun K hK => ?_) AllReadyH.nil
   case hi40 => (simp only [tA,tB,tC];rfl)
   go_simp
   refine hK.out _ _ (by (show SPar b o 11 nm n d a _;repeat (first | with_reducible exact KA.out | with_reducible exact KC.out | with_reducible refine SPar.drew ?_ | with_reducible refine SPar.alloc ?_ _ | (with_reducible refine SPar.set ?_ hbn _) | (with_reducible refine SPar.set ?_ hbgb _)))) (fun hHeld => ?_)
   clear hK K
   try simp only [Act.put,sA,sB,sC]
   refine wpAnyH_done (by kernel_rfl) ?_ _
   (go_wp2;refine bodyPost_ret (v:=.tuple #[]) ?_ rfl ?_;(focus (simp [results,Tryz.results198]));exact ⟨rfl,(HPC.out _ _ _ HOWN4.out HGROW4.out HAT4.out HNE.out).1⟩)
  ·go_simp
   refine hK.out _ _ (by (show SPar b o 11 nm n d a _;repeat (first | with_reducible exact KA.out | with_reducible exact KC.out | with_reducible refine SPar.drew ?_ | with_reducible refine SPar.alloc ?_ _ | (with_reducible refine SPar.set ?_ hbn _) | (with_reducible refine SPar.set ?_ hbgb _)))) (fun hHeld => ?_)
   clear hK K
   try simp only [Act.put,sA,sB,sC]
   refine wpAnyH_ready (rs:=[29]) (by kernel_rfl) (by simp) ?_
   refine AllReadyH.cons (o:=?o41) ?hi41 (fun K hK => ?_) AllReadyH.nil
   case hi41 => (simp only [tA,tB,tC];rfl)
   go_simp
   refine hK.out _ _ (by (show SPar b o 11 nm n d a _;repeat (first | with_reducible exact KA.out | with_reducible exact KC.out | with_reducible refine SPar.drew ?_ | with_reducible refine SPar.alloc ?_ _ | (with_reducible refine SPar.set ?_ hbn _) | (with_reducible refine SPar.set ?_ hbgb _)))) (fun hHeld => ?_)
   clear hK K
   try simp only [Act.put,sA,sB,sC]
   refine wpAnyH_done (by kernel_rfl) ?_ _
   (go_wp2;refine bodyPost_ret (v:=.tuple #[]) ?_ rfl ?_;(focus (simp [results,Tryz.results198]));exact ⟨rfl,(HPC.out _ _ _ HOWN4.out HGROW4.out HAT4.out HNE.out).2⟩)
end Go.Proofs.YtpjficjlfibibaaGreatDoor.syn
