/-
  Parts of the proof: Flt13, Flt17.
-/
import Derived.Test.YtpjficjlfibibaaGreatDoorQ27
import Derived.Test.YtpjficjlfibibaaGreatDoorQ05
import Derived.Test.YtpjficjlfibibaaGreatDoorQ35
import Derived.Test.YtpjficjlfibibaaGreatDoorQ36
namespace Go.Proofs.YtpjficjlfibibaaGreatDoor.syn
open Go.RowKit Go.Shelf
set_option linter.unusedVariables false
set_option linter.unusedSimpArgs false
theorem ac_news {W:World}:∀ (l:PL) (b o:Nat),AC W l b o → ∃ news:List Value,news.length = l.len * 6 ∧ (∀ j,j < l.len * 6 → news[j]? = W.cell? ⟨b,o + j,none⟩ ∧ (W.cell? ⟨b,o + j,none⟩).isSome) ∧ ∀ u ∈ news,u.oneCell' = true
 | .nil,b,o,_ => ⟨[],by simp [PL.len],fun j h => by simp [PL.len] at h,by simp⟩
 | .cons k nm n d args a tl,b,o,h => by
  obtain ⟨h0,h1,h2,h3,h5,hn,⟨ad,cap,h4,_⟩,ht⟩:=h
  obtain ⟨news,hl,hj,h1c⟩:=ac_news tl b (o + 6) ht
  refine ⟨.int .i64 k :: .string nm :: .int .i64 n :: .int .i64 d :: .slice ad args.len cap :: .int .i64 a :: news,by simp only [List.length_cons,hl,PL.len];omega,?_,?_⟩
  ·intro j hlt
   match j,hlt with
   | 0,_ => exact ⟨h0.symm,by rw [Nat.add_zero,h0];rfl⟩
   | 1,_ => exact ⟨h1.symm,by rw [h1];rfl⟩
   | 2,_ => exact ⟨h2.symm,by rw [h2];rfl⟩
   | 3,_ => exact ⟨h3.symm,by rw [h3];rfl⟩
   | 4,_ => exact ⟨h4.symm,by rw [h4];rfl⟩
   | 5,_ => exact ⟨h5.symm,by rw [h5];rfl⟩
   | j + 6,hlt =>
    have:=hj j (by simp only [PL.len] at hlt;omega)
    rw [show o + 6 + j = o + (j + 6) by omega] at this
    exact this
  ·intro u hu
   simp only [List.mem_cons] at hu
   rcases hu with rfl | rfl | rfl | rfl | rfl | rfl | hu
   ·rfl
   ·rfl
   ·rfl
   ·rfl
   ·rfl
   ·rfl
   ·exact h1c u hu
theorem infoApiExpr:(Tryz.prog.info? 95).map (fun i => (i.zero,i.size,i.bytes)) = some (some (.agg #[.int .i64 0,.string ⟨#[]⟩,.int .i64 0,.int .i64 0,.slice none 0 0,.int .i64 0]),6,72):=by kernel_rfl
theorem own0x (w w3:World) (e:TypeId) (size:Nat) (h:w.heap.size ≤ w3.heap.size):(w3.alloc (.cells #[] e)).ownsRow w.heap.size e size (.slice (some ⟨w3.heap.size,0,none⟩) 0 0) 0 [] :=
 ⟨by simp,.inr ⟨w3.heap.size,0,#[],rfl,h,heap_new w3 _,Nat.le_refl _,by unfold maxLen;omega,by simp,by simp⟩⟩
theorem eqNil (ad:Option Addr) (n cap:Nat) (w:World):(binOp BinOp.eql 93 (.slice ad n cap) (.slice none 0 0)).run Tryz.prog w = .ok (.bool ad.isNone) w:=by cases ad <;> kernel_rfl
def ClE (W0:World) (b o n base:Nat) (v:Value) (w':World):Prop:=∃ ad' cap',v = .slice ad' n cap' ∧ n ≤ cap' ∧ (0 < n → ∃ g cur,ad' = some ⟨g,0,none⟩ ∧ base ≤ g ∧ w'.heap[g]? = some (.cells cur 95 (0,0)) ∧ ∀ j,j < n * 6 → cur[j]? = W0.cell? ⟨b,o + j,none⟩)
set_option maxRecDepth 100000 in
theorem cloneE_any {W0 w:World} (l:PL) (ad:Option Addr) (cap:Nat) (h:AS W0 l ad) (hl:l.len ≤ 1000) (hB:Below W0.heap.size W0 w) :
  Calls Tryz.prog 142 #[.slice ad l.len cap] w fun x w' => (∃ b o v,x = .returned v ∧ (0 < l.len → ad = some ⟨b,o,none⟩) ∧ ClE W0 b o l.len w.heap.size v w') ∧ Below w.heap.size w w':=by
 obtain ⟨i0,hi0,hi1,hi2,hi3⟩:=info_parts infoApiExpr
 cases ad with
 | none =>
  have hl0:l.len = 0:=by
   rcases h with rfl | ⟨b,o,h,_⟩
   ·rfl
   ·cases h
  rw [hl0]
  have hnil:=fun w => eqNil none 0 cap w
  simp only [Option.isNone] at hnil
  go_enter Tryz.func142,Tryz.ntmps142
  go_wp2
  go_ret
  exact ⟨⟨0,0,_,rfl,fun h => absurd h oq,none,0,rfl,Nat.le_refl _,fun h => absurd h oq⟩,bq⟩
 | some adr =>
  obtain ⟨b,o,news,hadr,hnl,hnj,hn1⟩:∃ b o,∃ news:List Value,(0 < l.len → adr = ⟨b,o,none⟩ ∧ b < W0.heap.size) ∧ news.length = l.len * 6 ∧ (∀ j,j < l.len * 6 → news[j]? = W0.cell? ⟨b,o + j,none⟩ ∧ (W0.cell? ⟨b,o + j,none⟩).isSome) ∧ ∀ u ∈ news,u.oneCell' = true:=by
   rcases h with rfl | ⟨b,o,h,hb,hac⟩
   ·exact ⟨0,0,[],fun h => absurd h (by simp [PL.len]),by simp [PL.len],fun j h => by simp [PL.len] at h,by simp⟩
   ·obtain ⟨news,h1,h2,h3⟩:=ac_news l b o hac
    exact ⟨b,o,news,fun _ => ⟨Option.some.inj h,hb⟩,h1,h2,h3⟩
  have hnew:∀ (w':World),Below W0.heap.size W0 w' → ∀ j u,news[j]? = some u → ∃ x:Addr,some adr = some x ∧ w'.cell? (x.add j) = some u:=by
   intro w' hw' j u hju
   have hj:j < l.len * 6:=by rw [← hnl];exact (List.getElem?_eq_some_iff.1 hju).1
   obtain ⟨rfl,hb⟩:=hadr oq
   refine ⟨_,rfl,?_⟩
   rw [show (⟨b,o,none⟩:Addr).add j = ⟨b,o + j,none⟩ from by unfold Addr.add;split <;> simp_all]
   rw [hw'.cell (p:=⟨b,o + j,none⟩) hb,← (hnj j hj).1,hju]
  have hnil:=fun w => eqNil (some adr) l.len cap w
  simp only [Option.isNone] at hnil
  go_enter Tryz.func142,Tryz.ntmps142
  go_wp2_with (refine lite.wpList_append_gen _ (by rfl) _ _ _ (by rfl) w.heap.size 95 i0 _ 6 72 Tryz.underlying93 hi0 hi1 hi2 hi3 rfl oq (.slice (some ⟨w.heap.size,0,none⟩) 0 0) 0 [] (by rfl) (own0x w w _ _ (Nat.le_refl _)) (some adr) l.len cap news (by rfl) hnl (hnew _ ((hB.alloc (by have:=hB.size;omega) _))) hn1 (by unfold maxLen;omega) oq (by simp) ?_;intro v1 w4 hown4 hg4 hl4)
  go_ret
  have hb4:Below w.heap.size w w4:=Below.grown ((Below.refl w.heap.size w).alloc (Nat.le_refl _) (.cells #[] 95)) hg4 (by simp) (fun k e => by simp [Value.ownBlock] at e;omega)
  refine ⟨⟨b,o,v1,rfl,fun h => by rw [(hadr h).1],?_⟩,hb4⟩
  rw [Nat.zero_add,List.nil_append] at hown4
  rcases hown4.2 with ⟨rfl,h0⟩ | ⟨g,cap1,cur,rfl,hbg,hg,hnc,hcm,hcs,htk⟩
  ·exact ⟨none,0,by rw [h0],by omega,fun h => by omega⟩
  ·refine ⟨_,cap1,rfl,hnc,fun h => ⟨g,cur,rfl,hbg,hg,fun j hj => ?_⟩⟩
   rw [← (hnj j hj).1,← htk,List.getElem?_take_of_lt hj,Array.getElem?_toList]
theorem set6v {cur:Array Value} {p:Nat} (hs:p + 6 ≤ cur.size) (v0 v1 v2 v3 v4 v5:Value) :
  ∃ c':Array Value,c' = (((((cur.setIfInBounds p v0).setIfInBounds (p + 1) v1).setIfInBounds (p + 2) v2).setIfInBounds (p + 3) v3).setIfInBounds (p + 4) v4).setIfInBounds (p + 5) v5 ∧
   (c'[p]? = some v0 ∧ c'[p + 1]? = some v1 ∧ c'[p + 2]? = some v2 ∧ c'[p + 3]? = some v3 ∧ c'[p + 4]? = some v4 ∧ c'[p + 5]? = some v5) ∧ ∀ j,j < p ∨ p + 6 ≤ j → c'[j]? = cur[j]?:=by
 have self:∀ (c:Array Value) (i:Nat) (v:Value),i < c.size → (c.setIfInBounds i v)[i]? = some v:=fun c i v h => by simp [Array.getElem?_setIfInBounds,h]
 have ne:∀ (c:Array Value) (i j:Nat) (v:Value),i ≠ j → (c.setIfInBounds i v)[j]? = c[j]?:=fun c i j v h => Array.getElem?_setIfInBounds_ne h
 refine ⟨_,rfl,⟨?_,?_,?_,?_,?_,?_⟩,fun j hj => ?_⟩
 ·rw [ne _ _ _ _ oq,ne _ _ _ _ oq,ne _ _ _ _ oq,ne _ _ _ _ oq,ne _ _ _ _ oq]
  exact self _ _ _ oq
 ·rw [ne _ _ _ _ oq,ne _ _ _ _ oq,ne _ _ _ _ oq,ne _ _ _ _ oq]
  exact self _ _ _ (by simp only [Array.size_setIfInBounds];omega)
 ·rw [ne _ _ _ _ oq,ne _ _ _ _ oq,ne _ _ _ _ oq]
  exact self _ _ _ (by simp only [Array.size_setIfInBounds];omega)
 ·rw [ne _ _ _ _ oq,ne _ _ _ _ oq]
  exact self _ _ _ (by simp only [Array.size_setIfInBounds];omega)
 ·rw [ne _ _ _ _ oq]
  exact self _ _ _ (by simp only [Array.size_setIfInBounds];omega)
 ·exact self _ _ _ (by simp only [Array.size_setIfInBounds];omega)
 ·rw [ne _ _ _ _ oq,ne _ _ _ _ oq,ne _ _ _ _ oq,ne _ _ _ _ oq,ne _ _ _ _ oq,ne _ _ _ _ oq]
theorem set6x {w:World} {g p:Nat} {cur:Array Value} {t:TypeId} (h:w.heap[g]? = some (.cells cur t (0,0))) (hs:p + 6 ≤ cur.size) (v0 v1 v2 v3 v4 v5:Value) :
  (∃ cur':Array Value,((((((w.setCell ⟨g,p,none⟩ v0).setCell ⟨g,p + 1,none⟩ v1).setCell ⟨g,p + 2,none⟩ v2).setCell ⟨g,p + 3,none⟩ v3).setCell ⟨g,p + 4,none⟩ v4).setCell ⟨g,p + 5,none⟩ v5).heap[g]? = some (.cells cur' t (0,0)) ∧ (cur'[p]? = some v0 ∧ cur'[p + 1]? = some v1 ∧ cur'[p + 2]? = some v2 ∧ cur'[p + 3]? = some v3 ∧ cur'[p + 4]? = some v4 ∧ cur'[p + 5]? = some v5) ∧ ∀ j,j < p ∨ p + 6 ≤ j → cur'[j]? = cur[j]?) ∧
   Upon g w ((((((w.setCell ⟨g,p,none⟩ v0).setCell ⟨g,p + 1,none⟩ v1).setCell ⟨g,p + 2,none⟩ v2).setCell ⟨g,p + 3,none⟩ v3).setCell ⟨g,p + 4,none⟩ v4).setCell ⟨g,p + 5,none⟩ v5):=by
 have h0:=heap_setCell_same _ g p _ t v0 h
 have h1:=heap_setCell_same _ g (p + 1) _ t v1 h0
 have h2:=heap_setCell_same _ g (p + 2) _ t v2 h1
 have h3:=heap_setCell_same _ g (p + 3) _ t v3 h2
 have h4:=heap_setCell_same _ g (p + 4) _ t v4 h3
 have h5:=heap_setCell_same _ g (p + 5) _ t v5 h4
 obtain ⟨c',rfl,h6,h7⟩:=set6v hs v0 v1 v2 v3 v4 v5
 exact ⟨⟨_,h5,h6,h7⟩,((((((Upon.refl g w).setAt (Or.inl rfl) _).setAt (Or.inl rfl) _).setAt (Or.inl rfl) _).setAt (Or.inl rfl) _).setAt (Or.inl rfl) _).setAt (Or.inl rfl) _⟩
def ElC (w:World) (P:Nat → Prop) (b p:Nat) (c:PE):Prop:=w.cell? ⟨b,p,none⟩ = some (.int .i64 c.k) ∧ w.cell? ⟨b,p + 1,none⟩ = some (.string c.nm) ∧ w.cell? ⟨b,p + 2,none⟩ = some (.int .i64 c.n) ∧ w.cell? ⟨b,p + 3,none⟩ = some (.int .i64 c.d) ∧ w.cell? ⟨b,p + 5,none⟩ = some (.int .i64 c.a) ∧
 ∃ ad cap,w.cell? ⟨b,p + 4,none⟩ = some (.slice ad c.args.len cap) ∧ c.args.len ≤ cap ∧ SlA w P c.args ad
theorem cells_of {w:World} {P:Nat → Prop} {b:Nat}:∀ (l:PL) (o:Nat),(∀ j c,l.at j = some c → ElC w P b (o + j * 6) c) → Cells w P b l o
 | .nil,o,_ => trivial
 | .cons k nm n d args a tl,o,h => by
  obtain ⟨h0,h1,h2,h3,h5,ad,cap,h4,hc,hs⟩:=h 0 ⟨k,nm,n,d,args,a⟩ rfl
  rw [Nat.zero_mul,Nat.add_zero] at h0 h1 h2 h3 h4 h5
  refine ⟨h0,h1,h2,h3,h5,⟨ad,cap,h4,hc,hs⟩,cells_of tl (o + 6) (fun j c hj => ?_)⟩
  have:=h (j + 1) c hj
  rwa [show o + (j + 1) * 6 = o + 6 + j * 6 by omega] at this
def exObj (e:PE) (ad:Option Addr) (cap:Nat):Obj:=.cells #[.int .i64 e.k,.string e.nm,.int .i64 e.n,.int .i64 e.d,.slice ad e.args.len cap,.int .i64 e.a] 95 (0,0)
theorem cells6y {w:World} {b:Nat} {v0 v1 v2 v3 v4 v5:Value} {t:TypeId} (h:w.heap[b]? = some (.cells #[v0,v1,v2,v3,v4,v5] t (0,0))) :
  (w.cell? ⟨b,0,none⟩ = some v0 ∧ w.cell? ⟨b,1,none⟩ = some v1 ∧ w.cell? ⟨b,2,none⟩ = some v2 ∧ w.cell? ⟨b,3,none⟩ = some v3 ∧ w.cell? ⟨b,4,none⟩ = some v4 ∧ w.cell? ⟨b,5,none⟩ = some v5) ∧ ∀ o,w.frozen? ⟨b,o,none⟩ = false:=by
 refine ⟨⟨?_,?_,?_,?_,?_,?_⟩,?_⟩
 all_goals first | (intro o;simp [World.frozen?,h]) | simp [World.cell?,h]
theorem cell_row {w:World} {g:Nat} {cur:Array Value} {t:TypeId} (h:w.heap[g]? = some (.cells cur t (0,0))) (j:Nat):w.cell? ⟨g,j,none⟩ = cur[j]?:=cell_of_row w g j cur t (0,0) h
structure CpAt (W0 w:World) (e:PE) (b o:Nat) (ad':Option Addr) (cap' i:Nat) (wr:World):Prop where
 le:i ≤ e.args.len
 b0:wr.heap[w.heap.size]? = some (exObj e ad' cap')
 b1:wr.heap[w.heap.size + 1]? = some (.cells #[.int .i64 0,.string ⟨#[]⟩,.int .i64 0,.int .i64 0,.slice none 0 0,.int .i64 0] 95 (0,0))
 row:0 < e.args.len → ∃ g cur,ad' = some ⟨g,0,none⟩ ∧ w.heap.size + 2 ≤ g ∧ wr.heap[g]? = some (.cells cur 95 (0,0)) ∧ (∀ j,i * 6 ≤ j → j < e.args.len * 6 → cur[j]? = W0.cell? ⟨b,o + j,none⟩) ∧ ∀ j c,j < i → e.args.at j = some c → ElC wr (fun k => w.heap.size + 2 ≤ k ∧ k ≠ g) g (j * 6) c
 low:Below w.heap.size w wr
theorem CpAt.next {W0 w:World} {e:PE} {b o g cap' i:Nat} {wr w6:World} (h:CpAt W0 w e b o (some ⟨g,0,none⟩) cap' i wr) (hb:Below wr.heap.size wr w6) (hlt:i < e.args.len) {c:PE} (hc:e.args.at i = some c) (hcs:(W0.cell? ⟨b,o + (i * 6 + 5),none⟩).isSome) {ad6:Option Addr} {cap6:Nat} (hcap:c.args.len ≤ cap6) (hsl:SlA w6 (fun k => wr.heap.size ≤ k) c.args ad6) :
  CpAt W0 w e b o (some ⟨g,0,none⟩) cap' (i + 1) ((((((w6.setCell ⟨g,i * 6,none⟩ (.int .i64 c.k)).setCell ⟨g,i * 6 + 1,none⟩ (.string c.nm)).setCell ⟨g,i * 6 + 2,none⟩ (.int .i64 c.n)).setCell ⟨g,i * 6 + 3,none⟩ (.int .i64 c.d)).setCell ⟨g,i * 6 + 4,none⟩ (.slice ad6 c.args.len cap6)).setCell ⟨g,i * 6 + 5,none⟩ (.int .i64 c.a)):=by
 obtain ⟨g',cur,hg',hg2,hgb,hcur,hdone⟩:=h.row oq
 injection hg' with hg'
 injection hg' with hg'
 subst hg'
 have hlg:=lt_of_block hgb
 have hsz:i * 6 + 6 ≤ cur.size:=by
  have h1:=hcur (i * 6 + 5) oq oq
  rw [← h1] at hcs
  obtain ⟨x,hx⟩:=Option.isSome_iff_exists.1 hcs
  have:=(Array.getElem?_eq_some_iff.1 hx).1
  omega
 obtain ⟨⟨cur',h1,⟨k0,k1,k2,k3,k4,k5⟩,h2⟩,hu⟩:=set6x (p:=i * 6) ((hb.block g hlg).trans hgb) hsz (.int .i64 c.k) (.string c.nm) (.int .i64 c.n) (.int .i64 c.d) (.slice ad6 c.args.len cap6) (.int .i64 c.a)
 have hs:=hb.size
 obtain ⟨W,hW⟩:∃ W,((((((w6.setCell ⟨g,i * 6,none⟩ (.int .i64 c.k)).setCell ⟨g,i * 6 + 1,none⟩ (.string c.nm)).setCell ⟨g,i * 6 + 2,none⟩ (.int .i64 c.n)).setCell ⟨g,i * 6 + 3,none⟩ (.int .i64 c.d)).setCell ⟨g,i * 6 + 4,none⟩ (.slice ad6 c.args.len cap6)).setCell ⟨g,i * 6 + 5,none⟩ (.int .i64 c.a)) = W:=⟨_,rfl⟩
 rw [hW] at h1 hu ⊢
 have hkeep:Same (fun k => w.heap.size + 2 ≤ k ∧ k ≠ g) wr W:=Same.upon (fun h => h.2 rfl) hu (Same.of_below hb (Same.refl _ _))
 refine ⟨by omega,(hu.block _ oq oq).trans ((hb.block _ oq).trans h.b0),(hu.block _ oq oq).trans ((hb.block _ oq).trans h.b1),fun _ => ⟨g,cur',rfl,hg2,h1,fun j hj hj2 => ?_,fun j c' hj hc' => ?_⟩,(h.low.trans (hb.mono h.low.size)).trans (hu.below (by have:=h.low.size;omega) oq)⟩
 ·rw [h2 j oq]
  exact hcur j oq hj2
 ·have hcl:=fun r => cell_row h1 r
  by_cases hji:j = i
  ·subst hji
   rw [hc] at hc'
   injection hc' with hc'
   subst hc'
   refine ⟨(hcl _).trans k0,(hcl _).trans k1,(hcl _).trans k2,(hcl _).trans k3,(hcl _).trans k5,ad6,cap6,(hcl _).trans k4,hcap,?_⟩
   exact (hsl.mono (Q:=fun k => w.heap.size + 2 ≤ k ∧ k ≠ g) (fun k hk _ => by omega)).keep (Same.upon (fun h => h.2 rfl) hu (Same.refl _ _))
  ·obtain ⟨d0,d1,d2,d3,d5,ad,cap,d4,dc,ds⟩:=hdone j c' oq hc'
   have hold:∀ r,r < 6 → W.cell? ⟨g,j * 6 + r,none⟩ = wr.cell? ⟨g,j * 6 + r,none⟩:=fun r hr => by
    rw [hcl,h2 _ oq,cell_row hgb]
   exact ⟨(hold 0 oq).trans d0,(hold 1 oq).trans d1,(hold 2 oq).trans d2,(hold 3 oq).trans d3,(hold 5 oq).trans d5,ad,cap,(hold 4 oq).trans d4,dc,ds.keep hkeep⟩
theorem CpAt.all {W0 w:World} {e:PE} {b o cap':Nat} {ad':Option Addr} {wr:World} (h:CpAt W0 w e b o ad' cap' e.args.len wr):SlA wr (fun k => w.heap.size + 2 ≤ k) e.args ad':=by
 by_cases h0:e.args.len = 0
 ·refine .inl ?_
  cases hl:e.args with
  | nil => rfl
  | cons => rw [hl] at h0;simp [PL.len] at h0
 ·obtain ⟨g,cur,hg',hg2,hgb,_,hdone⟩:=h.row oq
  refine .inr ⟨g,0,hg',⟨hg2,cur,hgb⟩,cells_of _ _ (fun j c hj => ?_)⟩
  rw [Nat.zero_add]
  obtain ⟨d0,d1,d2,d3,d5,ad,cap,d4,dc,ds⟩:=hdone j c (at_lt _ _ _ hj).1 hj
  exact ⟨d0,d1,d2,d3,d5,ad,cap,d4,dc,ds.mono (fun k hk _ => hk.1)⟩
set_option maxRecDepth 100000 in
set_option maxHeartbeats 4000000 in
theorem copied_any {W0:World}:∀ (M:Nat) (e:PE),e.args.sz < M → e.args.sz ≤ 900 → ∀ (w:World) (ad:Option Addr) (cap:Nat),AE W0 e ad cap → Below W0.heap.size W0 w →
  Calls Tryz.prog 101 #[ev e ad cap] w fun x w' => (∃ ad' cap',x = .returned (ev e ad' cap') ∧ e.args.len ≤ cap' ∧ SlA w' (fun k => w.heap.size ≤ k) e.args ad') ∧ Below w.heap.size w w':=by
 intro M
 induction M with
 | zero => intro e h;omega
 | succ M ih =>
  intro e hM hsz w ad cap hae hB
  have hlen:=len_le_sz e.args
  have HCL:=hid (fun (w':World) (hb:Below W0.heap.size W0 w') => cloneE_any (w:=w') e.args ad cap hae.args oq hb)
  have HIH:=hid ih
  have HAE:=hid hae
  have HB:=hid hB
  have hw0:=hB.size
  have hlc:=hae.len
  clear ih hae hB
  unfold ev
  go_enter Tryz.func101,Tryz.ntmps101
  go_wp2_with (go_at_call 142;refine (HCL.out _ (HB.out.trans ((bq:Below w.heap.size w _).mono hw0))).mono ?_;rintro x w1 ⟨⟨b,o,v,rfl,had,ad',cap',rfl,hcap,hrow⟩,hb1⟩;have hy0:w1.heap[w.heap.size]? = some (exObj e ad cap):=(hb1.block _ (by simp;omega)).trans ((Below.heap_alloc _ _ _ (by simp)).trans (heap_new w _));have hy1:w1.heap[w.heap.size + 1]? = some (.cells #[.int .i64 0,.string ⟨#[]⟩,.int .i64 0,.int .i64 0,.slice none 0 0,.int .i64 0] 95 (0,0)):=(hb1.block _ (by simp)).trans (by simpa using heap_new (w.alloc _) _);obtain ⟨⟨x0,x1,x2,x3,x4,x5⟩,xf⟩:=cells6y hy0)
  have hz1:w.heap.size + 2 ≤ w1.heap.size:=by have:=hb1.size;simpa using this
  have hb1':Below w.heap.size w w1:=bq
  obtain ⟨W1,hW1⟩:∃ W1,w1.setCell ⟨w.heap.size,4,none⟩ (.slice ad' e.args.len cap') = W1:=⟨_,rfl⟩
  have HC1:=hid (show CpAt W0 w e b o ad' cap' 0 W1 from by
   rw [← hW1]
   have hk:∀ k,k ≠ w.heap.size → (w1.setCell ⟨w.heap.size,4,none⟩ (.slice ad' e.args.len cap')).heap[k]? = w1.heap[k]?:=fun k hk => Below.heap_setCell _ _ _ _ hk
   refine ⟨Nat.zero_le _,?_,(hk _ oq).trans hy1,fun h => ?_,hb1'.setCell (p:=⟨w.heap.size,4,none⟩) (Nat.le_refl _) _⟩
   ·unfold exObj
    have:=heap_setCell_same _ w.heap.size 4 _ _ (.slice ad' e.args.len cap') hy0
    simpa only [sA,sB,sC] using this
   ·obtain ⟨g,cur,h1,h2,h3,h4⟩:=hrow h
    have hg:w.heap.size + 2 ≤ g:=by simpa using h2
    exact ⟨g,cur,h1,hg,(hk g oq).trans h3,fun j _ hj => h4 j hj,fun j c hj => absurd hj (Nat.not_lt_zero _)⟩)
  have HAD:=hid had
  have HCAP:=hid hcap
  rw [hW1]
  clear hW1 hy0 hy1 x0 x1 x2 x3 x4 x5 xf hz1 hb1' hb1 hrow had
  go_loopw [12] (fun v wr => Hid (∃ i:Nat,v = .int .i64 (i:Int) ∧ CpAt W0 w e b o ad' cap' i wr)) (fun i _ => e.args.len - (intOf i).toNat)
  case atStart => exact ⟨0,rfl,HC1.out⟩
  case round =>
   obtain ⟨i,rfl,hC⟩:=hrel.out
   clear hrel HC1
   have HC:=hid hC
   obtain ⟨⟨x0,x1,x2,x3,x4,x5⟩,xf⟩:=cells6y hC.b0
   have hwr:=hC.low.size
   clear hC
   by_cases hlt:i < e.args.len
   ·have hil:(i:Int) < (e.args.len:Int):=by omega
    obtain ⟨g,cur,rfl,hg,hgb,hcur,_⟩:=HC.out.row oq
    have had:=HAD.out oq
    subst had
    obtain ⟨c,hc,_⟩:=PL.at_some _ _ hlt
    obtain ⟨b',o',hbo,hb0,hac⟩:∃ b' o',some (⟨b,o,none⟩:Addr) = some ⟨b',o',none⟩ ∧ b' < W0.heap.size ∧ AC W0 e.args b' o':=by
     rcases HAE.out.args with h0 | h0
     ·rw [h0] at hlt;simp [PL.len] at hlt
     ·exact h0
    injection hbo with hbo
    injection hbo with hbo1 hbo2
    subst hbo1;subst hbo2
    obtain ⟨ad2,cap2,y0,y1,y2,y3,y4,y5,hae2⟩:=ac_at _ hac i c hc
    have hcl:∀ r,r < 6 → wr.cell? ⟨g,i * 6 + r,none⟩ = W0.cell? ⟨b,o + i * 6 + r,none⟩:=fun r hr => by
     rw [cell_row hgb,hcur _ oq oq,Nat.add_assoc]
    have e0:=(hcl 0 oq).trans y0
    have e1:=(hcl 1 oq).trans y1
    have e2:=(hcl 2 oq).trans y2
    have e3:=(hcl 3 oq).trans y3
    have e4:=(hcl 4 oq).trans y4
    have e5:=(hcl 5 oq).trans y5
    rw [Nat.add_zero] at e0
    have hszc:=(at_lt _ _ _ hc).2
    have HCC:=hid (fun (w':World) (hb:Below W0.heap.size W0 w') => HIH.out c oq oq w' ad2 cap2 hae2 hb)
    unfold ev at HCC
    have hgn:¬ g = w.heap.size:=by omega
    have hgn1:¬ g = w.heap.size + 1:=by omega
    have hlg:=lt_of_block hgb
    have HCI:=hid hc
    have HCS:=hid (show (W0.cell? ⟨b,o + (i * 6 + 5),none⟩).isSome from by rw [← Nat.add_assoc,y5];rfl)
    have HGB:=hid hgb
    have HCU:=hid hcur
    clear hgb hcur hac hc hcl y0 y1 y2 y3 y4 y5 hae2
    go_wp2
    obtain ⟨W5,hW5⟩:∃ W5,wr.alloc (exObj c ad2 cap2) = W5:=⟨_,rfl⟩
    have hB5:Below wr.heap.size wr W5:=by rw [← hW5];exact bq
    have hbx:W5.heap[wr.heap.size]? = some (exObj c ad2 cap2):=by rw [← hW5];exact heap_new wr _
    have hs5:wr.heap.size < W5.heap.size:=lt_of_block hbx
    change Code.wp _ _ _ _ (wr.alloc (exObj c ad2 cap2))
    rw [hW5]
    have hE5:=(hB5.block _ oq).trans HC.out.b0
    have HE0:=hid e0
    have HE1:=hid e1
    have HE2:=hid e2
    have HE3:=hid e3
    have HE4:=hid e4
    have HE5:=hid e5
    clear x0 x1 x2 x3 x4 x5 xf e0 e1 e2 e3 e4 e5 hW5
    obtain ⟨⟨x0,x1,x2,x3,x4,x5⟩,xf⟩:=cells6y hE5
    obtain ⟨⟨z0,z1,z2,z3,z4,z5⟩,zf⟩:=cells6y hbx
    have HB5:=hid hB5
    have HLW:=hid (show Below W0.heap.size W0 W5 from HB.out.trans ((HC.out.low.trans (hB5.mono hwr)).mono hw0))
    clear hB5 hbx hE5
    have hl1:w.heap.size < W5.heap.size:=by omega
    have hl2:g < W5.heap.size:=by omega
    have hi64:(0:Int) ≤ (i:Int):=by omega
    go_region_law (go_simp;first | (go_at_call 101;refine (HCC.out _ HLW.out.drew).mono ?_;rintro x w6 ⟨⟨ad6,cap6,rfl,hcap6,hsl6⟩,hb6⟩;have HSL6:=hid (And.intro hcap6 (hsl6.mono (Q:=fun k => wr.heap.size ≤ k) (fun k hk _ => Nat.le_trans (show wr.heap.size ≤ W5.heap.size by omega) hk)));clear hcap6 hsl6;have hb6':Below wr.heap.size wr w6:=HB5.out.drew.trans (hb6.mono (by show wr.heap.size ≤ W5.heap.size;omega));have hE6:=(hb6'.block _ oq).trans HC.out.b0;obtain ⟨⟨r0,r1,r2,r3,r4,r5⟩,rf⟩:=cells6y hE6;have hg6:=(hb6'.block g hlg).trans HGB.out;have s0:=(hb6'.cell (p:=⟨g,i * 6,none⟩) hlg).trans HE0.out;have s1:=(hb6'.cell (p:=⟨g,i * 6 + 1,none⟩) hlg).trans HE1.out;have s2:=(hb6'.cell (p:=⟨g,i * 6 + 2,none⟩) hlg).trans HE2.out;have s3:=(hb6'.cell (p:=⟨g,i * 6 + 3,none⟩) hlg).trans HE3.out;have s4:=(hb6'.cell (p:=⟨g,i * 6 + 4,none⟩) hlg).trans HE4.out;have s5:=(hb6'.cell (p:=⟨g,i * 6 + 5,none⟩) hlg).trans HE5.out;have hgf:∀ r,w6.frozen? ⟨g,r,none⟩ = false:=(fun r => by simp [World.frozen?,hg6]);have HB6:=hid hb6';clear hb6 hb6' hE6 hg6))
    all_goals
     go_wp2
     have hX:=HC.out.next HB6.out hlt HCI.out HCS.out HSL6.out.1 HSL6.out.2
     exact ⟨hid ⟨i + 1,by go_num,hX⟩,by simp [intOf];omega⟩
   ·have hle:=HC.out.le
    obtain ⟨⟨q0,q1,q2,q3,q4,q5⟩,qf⟩:=cells6y HC.out.b1
    go_wp2
    have hie:i = e.args.len:=by omega
    subst hie
    refine bodyPost_ret (v:=ev e ad' cap') ?_ rfl ⟨⟨ad',cap',rfl,HCAP.out,?_⟩,?_⟩
    ·simp only [results,Tryz.results101,ev];go_simp
    ·refine SlA.mono (SlA.keep HC.out.all ?_) (fun k hk _ => Nat.le_trans (Nat.le_add_right _ 2) hk)
     exact (((((Same.refl _ _).setCell (by show ¬ _ ≤ _;omega) _).setCell (by show ¬ _ ≤ _;omega) _).setCell (by show ¬ _ ≤ _;omega) _).setCell (by show ¬ _ ≤ _;omega) _).setCell (by show ¬ _ ≤ _;omega) _ |>.setCell (by show ¬ _ ≤ _;omega) _
    ·exact (((((HC.out.low.setCell (p:=⟨w.heap.size + 1,0,none⟩) (Nat.le_add_right _ 1) _).setCell (p:=⟨w.heap.size + 1,1,none⟩) (Nat.le_add_right _ 1) _).setCell (p:=⟨w.heap.size + 1,2,none⟩) (Nat.le_add_right _ 1) _).setCell (p:=⟨w.heap.size + 1,3,none⟩) (Nat.le_add_right _ 1) _).setCell (p:=⟨w.heap.size + 1,4,none⟩) (Nat.le_add_right _ 1) _).setCell (p:=⟨w.heap.size + 1,5,none⟩) (Nat.le_add_right _ 1) _
def Sty (e:TypeId) (X Y:World):Prop:=∀ (k:Nat) (o:Obj),X.heap[k]? = some o → (∀ cur fz,o ≠ .cells cur e fz) → Y.heap[k]? = some o
theorem Sty.stays {e:TypeId} {X Y:World} (h:Sty e X Y):Stays e X Y:=fun k cur t fz hk ht => h k _ hk (fun cur' fz' he => by injection he with h1 h2 h3;exact ht h2)
theorem Sty.of_below {e:TypeId} {X Y:World} (hb:Below X.heap.size X Y):Sty e X Y:=fun k o hk _ => (hb.block k (lt_of_block hk)).trans hk
theorem Sty.trans {e:TypeId} {X Y Z:World} (h:Sty e X Y) (g:Sty e Y Z):Sty e X Z:=fun k o hk ho => g k o (h k o hk ho) ho
theorem append_sty {wr w6 w4:World} {base:Nat} {e:TypeId} {size n:Nat} {v:Value} {xs:List Value} {ob:Obj} (hown:wr.ownsRow base e size v n xs) (hb:Below wr.heap.size wr w6) (hg:(w6.alloc ob).grownBy w4 v.ownBlock) :
  Sty e wr w4 ∧ Sty e w6 w4 ∧ (∀ B,B ≤ base → B ≤ wr.heap.size → Below B wr w4) ∧ wr.heap.size ≤ w4.heap.size:=by
 obtain ⟨_,h2,h3⟩:=append_stays hown hb hg
 have key:Sty e w6 w4:=fun k o hk ho => by
  have h6:(w6.alloc ob).heap[k]? = some o:=(Below.heap_alloc _ _ _ (lt_of_block hk)).trans hk
  refine (hg.block k (lt_of_block h6) (fun he => ?_)).trans h6
  have ho6:=own_below hown hb
  rcases ho6.2 with ⟨rfl,_⟩ | ⟨g,cap,cur',rfl,hbg,hgg,_⟩
  ·cases he
  ·simp [Value.ownBlock] at he
   subst he
   rw [hk] at hgg
   injection hgg with hgg
   exact ho _ _ hgg
 exact ⟨(Sty.of_below hb).trans key,key,h2,h3⟩
structure FtI (w:World) (m bs B:Nat) (Ds:List Nat) (vI vN vT vL:Value) (I:List (Int × Int)) (Nn:List ND) (T:List TK) (L:List TL) (X:World):Prop where
 low:Below w.heap.size w X
 hbs:w.heap.size + 3 ≤ bs
 size:bs ≤ B
 bsize:B ≤ X.heap.size
 b0:Boxed X w.heap.size 120 (.pointer (some ⟨m,0,none⟩))
 b1:X.heap[w.heap.size + 1]? = some (.cells #[.slice none 0 0,.slice none 0 0,.slice none 0 0,.slice none 0 0] 36 (0,0))
 b2:X.heap[w.heap.size + 1 + 1]? = some (.cells #[vI,vN,vT,vL] 36 (0,0))
 rI:RowM ClkC 49 2 X bs vI I
 rN:RowM NodC 97 10 X bs vN Nn
 rT:RowM (TaskC bs) 100 4 X bs vT T
 rL:RowM (TellC bs) 75 5 X bs vL L
 marks:Mks w.heap.size Ds X
 under:∀ D ∈ Ds,D < B
section
variable {w:World} {m bs B:Nat} {Ds:List Nat} {vI vN vT vL:Value} {I:List (Int × Int)} {Nn:List ND} {T:List TK} {L:List TL} {X Y:World}
theorem Mks.sty {n₀:Nat} {e:TypeId} (h:Mks n₀ Ds X) (hs:Sty e X Y):Mks n₀ Ds Y :=
 ⟨fun D hD => ⟨(h.1 D hD).1,hs D _ (h.1 D hD).2 (fun _ _ he => by cases he)⟩,h.2⟩
theorem Sty.cells {e t:TypeId} (hs:Sty e X Y) {k:Nat} {cs:Array Value} {fz:Nat × Nat} (h:X.heap[k]? = some (.cells cs t fz)) (hne:t ≠ e):Y.heap[k]? = some (.cells cs t fz):=hs.stays k cs t fz h hne
theorem FtI.over (h:FtI w m bs B Ds vI vN vT vL I Nn T L X) (hs:Sty 4 X Y) (hlow:Below w.heap.size w Y) (hsz:X.heap.size ≤ Y.heap.size):FtI w m bs B Ds vI vN vT vL I Nn T L Y :=
 ⟨hlow,h.hbs,h.size,Nat.le_trans h.bsize hsz,hs.cells h.b0 (by decide),hs.cells h.b1 (by decide),hs.cells h.b2 (by decide),h.rI.stays hs.stays (by decide) (fun c x hc => hc),h.rN.stays hs.stays (by decide) (fun c x hc => hc.stays hs.stays (by decide) (by decide)),
  h.rT.stays hs.stays (by decide) (fun c x hc => hc.stays hs.stays (by decide) (by decide)),h.rL.stays hs.stays (by decide) (fun c x hc => hc.stays hs.stays (by decide)),h.marks.sty hs,h.under⟩
theorem FtI.keep (h:FtI w m bs B Ds vI vN vT vL I Nn T L X) (hb:Below X.heap.size X Y):FtI w m bs B Ds vI vN vT vL I Nn T L Y :=
 h.over (Sty.of_below hb) (h.low.trans (hb.mono h.low.size)) hb.size
theorem FtI.more (h:FtI w m bs B Ds vI vN vT vL I Nn T L X) {B':Nat} (h1:B ≤ B') (h2:B' ≤ X.heap.size):FtI w m bs B' Ds vI vN vT vL I Nn T L X :=
 ⟨h.low,h.hbs,Nat.le_trans h.size h1,h2,h.b0,h.b1,h.b2,h.rI,h.rN,h.rT,h.rL,h.marks,fun D hD => Nat.lt_of_lt_of_le (h.under D hD) h1⟩
theorem FtI.own {row:Option Nat} (h:FtI w m bs B Ds vI vN vT vL I Nn T L X) (hg:X.grownBy Y row) (hr:∀ r,row = some r → B ≤ r ∧ ∃ o:Obj,X.heap[r]? = some o ∧ o.isCells = false):FtI w m bs B Ds vI vN vT vL I Nn T L Y:=by
 have hb:=grown_below hg hr h.bsize
 have h1:=h.hbs
 have h2:=h.size
 have key:∀ (k:Nat) (cur:Array Value) (t:TypeId) (fz:Nat × Nat),X.heap[k]? = some (.cells cur t fz) → Y.heap[k]? = some (.cells cur t fz):=fun k cur t fz hk => by
  refine (hg.block k (lt_of_block hk) (fun e => ?_)).trans hk
  obtain ⟨_,o,ho,hc⟩:=hr k e.symm
  rw [hk] at ho;cases ho;cases hc
 have hs:Stays 4 X Y:=fun k cur t fz hk _ => key k cur t fz hk
 exact ⟨h.low.trans (hb.mono oq),h1,h2,Nat.le_trans h.bsize hb.size,key _ _ _ _ h.b0,key _ _ _ _ h.b1,key _ _ _ _ h.b2,h.rI.stays hs (by decide) (fun c x hc => hc),h.rN.stays hs (by decide) (fun c x hc => hc.stays hs (by decide) (by decide)),
  h.rT.stays hs (by decide) (fun c x hc => hc.stays hs (by decide) (by decide)),h.rL.stays hs (by decide) (fun c x hc => hc.stays hs (by decide)),
  ⟨fun D hD => ⟨(h.marks.1 D hD).1,(hb.block D (h.under D hD)).trans (h.marks.1 D hD).2⟩,h.marks.2⟩,h.under⟩
theorem FtI.mark (h:FtI w m bs B Ds vI vN vT vL I Nn T L X) {D:Nat} (h1:B ≤ D) (h2:X.heap[D]? = some (.deferred (some []))):FtI w m bs X.heap.size (D :: Ds) vI vN vT vL I Nn T L X:=by
 have hs:=h.size
 have hh:=h.hbs
 refine ⟨h.low,hh,Nat.le_trans h.size h.bsize,Nat.le_refl _,h.b0,h.b1,h.b2,h.rI,h.rN,h.rT,h.rL,⟨fun D' hD' => ?_,List.nodup_cons.2 ⟨fun hm => ?_,h.marks.2⟩⟩,fun D' hD' => ?_⟩
 ·rcases List.mem_cons.1 hD' with rfl | hm
  ·exact ⟨by omega,h2⟩
  ·exact h.marks.1 D' hm
 ·have:=h.under D hm
  omega
 ·rcases List.mem_cons.1 hD' with rfl | hm
  ·exact lt_of_block h2
  ·have:=h.under D' hm
   have:=h.bsize
   omega
theorem set4i {w:World} {b:Nat} {v0 v1 v2 v3:Value} {t:TypeId} (h:w.heap[b]? = some (.cells #[v0,v1,v2,v3] t (0,0))) (u:Value) :
  (w.setCell ⟨b,0,none⟩ u).heap[b]? = some (.cells #[u,v1,v2,v3] t (0,0)) ∧ (w.setCell ⟨b,1,none⟩ u).heap[b]? = some (.cells #[v0,u,v2,v3] t (0,0)) ∧ (w.setCell ⟨b,2,none⟩ u).heap[b]? = some (.cells #[v0,v1,u,v3] t (0,0)) ∧ (w.setCell ⟨b,3,none⟩ u).heap[b]? = some (.cells #[v0,v1,v2,u] t (0,0)):=by
 have h0:=heap_setCell_same _ b 0 _ t u h
 have h1:=heap_setCell_same _ b 1 _ t u h
 have h2:=heap_setCell_same _ b 2 _ t u h
 have h3:=heap_setCell_same _ b 3 _ t u h
 refine ⟨?_,?_,?_,?_⟩
 ·simpa only [sA,sB,sC] using h0
 ·simpa only [sA,sB,sC] using h1
 ·simpa only [sA,sB,sC] using h2
 ·simpa only [sA,sB,sC] using h3
theorem sty_set {e:TypeId} {w:World} {b o:Nat} {cur:Array Value} {fz:Nat × Nat} (h:w.heap[b]? = some (.cells cur e fz)) (u:Value):Sty e w (w.setCell ⟨b,o,none⟩ u):=fun k ob hk ho => by
 refine (Below.heap_setCell _ _ _ _ (fun he => ?_)).trans hk
 have he:k = b:=he
 subst he
 rw [h] at hk
 injection hk with hk
 exact ho _ _ hk.symm
theorem FtI.appI (h:FtI w m bs B Ds vI vN vT vL I Nn T L X) {w6 w4:World} (hb6:Below X.heap.size X w6) {cs:List (List Value)} {n:Nat} (hn:I.length = n) (r1:cs.length = I.length) (r2:X.ownsRow bs 49 2 vI n cs.flatten) (r3:∀ c ∈ cs,c.length = 2)
  (r4:∀ j (hj:j < I.length) (hj':j < cs.length),ClkC X cs[j] I[j]) {c:List Value} (hcl:c.length = 2) {x:Int × Int} (hx:ClkC w6 c x) {ob:Obj} {v':Value} (hown4:w4.ownsRow bs 49 2 v' (n + 1) (cs.flatten ++ c)) (hg4:(w6.alloc ob).grownBy w4 vI.ownBlock) :
  (w4.cell? ⟨w.heap.size + 1 + 1,0,none⟩ = some vI ∧ w4.frozen? ⟨w.heap.size + 1 + 1,0,none⟩ = false) ∧ FtI w m bs B Ds v' vN vT vL (I ++ [x]) Nn T L (w4.setCell ⟨w.heap.size + 1 + 1,0,none⟩ v') ∧ Sty 49 X w4 ∧ Below w.heap.size X w4:=by
 subst hn
 obtain ⟨hs,hs6,hbe,hsz⟩:=append_sty r2 hb6 hg4
 have h1:=h.hbs
 have h2:=h.size
 have h3:=h.bsize
 have hlw:=h.low.size
 have hx':ClkC w4 c x:=hx
 have hb2:=hs.cells h.b2 (by decide)
 have hset:Sty 36 w4 (w4.setCell ⟨w.heap.size + 1 + 1,0,none⟩ v'):=sty_set hb2 v'
 have hoth:∀ k,k ≠ w.heap.size + 1 + 1 → (w4.setCell ⟨w.heap.size + 1 + 1,0,none⟩ v').heap[k]? = w4.heap[k]?:=fun k hk => Below.heap_setCell _ _ _ _ (fun e => hk e)
 have hb4:Below w.heap.size X w4:=hbe _ oq hlw
 refine ⟨⟨by simp [World.cell?,hb2],by simp [World.frozen?,hb2]⟩,⟨(h.low.trans hb4).setCell (p:=⟨w.heap.size + 1 + 1,0,none⟩) (by show w.heap.size ≤ w.heap.size + 1 + 1;omega) _,h1,h2,?_,?_,?_,(set4i hb2 v').1,?_,?_,?_,?_,?_,h.under⟩,hs,hb4⟩
 ·have:=((Below.refl 0 w4).setCell (p:=⟨w.heap.size + 1 + 1,0,none⟩) (Nat.zero_le _) v').size
  omega
 ·exact (hoth _ oq).trans (hs.cells h.b0 (by decide))
 ·exact (hoth _ oq).trans (hs.cells h.b1 (by decide))
 ·exact (append_row (w4:=w4) (Pe:=ClkC) r1 r2 r3 r4 (fun c x hc => hc) hcl hx' hown4).stays hset.stays (by decide) (fun c x hc => hc)
 ·exact (h.rN.stays hs.stays (by decide) (fun c x hc => hc.stays hs.stays (by decide) (by decide))).stays hset.stays (by decide) (fun c x hc => hc.stays hset.stays (by decide) (by decide))
 ·exact (h.rT.stays hs.stays (by decide) (fun c x hc => hc.stays hs.stays (by decide) (by decide))).stays hset.stays (by decide) (fun c x hc => hc.stays hset.stays (by decide) (by decide))
 ·exact (h.rL.stays hs.stays (by decide) (fun c x hc => hc.stays hs.stays (by decide))).stays hset.stays (by decide) (fun c x hc => hc.stays hset.stays (by decide))
 ·exact (h.marks.sty hs).sty hset
theorem FtI.appN (h:FtI w m bs B Ds vI vN vT vL I Nn T L X) {w6 w4:World} (hb6:Below X.heap.size X w6) {cs:List (List Value)} {n:Nat} (hn:Nn.length = n) (r1:cs.length = Nn.length) (r2:X.ownsRow bs 97 10 vN n cs.flatten) (r3:∀ c ∈ cs,c.length = 10)
  (r4:∀ j (hj:j < Nn.length) (hj':j < cs.length),NodC X cs[j] Nn[j]) {c:List Value} (hcl:c.length = 10) {x:ND} (hx:NodC w6 c x) {ob:Obj} {v':Value} (hown4:w4.ownsRow bs 97 10 v' (n + 1) (cs.flatten ++ c)) (hg4:(w6.alloc ob).grownBy w4 vN.ownBlock) :
  (w4.cell? ⟨w.heap.size + 1 + 1,1,none⟩ = some vN ∧ w4.frozen? ⟨w.heap.size + 1 + 1,1,none⟩ = false) ∧ FtI w m bs B Ds vI v' vT vL I (Nn ++ [x]) T L (w4.setCell ⟨w.heap.size + 1 + 1,1,none⟩ v') ∧ Sty 97 X w4 ∧ Below w.heap.size X w4:=by
 subst hn
 obtain ⟨hs,hs6,hbe,hsz⟩:=append_sty r2 hb6 hg4
 have h1:=h.hbs
 have h2:=h.size
 have h3:=h.bsize
 have hlw:=h.low.size
 have hx':NodC w4 c x:=hx.stays hs6.stays (by decide) (by decide)
 have hb2:=hs.cells h.b2 (by decide)
 have hset:Sty 36 w4 (w4.setCell ⟨w.heap.size + 1 + 1,1,none⟩ v'):=sty_set hb2 v'
 have hoth:∀ k,k ≠ w.heap.size + 1 + 1 → (w4.setCell ⟨w.heap.size + 1 + 1,1,none⟩ v').heap[k]? = w4.heap[k]?:=fun k hk => Below.heap_setCell _ _ _ _ (fun e => hk e)
 have hb4:Below w.heap.size X w4:=hbe _ oq hlw
 refine ⟨⟨by simp [World.cell?,hb2],by simp [World.frozen?,hb2]⟩,⟨(h.low.trans hb4).setCell (p:=⟨w.heap.size + 1 + 1,1,none⟩) (by show w.heap.size ≤ w.heap.size + 1 + 1;omega) _,h1,h2,?_,?_,?_,(set4i hb2 v').2.1,?_,?_,?_,?_,?_,h.under⟩,hs,hb4⟩
 ·have:=((Below.refl 0 w4).setCell (p:=⟨w.heap.size + 1 + 1,1,none⟩) (Nat.zero_le _) v').size
  omega
 ·exact (hoth _ oq).trans (hs.cells h.b0 (by decide))
 ·exact (hoth _ oq).trans (hs.cells h.b1 (by decide))
 ·exact (h.rI.stays hs.stays (by decide) (fun c x hc => hc)).stays hset.stays (by decide) (fun c x hc => hc)
 ·exact (append_row (w4:=w4) (Pe:=NodC) r1 r2 r3 r4 (fun c x hc => hc.stays hs.stays (by decide) (by decide)) hcl hx' hown4).stays hset.stays (by decide) (fun c x hc => hc.stays hset.stays (by decide) (by decide))
 ·exact (h.rT.stays hs.stays (by decide) (fun c x hc => hc.stays hs.stays (by decide) (by decide))).stays hset.stays (by decide) (fun c x hc => hc.stays hset.stays (by decide) (by decide))
 ·exact (h.rL.stays hs.stays (by decide) (fun c x hc => hc.stays hs.stays (by decide))).stays hset.stays (by decide) (fun c x hc => hc.stays hset.stays (by decide))
 ·exact (h.marks.sty hs).sty hset
theorem FtI.appT (h:FtI w m bs B Ds vI vN vT vL I Nn T L X) {w6 w4:World} (hb6:Below X.heap.size X w6) {cs:List (List Value)} {n:Nat} (hn:T.length = n) (r1:cs.length = T.length) (r2:X.ownsRow bs 100 4 vT n cs.flatten) (r3:∀ c ∈ cs,c.length = 4)
  (r4:∀ j (hj:j < T.length) (hj':j < cs.length),(TaskC bs) X cs[j] T[j]) {c:List Value} (hcl:c.length = 4) {x:TK} (hx:TaskC bs w6 c x) {ob:Obj} {v':Value} (hown4:w4.ownsRow bs 100 4 v' (n + 1) (cs.flatten ++ c)) (hg4:(w6.alloc ob).grownBy w4 vT.ownBlock) :
  (w4.cell? ⟨w.heap.size + 1 + 1,2,none⟩ = some vT ∧ w4.frozen? ⟨w.heap.size + 1 + 1,2,none⟩ = false) ∧ FtI w m bs B Ds vI vN v' vL I Nn (T ++ [x]) L (w4.setCell ⟨w.heap.size + 1 + 1,2,none⟩ v') ∧ Sty 100 X w4 ∧ Below w.heap.size X w4:=by
 subst hn
 obtain ⟨hs,hs6,hbe,hsz⟩:=append_sty r2 hb6 hg4
 have h1:=h.hbs
 have h2:=h.size
 have h3:=h.bsize
 have hlw:=h.low.size
 have hx':(TaskC bs) w4 c x:=hx.stays hs6.stays (by decide) (by decide)
 have hb2:=hs.cells h.b2 (by decide)
 have hset:Sty 36 w4 (w4.setCell ⟨w.heap.size + 1 + 1,2,none⟩ v'):=sty_set hb2 v'
 have hoth:∀ k,k ≠ w.heap.size + 1 + 1 → (w4.setCell ⟨w.heap.size + 1 + 1,2,none⟩ v').heap[k]? = w4.heap[k]?:=fun k hk => Below.heap_setCell _ _ _ _ (fun e => hk e)
 have hb4:Below w.heap.size X w4:=hbe _ oq hlw
 refine ⟨⟨by simp [World.cell?,hb2],by simp [World.frozen?,hb2]⟩,⟨(h.low.trans hb4).setCell (p:=⟨w.heap.size + 1 + 1,2,none⟩) (by show w.heap.size ≤ w.heap.size + 1 + 1;omega) _,h1,h2,?_,?_,?_,(set4i hb2 v').2.2.1,?_,?_,?_,?_,?_,h.under⟩,hs,hb4⟩
 ·have:=((Below.refl 0 w4).setCell (p:=⟨w.heap.size + 1 + 1,2,none⟩) (Nat.zero_le _) v').size
  omega
 ·exact (hoth _ oq).trans (hs.cells h.b0 (by decide))
 ·exact (hoth _ oq).trans (hs.cells h.b1 (by decide))
 ·exact (h.rI.stays hs.stays (by decide) (fun c x hc => hc)).stays hset.stays (by decide) (fun c x hc => hc)
 ·exact (h.rN.stays hs.stays (by decide) (fun c x hc => hc.stays hs.stays (by decide) (by decide))).stays hset.stays (by decide) (fun c x hc => hc.stays hset.stays (by decide) (by decide))
 ·exact (append_row (w4:=w4) (Pe:=(TaskC bs)) r1 r2 r3 r4 (fun c x hc => hc.stays hs.stays (by decide) (by decide)) hcl hx' hown4).stays hset.stays (by decide) (fun c x hc => hc.stays hset.stays (by decide) (by decide))
 ·exact (h.rL.stays hs.stays (by decide) (fun c x hc => hc.stays hs.stays (by decide))).stays hset.stays (by decide) (fun c x hc => hc.stays hset.stays (by decide))
 ·exact (h.marks.sty hs).sty hset
theorem FtI.appL (h:FtI w m bs B Ds vI vN vT vL I Nn T L X) {w6 w4:World} (hb6:Below X.heap.size X w6) {cs:List (List Value)} {n:Nat} (hn:L.length = n) (r1:cs.length = L.length) (r2:X.ownsRow bs 75 5 vL n cs.flatten) (r3:∀ c ∈ cs,c.length = 5)
  (r4:∀ j (hj:j < L.length) (hj':j < cs.length),(TellC bs) X cs[j] L[j]) {c:List Value} (hcl:c.length = 5) {x:TL} (hx:TellC bs w6 c x) {ob:Obj} {v':Value} (hown4:w4.ownsRow bs 75 5 v' (n + 1) (cs.flatten ++ c)) (hg4:(w6.alloc ob).grownBy w4 vL.ownBlock) :
  (w4.cell? ⟨w.heap.size + 1 + 1,3,none⟩ = some vL ∧ w4.frozen? ⟨w.heap.size + 1 + 1,3,none⟩ = false) ∧ FtI w m bs B Ds vI vN vT v' I Nn T (L ++ [x]) (w4.setCell ⟨w.heap.size + 1 + 1,3,none⟩ v') ∧ Sty 75 X w4 ∧ Below w.heap.size X w4:=by
 subst hn
 obtain ⟨hs,hs6,hbe,hsz⟩:=append_sty r2 hb6 hg4
 have h1:=h.hbs
 have h2:=h.size
 have h3:=h.bsize
 have hlw:=h.low.size
 have hx':(TellC bs) w4 c x:=hx.stays hs6.stays (by decide)
 have hb2:=hs.cells h.b2 (by decide)
 have hset:Sty 36 w4 (w4.setCell ⟨w.heap.size + 1 + 1,3,none⟩ v'):=sty_set hb2 v'
 have hoth:∀ k,k ≠ w.heap.size + 1 + 1 → (w4.setCell ⟨w.heap.size + 1 + 1,3,none⟩ v').heap[k]? = w4.heap[k]?:=fun k hk => Below.heap_setCell _ _ _ _ (fun e => hk e)
 have hb4:Below w.heap.size X w4:=hbe _ oq hlw
 refine ⟨⟨by simp [World.cell?,hb2],by simp [World.frozen?,hb2]⟩,⟨(h.low.trans hb4).setCell (p:=⟨w.heap.size + 1 + 1,3,none⟩) (by show w.heap.size ≤ w.heap.size + 1 + 1;omega) _,h1,h2,?_,?_,?_,(set4i hb2 v').2.2.2,?_,?_,?_,?_,?_,h.under⟩,hs,hb4⟩
 ·have:=((Below.refl 0 w4).setCell (p:=⟨w.heap.size + 1 + 1,3,none⟩) (Nat.zero_le _) v').size
  omega
 ·exact (hoth _ oq).trans (hs.cells h.b0 (by decide))
 ·exact (hoth _ oq).trans (hs.cells h.b1 (by decide))
 ·exact (h.rI.stays hs.stays (by decide) (fun c x hc => hc)).stays hset.stays (by decide) (fun c x hc => hc)
 ·exact (h.rN.stays hs.stays (by decide) (fun c x hc => hc.stays hs.stays (by decide) (by decide))).stays hset.stays (by decide) (fun c x hc => hc.stays hset.stays (by decide) (by decide))
 ·exact (h.rT.stays hs.stays (by decide) (fun c x hc => hc.stays hs.stays (by decide) (by decide))).stays hset.stays (by decide) (fun c x hc => hc.stays hset.stays (by decide) (by decide))
 ·exact (append_row (w4:=w4) (Pe:=(TellC bs)) r1 r2 r3 r4 (fun c x hc => hc.stays hs.stays (by decide)) hcl hx' hown4).stays hset.stays (by decide) (fun c x hc => hc.stays hset.stays (by decide))
 ·exact (h.marks.sty hs).sty hset
end
def flE (p:PG) (j:Nat):PE:=match p.flows[j]? with
 | some f => f.e
 | none => ⟨0,ByteArray.empty,0,0,.nil,0⟩
noncomputable def tkR (p:PG) (xIx fIx iIx nIx:IE) (env:Env) (s:PE × ByteArray):TK :=
 ⟨(((nIx s.1.nm).getD 0:Nat):Int),(clkE (clkOf env) s.1).1,(clkE (clkOf env) s.1).2,(kidsE s.1.args s.2 0).map (fun k => ((argR p xIx fIx iIx k.1 k.2).1,(argR p xIx fIx iIx k.1 k.2).2.reverse))⟩
noncomputable def tlR (p:PG) (xIx fIx iIx:IE) (env:Env) (o:OU):TL :=
 ⟨(clkOf env o.fl).1,(clkOf env o.fl).2,(argR p xIx fIx iIx (flE p ((fIx o.fl).getD 0)) (dg ((fIx o.fl).getD 0))).1,(argR p xIx fIx iIx (flE p ((fIx o.fl).getD 0)) (dg ((fIx o.fl).getD 0))).2.reverse,o.dl⟩
end Go.Proofs.YtpjficjlfibibaaGreatDoor.syn
