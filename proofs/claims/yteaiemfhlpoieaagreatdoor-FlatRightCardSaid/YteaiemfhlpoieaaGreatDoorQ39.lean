/-
  Parts of the proof: Rgt9, BentC, BentE.
-/
import Derived.Test.YteaiemfhlpoieaaGreatDoorQ35
namespace Go.Proofs.YteaiemfhlpoieaaGreatDoor.syn
open Go.RowKit
set_option linter.unusedVariables false
set_option linter.unusedSimpArgs false
def ByCells {α:Type} (P:World → Nat → Nat → α → Prop) (sz:Nat):Prop:=∀ (w w':World) (b o g q:Nat) (x:α),Below w.heap.size w w' → (∀ j,j < sz → w'.cell? ⟨g,q + j,none⟩ = w.cell? ⟨b,o + j,none⟩) → P w b o x → P w' g q x
theorem clkBy:ByCells ClkR 2:=fun w w' b o g q x hb hc h => ⟨(hc 0 oq).trans h.1,(hc 1 oq).trans h.2⟩
theorem argBy:ByCells ArgR 2:=fun w w' b o g q x hb hc h => by
  obtain ⟨h0,ad,cap,h1,h2⟩:=h
  exact ⟨(hc 0 oq).trans h0,ad,cap,(hc 1 oq).trans h1,h2.below opSta hb⟩
theorem tskBy:ByCells TskR 4:=fun w w' b o g q x hb hc h => by
  obtain ⟨h0,h1,h2,ad,cap,h3,h4⟩:=h
  exact ⟨(hc 0 oq).trans h0,(hc 1 oq).trans h1,(hc 2 oq).trans h2,ad,cap,(hc 3 oq).trans h3,h4.below argSta hb⟩
theorem telBy:ByCells TelR 5:=fun w w' b o g q x hb hc h => by
  obtain ⟨h0,h1,h2,h4,ad,cap,h3,h5⟩:=h
  exact ⟨(hc 0 oq).trans h0,(hc 1 oq).trans h1,(hc 2 oq).trans h2,(hc 4 oq).trans h4,ad,cap,(hc 3 oq).trans h3,h5.below opSta hb⟩
theorem ndBy:ByCells NdR 10:=fun w w' b o g q x hb hc h => by
  obtain ⟨nm,pa,pc,k,nm2,n2,d2,ea,el,ec,a2,a,h0,h1,h2,h3,h4,h5,h6,h7,h8,h9⟩:=h
  exact ⟨nm,pa,pc,k,nm2,n2,d2,ea,el,ec,a2,a,(hc 0 oq).trans h0,(hc 1 oq).trans h1,(hc 2 oq).trans h2,(hc 3 oq).trans h3,(hc 4 oq).trans h4,(hc 5 oq).trans h5,(hc 6 oq).trans h6,(hc 7 oq).trans h7,(hc 8 oq).trans h8,(hc 9 oq).trans h9⟩
theorem row_copy {α:Type} {P:World → Nat → Nat → α → Prop} {sz:Nat} {w w':World} {l:List α} {ad:Option Addr} {g:Nat} (hP:ByCells P sz) (hr:Row P sz w l ad) (hb:Below w.heap.size w w') (hg:g < w'.heap.size)
    (hc:∀ b o,ad = some ⟨b,o,none⟩ → ∀ j,j < l.length * sz → w'.cell? ⟨g,j,none⟩ = w.cell? ⟨b,o + j,none⟩):Row P sz w' l (some ⟨g,0,none⟩):=by
  rcases hr with h | ⟨b,o,e,hlt,h⟩
  · exact .inl h
  · refine .inr ⟨g,0,rfl,hg,fun i hi => hP w w' b (o + i * sz) g (0 + i * sz) _ hb (fun j hj => ?_) (h i hi)⟩
    have h1:(i + 1) * sz ≤ l.length * sz:=Nat.mul_le_mul_right _ hi
    rw [Nat.succ_mul] at h1
    rw [Nat.zero_add,Nat.add_assoc]
    exact hc b o e (i * sz + j) oq
def HasCells {α:Type} (P:World → Nat → Nat → α → Prop) (sz:Nat):Prop:=∀ (w:World) (b o:Nat) (x:α),P w b o x → ∀ j,j < sz → ∃ u,w.cell? ⟨b,o + j,none⟩ = some u ∧ u.oneCell' = true
theorem clkHas:HasCells ClkR 2:=fun w b o x h j hj => by
  rcases (show j = 0 ∨ j = 1 by omega) with rfl | rfl
  · exact ⟨_,h.1,rfl⟩
  · exact ⟨_,h.2,rfl⟩
theorem argHas:HasCells ArgR 2:=fun w b o x h j hj => by
  obtain ⟨h0,ad,cap,h1,_⟩:=h
  rcases (show j = 0 ∨ j = 1 by omega) with rfl | rfl
  · exact ⟨_,h0,rfl⟩
  · exact ⟨_,h1,rfl⟩
theorem tskHas:HasCells TskR 4:=fun w b o x h j hj => by
  obtain ⟨h0,h1,h2,ad,cap,h3,_⟩:=h
  rcases (show j = 0 ∨ j = 1 ∨ j = 2 ∨ j = 3 by omega) with rfl | rfl | rfl | rfl
  · exact ⟨_,h0,rfl⟩
  · exact ⟨_,h1,rfl⟩
  · exact ⟨_,h2,rfl⟩
  · exact ⟨_,h3,rfl⟩
theorem telHas:HasCells TelR 5:=fun w b o x h j hj => by
  obtain ⟨h0,h1,h2,h4,ad,cap,h3,_⟩:=h
  rcases (show j = 0 ∨ j = 1 ∨ j = 2 ∨ j = 3 ∨ j = 4 by omega) with rfl | rfl | rfl | rfl | rfl
  · exact ⟨_,h0,rfl⟩
  · exact ⟨_,h1,rfl⟩
  · exact ⟨_,h2,rfl⟩
  · exact ⟨_,h3,rfl⟩
  · exact ⟨_,h4,rfl⟩
theorem ndHas:HasCells NdR 10:=fun w b o x h j hj => by
  obtain ⟨nm,pa,pc,k,nm2,n2,d2,ea,el,ec,a2,a,h0,h1,h2,h3,h4,h5,h6,h7,h8,h9⟩:=h
  rcases (show j = 0 ∨ j = 1 ∨ j = 2 ∨ j = 3 ∨ j = 4 ∨ j = 5 ∨ j = 6 ∨ j = 7 ∨ j = 8 ∨ j = 9 by omega) with rfl | rfl | rfl | rfl | rfl | rfl | rfl | rfl | rfl | rfl
  · exact ⟨_,h0,rfl⟩
  · exact ⟨_,h1,rfl⟩
  · exact ⟨_,h2,rfl⟩
  · exact ⟨_,h3,rfl⟩
  · exact ⟨_,h4,rfl⟩
  · exact ⟨_,h5,rfl⟩
  · exact ⟨_,h6,rfl⟩
  · exact ⟨_,h7,rfl⟩
  · exact ⟨_,h8,rfl⟩
  · exact ⟨_,h9,rfl⟩
theorem row_news {α:Type} {P:World → Nat → Nat → α → Prop} {sz:Nat} {w:World} {l:List α} {ad:Option Addr} (hH:HasCells P sz) (h0:0 < sz) (hr:Row P sz w l ad) :
    ∃ news:List Value,news.length = l.length * sz ∧ (∀ j u,news[j]? = some u → ∃ b o,ad = some ⟨b,o,none⟩ ∧ b < w.heap.size ∧ w.cell? ⟨b,o + j,none⟩ = some u) ∧ ∀ u ∈ news,u.oneCell' = true:=by
  rcases hr with h | ⟨b,o,e,hlt,h⟩
  · subst h
    exact ⟨[],by simp,fun j u h => by simp at h,by simp⟩
  · have key:∀ j,j < l.length * sz → ∃ u,w.cell? ⟨b,o + j,none⟩ = some u ∧ u.oneCell' = true:=fun j hj => by
      have hi:j / sz < l.length:=Nat.div_lt_of_lt_mul (by rw [Nat.mul_comm];exact hj)
      obtain ⟨u,h1,h2⟩:=hH w b _ _ (h (j / sz) hi) (j % sz) (Nat.mod_lt _ h0)
      rw [Nat.add_assoc,Nat.mul_comm (j / sz) sz,Nat.div_add_mod] at h1
      exact ⟨u,h1,h2⟩
    refine ⟨(List.range (l.length * sz)).map (fun j => (w.cell? ⟨b,o + j,none⟩).getD undef),by simp,fun j u hj => ?_,fun u hu => ?_⟩
    · obtain ⟨hj1,hj2⟩:=List.getElem?_eq_some_iff.1 hj
      have hj3:j < l.length * sz:=by simpa using hj1
      obtain ⟨v,h1,_⟩:=key j hj3
      rw [List.getElem_map,List.getElem_range,h1] at hj2
      exact ⟨b,o,e,hlt,by rw [h1,← hj2];rfl⟩
    · obtain ⟨j,hj,rfl⟩:=List.mem_map.1 hu
      obtain ⟨v,h1,h2⟩:=key j (List.mem_range.1 hj)
      rw [h1]
      exact h2
theorem b9_own0 (w w3:World) (e:TypeId) (size:Nat) (h:w.heap.size ≤ w3.heap.size):(w3.alloc (.cells #[] e)).ownsRow w.heap.size e size (.slice (some ⟨w3.heap.size,0,none⟩) 0 0) 0 [] :=
  ⟨by simp,.inr ⟨w3.heap.size,0,#[],rfl,h,heap_new w3 _,Nat.le_refl _,by unfold maxLen;omega,by simp,by simp⟩⟩
theorem b9_cells4 {w:World} {b:Nat} {v0 v1 v2 v3:Value} {t:TypeId} (h:w.heap[b]? = some (.cells #[v0,v1,v2,v3] t (0,0))) :
    (w.cell? ⟨b,0,none⟩ = some v0 ∧ w.cell? ⟨b,1,none⟩ = some v1 ∧ w.cell? ⟨b,2,none⟩ = some v2 ∧ w.cell? ⟨b,3,none⟩ = some v3) ∧ ∀ o,w.frozen? ⟨b,o,none⟩ = false:=by
  refine ⟨⟨?_,?_,?_,?_⟩,?_⟩
  all_goals first | (intro o;simp [World.frozen?,h]) | simp [World.cell?,h]
theorem b9_infoArg:(Tryz.prog.info? 63).map (fun i => (i.zero,i.size,i.bytes)) = some (some (.agg #[.int .i64 0,.slice none 0 0]),2,32):=by kernel_rfl
theorem b9_infoTask:(Tryz.prog.info? 56).map (fun i => (i.zero,i.size,i.bytes)) = some (some (.agg #[.int .i64 0,.int .i64 0,.int .i64 0,.slice none 0 0]),4,48):=by kernel_rfl
theorem b9_infoTell:(Tryz.prog.info? 68).map (fun i => (i.zero,i.size,i.bytes)) = some (some (.agg #[.int .i64 0,.int .i64 0,.int .i64 0,.slice none 0 0,.int .i64 0]),5,56):=by kernel_rfl
theorem b9_infoClk:(Tryz.prog.info? 53).map (fun i => (i.zero,i.size,i.bytes)) = some (some (.agg #[.int .i64 0,.int .i64 0]),2,16):=by kernel_rfl
theorem b9_infoNode:(Tryz.prog.info? 78).map (fun i => (i.zero,i.size,i.bytes)) = some (some (.agg #[.string ⟨#[]⟩,.slice none 0 0,.int .i64 0,.int .i64 0,.string ⟨#[]⟩,.int .i64 0,.int .i64 0,.slice none 0 0,.int .i64 0,.int .i64 0]),10,128):=by kernel_rfl
def Cp (w W:World) (base top:Nat) (e:TypeId) (N:Nat) (ad ad':Option Addr):Prop :=
  N = 0 ∨ ∃ b o g cur,ad = some ⟨b,o,none⟩ ∧ b < w.heap.size ∧ ad' = some ⟨g,0,none⟩ ∧ base ≤ g ∧ g < top ∧ W.heap[g]? = some (.cells cur e (0,0)) ∧ N ≤ cur.size ∧ ∀ j,j < N → cur[j]? = w.cell? ⟨b,o + j,none⟩
theorem Cp.upon {w W W':World} {base top r N:Nat} {e:TypeId} {ad ad':Option Addr} (h:Cp w W base top e N ad ad') (hu:Upon r W W') (hr:r < base ∨ top ≤ r):Cp w W' base top e N ad ad':=by
  rcases h with h | ⟨b,o,g,cur,h1,h2,h3,h4,h5,h6,h7,h8⟩
  · exact .inl h
  · exact .inr ⟨b,o,g,cur,h1,h2,h3,h4,h5,(hu.block g (lt_of_block h6) oq).trans h6,h7,h8⟩
theorem Cp.row {α:Type} {P:World → Nat → Nat → α → Prop} {sz:Nat} {w W:World} {base top:Nat} {e:TypeId} {l:List α} {ad ad':Option Addr} (hP:ByCells P sz) (h0:0 < sz) (hr:Row P sz w l ad) (hb:Below w.heap.size w W)
    (h:Cp w W base top e (l.length * sz) ad ad'):Row P sz W l ad':=by
  rcases h with h | ⟨b,o,g,cur,h1,h2,rfl,h4,h5,h6,h7,h8⟩
  · refine .inl (List.eq_nil_of_length_eq_zero ?_)
    rcases Nat.mul_eq_zero.1 h with h | h
    · exact h
    · omega
  · refine row_copy hP hr hb (lt_of_block h6) (fun b2 o2 e2 j hj => ?_)
    rw [h1] at e2
    injection e2 with e2
    injection e2 with e3 e4
    subst e3;subst e4
    rw [← h8 j hj]
    exact cell_of_row W _ _ cur e (0,0) h6
theorem cp_own {w w4:World} {base n sz:Nat} {e:TypeId} {ad:Option Addr} {v':Value} {news:List Value} (hown:w4.ownsRow base e sz v' n news) (hlen:news.length = n * sz)
    (hnews:∀ j u,news[j]? = some u → ∃ b o,ad = some ⟨b,o,none⟩ ∧ b < w.heap.size ∧ w.cell? ⟨b,o + j,none⟩ = some u):∃ ad' cap',v' = .slice ad' n cap' ∧ Cp w w4 base w4.heap.size e (n * sz) ad ad':=by
  rcases hown.2 with ⟨rfl,h0⟩ | ⟨g,cap,cur,rfl,hbg,hg,hnc,hcm,hcs,htk⟩
  · exact ⟨none,0,by rw [h0],.inl (by rw [h0,Nat.zero_mul])⟩
  · refine ⟨_,cap,rfl,?_⟩
    rcases Nat.eq_zero_or_pos (n * sz) with h | h
    · exact .inl h
    · obtain ⟨u0,hu0⟩:∃ u,news[0]? = some u:=⟨_,List.getElem?_eq_getElem oq⟩
      obtain ⟨b,o,hab,hb,_⟩:=hnews 0 u0 hu0
      refine .inr ⟨b,o,g,cur,hab,hb,rfl,hbg,lt_of_block hg,hg,by rw [hcs];exact Nat.mul_le_mul_right _ hnc,fun j hj => ?_⟩
      obtain ⟨u,hu⟩:∃ u,news[j]? = some u:=⟨_,List.getElem?_eq_getElem oq⟩
      obtain ⟨b2,o2,e2,_,h2⟩:=hnews j u hu
      rw [hab] at e2
      injection e2 with e2
      injection e2 with e3 e4
      subst e3;subst e4
      rw [h2,← hu,← htk,List.getElem?_take_of_lt hj,Array.getElem?_toList]
theorem b9_below_set {w W:World} {g c:Nat} (hb:Below w.heap.size w W) (hg:w.heap.size ≤ g) (u:Value):Below w.heap.size w (W.setCell ⟨g,c,none⟩ u):=below_setAt hb hg u
theorem b9_upon_set {W:World} {g c:Nat} (u:Value):Upon g W (W.setCell ⟨g,c,none⟩ u):=(Upon.refl g W).setAt (Or.inl rfl) u
def Cq (w W:World) (base top:Nat) (e:TypeId) (N c:Nat) (u:Value) (ad ad':Option Addr):Prop :=
  ∃ b o g cur,ad = some ⟨b,o,none⟩ ∧ b < w.heap.size ∧ ad' = some ⟨g,0,none⟩ ∧ base ≤ g ∧ g < top ∧ W.heap[g]? = some (.cells cur e (0,0)) ∧ N ≤ cur.size ∧ cur[c]? = some u ∧ ∀ j,j < N → j ≠ c → cur[j]? = w.cell? ⟨b,o + j,none⟩
theorem Cq.upon {w W W':World} {base top r N c:Nat} {u:Value} {e:TypeId} {ad ad':Option Addr} (h:Cq w W base top e N c u ad ad') (hu:Upon r W W') (hr:r < base ∨ top ≤ r):Cq w W' base top e N c u ad ad':=by
  obtain ⟨b,o,g,cur,h1,h2,h3,h4,h5,h6,h7,h8⟩:=h
  exact ⟨b,o,g,cur,h1,h2,h3,h4,h5,(hu.block g (lt_of_block h6) oq).trans h6,h7,h8⟩
theorem Cp.at {w W:World} {base top N:Nat} {e:TypeId} {ad ad':Option Addr} (h:Cp w W base top e N ad ad') (hN:0 < N) :
    ∃ b o g cur,ad = some ⟨b,o,none⟩ ∧ b < w.heap.size ∧ ad' = some ⟨g,0,none⟩ ∧ base ≤ g ∧ g < top ∧ W.heap[g]? = some (.cells cur e (0,0)) ∧ N ≤ cur.size ∧ ∀ j,j < N → W.cell? ⟨g,j,none⟩ = w.cell? ⟨b,o + j,none⟩:=by
  rcases h with h | ⟨b,o,g,cur,h1,h2,h3,h4,h5,h6,h7,h8⟩
  · omega
  · exact ⟨b,o,g,cur,h1,h2,h3,h4,h5,h6,h7,fun j hj => (cell_of_row W _ _ cur e (0,0) h6).trans (h8 j hj)⟩
theorem Cp.toSet {w W:World} {base top N c g:Nat} {e:TypeId} {ad:Option Addr} (h:Cp w W base top e N ad (some ⟨g,0,none⟩)) (hc:c < N) (u:Value) :
    Cq w (W.setCell ⟨g,c,none⟩ u) base top e N c u ad (some ⟨g,0,none⟩):=by
  rcases h with h | ⟨b,o,g',cur,h1,h2,h3,h4,h5,h6,h7,h8⟩
  · omega
  · injection h3 with h3
    injection h3 with h3 _
    subst h3
    refine ⟨b,o,g,_,h1,h2,rfl,h4,h5,heap_setCell_same _ g c _ e u h6,by simpa using h7,by rw [Array.getElem?_setIfInBounds_self_of_lt oq],fun j hj hne => ?_⟩
    rw [Array.getElem?_setIfInBounds_ne (fun h => hne h.symm)]
    exact h8 j hj
theorem Cq.same {w W:World} {base top N c g j:Nat} {e:TypeId} {u v:Value} {ad:Option Addr} (h:Cq w W base top e N c u ad (some ⟨g,0,none⟩)) (hv:W.cell? ⟨g,j,none⟩ = some v) :
    Cq w (W.setCell ⟨g,j,none⟩ v) base top e N c u ad (some ⟨g,0,none⟩):=by
  obtain ⟨b,o,g',cur,h1,h2,h3,h4,h5,h6,h7,h8,h9⟩:=h
  injection h3 with h3
  injection h3 with h3 _
  subst h3
  rw [cell_of_row W _ _ cur e (0,0) h6] at hv
  have hcu:cur.setIfInBounds j v = cur:=by
    apply Array.ext_getElem?
    intro i
    by_cases hij:j = i
    · subst hij
      rw [Array.getElem?_setIfInBounds_self_of_lt (Array.getElem?_eq_some_iff.1 hv).1,hv]
    · rw [Array.getElem?_setIfInBounds_ne hij]
  exact ⟨b,o,g,cur,h1,h2,rfl,h4,h5,(heap_setCell_same _ g j _ e v h6).trans (by rw [hcu]),h7,h8,h9⟩
theorem Cq.row {α:Type} {P:World → Nat → Nat → α → Prop} {sz:Nat} {w W:World} {base top:Nat} {e:TypeId} {l:List α} {ad ad':Option Addr} {k c:Nat} {u:Value} {y:α} (hP:ByCells P sz) (hr:Row P sz w l ad) (hb:Below w.heap.size w W) (h:Cq w W base top e (l.length * sz) (k * sz + c) u ad ad') (hk:k < l.length) (hc:c < sz)
    (hy:∀ b o g,P w b o l[k] → (∀ j,j < sz → j ≠ c → W.cell? ⟨g,k * sz + j,none⟩ = w.cell? ⟨b,o + j,none⟩) → W.cell? ⟨g,k * sz + c,none⟩ = some u → P W g (k * sz) y):Row P sz W (l.set k y) ad':=by
  obtain ⟨b,o,g,cur,h1,h2,rfl,h4,h5,h6,h7,h8,h9⟩:=h
  have hkk:(k + 1) * sz ≤ l.length * sz:=Nat.mul_le_mul_right _ hk
  rw [Nat.succ_mul] at hkk
  rcases hr with hn | ⟨b2,o2,e2,hlt,h⟩
  · subst hn;cases hk
  · rw [h1] at e2
    injection e2 with e2
    injection e2 with e3 e4
    subst e3;subst e4
    refine .inr ⟨g,0,rfl,lt_of_block h6,fun i hi => ?_⟩
    have hi2:i < l.length:=by simpa using hi
    have hii:(i + 1) * sz ≤ l.length * sz:=Nat.mul_le_mul_right _ hi2
    rw [Nat.succ_mul] at hii
    rw [Nat.zero_add]
    by_cases hik:i = k
    · subst hik
      rw [List.getElem_set_self]
      refine hy b (o + i * sz) g (h i hi2) (fun j hj hjc => ?_) ?_
      · rw [cell_of_row _ _ _ _ e (0,0) h6,h9 _ oq oq,Nat.add_assoc]
      · rw [cell_of_row _ _ _ _ e (0,0) h6,h8]
    · rw [List.getElem_set_ne (fun e => hik e.symm)]
      refine hP w _ b (o + i * sz) g (i * sz) _ hb (fun j hj => ?_) (h i hi2)
      have hne:i * sz + j ≠ k * sz + c:=by
        intro he
        rcases Nat.lt_or_gt_of_ne hik with hlt | hlt
        · have:=Nat.mul_le_mul_right sz (show i + 1 ≤ k from hlt)
          rw [Nat.succ_mul] at this
          omega
        · have:=Nat.mul_le_mul_right sz (show k + 1 ≤ i from hlt)
          rw [Nat.succ_mul] at this
          omega
      rw [cell_of_row _ _ _ _ e (0,0) h6,h9 _ oq hne,Nat.add_assoc]
def BentAns (lo hi:Nat) (x:Ending) (w':World):Prop:=∃ (f:FD) (ai an aT al:Option Addr) (ci cn ct cl:Nat),x = .returned (fv f ai an aT al ci cn ct cl) ∧ ∀ q Z,lo ≤ q → q < hi → Upon q w' Z → FAP Z f ai an aT al
theorem res4 (X:World) (r:Nat) (v0 v1 v2 v3:Value):Upon r X ((((X.setCell ⟨r,0,none⟩ v0).setCell ⟨r,1,none⟩ v1).setCell ⟨r,2,none⟩ v2).setCell ⟨r,3,none⟩ v3) :=
  ((((Upon.refl r X).setAt (.inl rfl) _).setAt (.inl rfl) _).setAt (.inl rfl) _).setAt (.inl rfl) _
structure BtC (w W:World) (f:FD) (ai an aT al ai2 an2 aT2 al2:Option Addr) (b1 b2 b3 b4 b5:Nat):Prop where
  lo:w.heap.size ≤ b1 ∧ b1 ≤ b2 ∧ b2 ≤ b3 ∧ b3 ≤ b4 ∧ b4 ≤ b5
  c1:Cp w W b1 b2 53 (f.ins.length * 2) ai ai2
  c2:Cp w W b2 b3 56 (f.tasks.length * 4) aT aT2
  c3:Cp w W b3 b4 68 (f.tells.length * 5) al al2
  c4:Cp w W b4 b5 78 (f.nods.length * 10) an an2
  low:Below w.heap.size w W
  hf:FAP w f ai an aT al
section
variable {w W Y Z:World} {r q:Nat} {f:FD} {ai an aT al ai2 an2 aT2 al2:Option Addr} {b1 b2 b3 b4 b5:Nat}
theorem BtC.upon (h:BtC w W f ai an aT al ai2 an2 aT2 al2 b1 b2 b3 b4 b5) (hu:Upon r W Y) (h1:r < b1 ∨ b5 ≤ r) (h2:w.heap.size ≤ r):BtC w Y f ai an aT al ai2 an2 aT2 al2 b1 b2 b3 b4 b5:=by
  have hl:=h.lo
  exact ⟨hl,h.c1.upon hu oq,h.c2.upon hu oq,h.c3.upon hu oq,h.c4.upon hu oq,h.low.trans (hu.below h.low.size h2),h.hf⟩
theorem BtC.fin5 (h:BtC w W f ai an aT al ai2 an2 aT2 al2 b1 b2 b3 b4 b5) (g1:r < b1) (g2:w.heap.size ≤ r) (hu:Upon r W Y) (g3:q < b1) (g4:w.heap.size ≤ q) (hz:Upon q Y Z):FAP Z f ai2 an2 aT2 al2:=by
  have h':=(h.upon hu (.inl oq) g2).upon hz (.inl oq) g4
  exact ⟨h'.c1.row clkBy oq h.hf.ins h'.low,h'.c4.row ndBy oq h.hf.nods h'.low,h'.c2.row tskBy oq h.hf.tasks h'.low,h'.c3.row telBy oq h.hf.tells h'.low,h.hf.lens,h.hf.args,h.hf.tops⟩
theorem b9_low0 (h:Below w.heap.size w W) (h1:w.heap.size ≤ r) (hu:Upon r W Y):Below w.heap.size w Y:=h.trans (hu.below h.size h1)
theorem b9_low {g c:Nat} {u:Value} (h:Below w.heap.size w W) (hg:w.heap.size ≤ g) (g2:w.heap.size ≤ r) (hu:Upon r (W.setCell ⟨g,c,none⟩ u) Y):Below w.heap.size w Y :=
  (b9_below_set h hg u).trans (hu.below (by have:=h.size;simpa using this) g2)
theorem BtC.fin0 {g k:Nat} {tov:Int} (h:BtC w W f ai an aT al (some ⟨g,0,none⟩) an2 aT2 al2 b1 b2 b3 b4 b5) (hk:k < f.ins.length) (g1:r < b1) (g2:w.heap.size ≤ r) (hu:Upon r (W.setCell ⟨g,k * 2,none⟩ (.int .i64 tov)) Y) (g3:q < b1) (g4:w.heap.size ≤ q) (hz:Upon q Y Z) :
    FAP Z ⟨f.ins.set k (tov,f.ins[k].2),f.nods,f.tasks,f.tells⟩ (some ⟨g,0,none⟩) an2 aT2 al2:=by
  have hl:=h.lo
  obtain ⟨b,o,g',cur,_,_,hg1,hg2,hg3,_⟩:=h.c1.at oq
  injection hg1 with hg1
  injection hg1 with hg1 _
  subst hg1
  have hB:=b9_low0 (b9_low h.low oq g2 hu) g4 hz
  have qq:=(((h.c1.toSet (c:=k * 2 + 0) oq (.int .i64 tov)).upon hu (.inl oq)).upon hz (.inl oq)).row (y:=(tov,f.ins[k].2)) clkBy h.hf.ins hB hk oq (fun b o g hP hj hc => ⟨hc,(hj 1 oq oq).trans hP.2⟩)
  refine ⟨qq,(((h.c4.upon (b9_upon_set _) oq).upon hu (.inl oq)).upon hz (.inl oq)).row ndBy oq h.hf.nods hB,(((h.c2.upon (b9_upon_set _) oq).upon hu (.inl oq)).upon hz (.inl oq)).row tskBy oq h.hf.tasks hB,(((h.c3.upon (b9_upon_set _) oq).upon hu (.inl oq)).upon hz (.inl oq)).row telBy oq h.hf.tells hB,by have:=h.hf.lens;simpa using this,h.hf.args,h.hf.tops⟩
theorem BtC.fin1 {g k:Nat} {tov:Int} (h:BtC w W f ai an aT al ai2 an2 (some ⟨g,0,none⟩) al2 b1 b2 b3 b4 b5) (hk:k < f.tasks.length) (g1:r < b1) (g2:w.heap.size ≤ r) (hu:Upon r (W.setCell ⟨g,k * 4,none⟩ (.int .i64 tov)) Y) (g3:q < b1) (g4:w.heap.size ≤ q) (hz:Upon q Y Z) :
    FAP Z ⟨f.ins,f.nods,f.tasks.set k ⟨tov,f.tasks[k].per,f.tasks[k].ph,f.tasks[k].args⟩,f.tells⟩ ai2 an2 (some ⟨g,0,none⟩) al2:=by
  have hl:=h.lo
  obtain ⟨b,o,g',cur,_,_,hg1,hg2,hg3,_⟩:=h.c2.at oq
  injection hg1 with hg1
  injection hg1 with hg1 _
  subst hg1
  have hB:=b9_low0 (b9_low h.low oq g2 hu) g4 hz
  have qq:=(((h.c2.toSet (c:=k * 4 + 0) oq (.int .i64 tov)).upon hu (.inl oq)).upon hz (.inl oq)).row (y:=(⟨tov,f.tasks[k].per,f.tasks[k].ph,f.tasks[k].args⟩:TD)) tskBy h.hf.tasks hB hk oq (fun b o g hP hj hc => by
    obtain ⟨h0,h1,h2,ad,cap,h3,h4⟩:=hP
    exact ⟨hc,(hj 1 oq oq).trans h1,(hj 2 oq oq).trans h2,ad,cap,(hj 3 oq oq).trans h3,h4.below argSta hB⟩)
  refine ⟨(((h.c1.upon (b9_upon_set _) oq).upon hu (.inl oq)).upon hz (.inl oq)).row clkBy oq h.hf.ins hB,(((h.c4.upon (b9_upon_set _) oq).upon hu (.inl oq)).upon hz (.inl oq)).row ndBy oq h.hf.nods hB,qq,(((h.c3.upon (b9_upon_set _) oq).upon hu (.inl oq)).upon hz (.inl oq)).row telBy oq h.hf.tells hB,by have:=h.hf.lens;simpa using this,fun t ht => ?_,h.hf.tops⟩
  rcases List.mem_or_eq_of_mem_set ht with ht | rfl
  · exact h.hf.args t ht
  · exact h.hf.args f.tasks[k] (List.getElem_mem hk)
theorem BtC.fin3 {g k:Nat} {tov:Int} (h:BtC w W f ai an aT al ai2 an2 aT2 (some ⟨g,0,none⟩) b1 b2 b3 b4 b5) (hk:k < f.tells.length) (g1:r < b1) (g2:w.heap.size ≤ r) (hu:Upon r (W.setCell ⟨g,k * 5 + 4,none⟩ (.int .i64 tov)) Y) (g3:q < b1) (g4:w.heap.size ≤ q) (hz:Upon q Y Z) :
    FAP Z ⟨f.ins,f.nods,f.tasks,f.tells.set k ⟨f.tells[k].per,f.tells[k].ph,f.tells[k].arg,tov⟩⟩ ai2 an2 aT2 (some ⟨g,0,none⟩):=by
  have hl:=h.lo
  obtain ⟨b,o,g',cur,_,_,hg1,hg2,hg3,_⟩:=h.c3.at oq
  injection hg1 with hg1
  injection hg1 with hg1 _
  subst hg1
  have hB:=b9_low0 (b9_low h.low oq g2 hu) g4 hz
  have qq:=(((h.c3.toSet (c:=k * 5 + 4) oq (.int .i64 tov)).upon hu (.inl oq)).upon hz (.inl oq)).row (y:=(⟨f.tells[k].per,f.tells[k].ph,f.tells[k].arg,tov⟩:LD)) telBy h.hf.tells hB hk oq (fun b o g hP hj hc => by
    obtain ⟨h0,h1,h2,h4,ad,cap,h3,h5⟩:=hP
    exact ⟨(hj 0 oq oq).trans h0,(hj 1 oq oq).trans h1,(hj 2 oq oq).trans h2,hc,ad,cap,(hj 3 oq oq).trans h3,h5.below opSta hB⟩)
  refine ⟨(((h.c1.upon (b9_upon_set _) oq).upon hu (.inl oq)).upon hz (.inl oq)).row clkBy oq h.hf.ins hB,(((h.c4.upon (b9_upon_set _) oq).upon hu (.inl oq)).upon hz (.inl oq)).row ndBy oq h.hf.nods hB,(((h.c2.upon (b9_upon_set _) oq).upon hu (.inl oq)).upon hz (.inl oq)).row tskBy oq h.hf.tasks hB,qq,by have:=h.hf.lens;simpa using this,h.hf.args,fun t ht => ?_⟩
  rcases List.mem_or_eq_of_mem_set ht with ht | rfl
  · exact h.hf.tops t ht
  · exact h.hf.tops f.tells[k] (List.getElem_mem hk)
theorem BtC.fin4 {g k:Nat} {tov:Int} (h:BtC w W f ai an aT al ai2 (some ⟨g,0,none⟩) aT2 al2 b1 b2 b3 b4 b5) (hk:k < f.nods.length) (g1:r < b1) (g2:w.heap.size ≤ r) (hu:Upon r (W.setCell ⟨g,k * 10 + 2,none⟩ (.int .i64 tov)) Y) (g3:q < b1) (g4:w.heap.size ≤ q) (hz:Upon q Y Z) :
    FAP Z ⟨f.ins,f.nods.set k ⟨tov,f.nods[k].nps⟩,f.tasks,f.tells⟩ ai2 (some ⟨g,0,none⟩) aT2 al2:=by
  have hl:=h.lo
  obtain ⟨b,o,g',cur,_,_,hg1,hg2,hg3,_⟩:=h.c4.at oq
  injection hg1 with hg1
  injection hg1 with hg1 _
  subst hg1
  have hB:=b9_low0 (b9_low h.low oq g2 hu) g4 hz
  have qq:=(((h.c4.toSet (c:=k * 10 + 2) oq (.int .i64 tov)).upon hu (.inl oq)).upon hz (.inl oq)).row (y:=(⟨tov,f.nods[k].nps⟩:NB)) ndBy h.hf.nods hB hk oq (fun b o g hP hj hc => by
    obtain ⟨nm,pa,pc,kk,nm2,n2,d2,ea,el,ec,a2,a,h0,h1,h2,h3,h4,h5,h6,h7,h8,h9⟩:=hP
    exact ⟨nm,pa,pc,kk,nm2,n2,d2,ea,el,ec,a2,a,(hj 0 oq oq).trans h0,(hj 1 oq oq).trans h1,hc,(hj 3 oq oq).trans h3,(hj 4 oq oq).trans h4,(hj 5 oq oq).trans h5,(hj 6 oq oq).trans h6,(hj 7 oq oq).trans h7,(hj 8 oq oq).trans h8,(hj 9 oq oq).trans h9⟩)
  refine ⟨(((h.c1.upon (b9_upon_set _) oq).upon hu (.inl oq)).upon hz (.inl oq)).row clkBy oq h.hf.ins hB,qq,(((h.c2.upon (b9_upon_set _) oq).upon hu (.inl oq)).upon hz (.inl oq)).row tskBy oq h.hf.tasks hB,(((h.c3.upon (b9_upon_set _) oq).upon hu (.inl oq)).upon hz (.inl oq)).row telBy oq h.hf.tells hB,by have:=h.hf.lens;simpa using this,h.hf.args,h.hf.tops⟩
theorem BtC.fin2 {g k b6 b7 g5 cap5:Nat} {tov:Int} {ad oa:Option Addr} {oc:Nat} (h:BtC w W f ai an aT al ai2 an2 (some ⟨g,0,none⟩) al2 b1 b2 b3 b4 b5) (hk:k < f.tasks.length) (h6:b5 ≤ b6) (hn:0 < f.tasks[k].args.length)
    (hr:Row ArgR 2 w f.tasks[k].args ad) (c5:Cp w W b6 b7 63 (f.tasks[k].args.length * 2) ad (some ⟨g5,0,none⟩)) (hov:W.cell? ⟨g5,1,none⟩ = some (.slice oa f.tasks[k].args[0].ops.length oc)) (ht:I64 tov)
    (g1:r < b1) (g2:w.heap.size ≤ r) (hu:Upon r (((W.setCell ⟨g5,0,none⟩ (.int .i64 tov)).setCell ⟨g5,1,none⟩ (.slice oa f.tasks[k].args[0].ops.length oc)).setCell ⟨g,k * 4 + 3,none⟩ (.slice (some ⟨g5,0,none⟩) f.tasks[k].args.length cap5)) Y) (g3:q < b1) (g4:w.heap.size ≤ q) (hz:Upon q Y Z) :
    FAP Z ⟨f.ins,f.nods,f.tasks.set k ⟨f.tasks[k].node,f.tasks[k].per,f.tasks[k].ph,f.tasks[k].args.set 0 ⟨tov,f.tasks[k].args[0].ops⟩⟩,f.tells⟩ ai2 an2 (some ⟨g,0,none⟩) al2:=by
  have hl:=h.lo
  obtain ⟨b,o,g',cur,_,_,hg1,hg2,hg3,_⟩:=h.c2.at oq
  injection hg1 with hg1
  injection hg1 with hg1 _
  subst hg1
  obtain ⟨b',o',g5',cur5,_,_,hg5,hg6,hg7,_⟩:=c5.at oq
  injection hg5 with hg5
  injection hg5 with hg5 _
  subst hg5
  have hu5:Upon g5 W ((W.setCell ⟨g5,0,none⟩ (.int .i64 tov)).setCell ⟨g5,1,none⟩ (.slice oa f.tasks[k].args[0].ops.length oc)):=(b9_upon_set _).trans (b9_upon_set _)
  have h':=h.upon hu5 (.inr oq) oq
  have q5:=(c5.toSet (c:=0 * 2 + 0) oq (.int .i64 tov)).same (j:=1) (v:=.slice oa f.tasks[k].args[0].ops.length oc) (by
    rw [← hov]
    obtain ⟨b2,o2,gg,cc,_,_,e3,_,_,e6,_⟩:=c5.toSet (c:=0 * 2 + 0) oq (.int .i64 tov)
    obtain ⟨b3,o3,gg3,cc3,_,_,f3,_,_,f6,_⟩:=c5.at oq
    injection f3 with f3
    injection f3 with f3 _
    subst f3
    rw [cell_of_row _ _ _ _ 63 (0,0) f6,cell_of_row _ _ _ _ 63 (0,0) (heap_setCell_same _ g5 (0 * 2 + 0) _ 63 (.int .i64 tov) f6),Array.getElem?_setIfInBounds_ne oq])
  have hB:=b9_low0 (b9_low h'.low oq g2 hu) g4 hz
  have r5:=(((q5.upon (b9_upon_set (g:=g) (c:=k * 4 + 3) (.slice (some ⟨g5,0,none⟩) f.tasks[k].args.length cap5)) (.inl oq)).upon hu (.inl oq)).upon hz (.inl oq)).row (y:=(⟨tov,f.tasks[k].args[0].ops⟩:AD)) argBy hr hB hn oq (fun b o g hP hj hc => by
    obtain ⟨h0,ad,cap,h3,h4⟩:=hP
    exact ⟨hc,ad,cap,(hj 1 oq oq).trans h3,h4.below opSta hB⟩)
  have qq:=(((h'.c2.toSet (c:=k * 4 + 3) oq (.slice (some ⟨g5,0,none⟩) f.tasks[k].args.length cap5)).upon hu (.inl oq)).upon hz (.inl oq)).row (y:=(⟨f.tasks[k].node,f.tasks[k].per,f.tasks[k].ph,f.tasks[k].args.set 0 ⟨tov,f.tasks[k].args[0].ops⟩⟩:TD)) tskBy h.hf.tasks hB hk oq (fun b o g hP hj hc => by
    obtain ⟨h0,h1,h2,ad,cap,h3,h4⟩:=hP
    exact ⟨(hj 0 oq oq).trans h0,(hj 1 oq oq).trans h1,(hj 2 oq oq).trans h2,some ⟨g5,0,none⟩,cap5,by rw [List.length_set];exact hc,r5⟩)
  refine ⟨(((h'.c1.upon (b9_upon_set _) oq).upon hu (.inl oq)).upon hz (.inl oq)).row clkBy oq h.hf.ins hB,(((h'.c4.upon (b9_upon_set _) oq).upon hu (.inl oq)).upon hz (.inl oq)).row ndBy oq h.hf.nods hB,qq,(((h'.c3.upon (b9_upon_set _) oq).upon hu (.inl oq)).upon hz (.inl oq)).row telBy oq h.hf.tells hB,by have:=h.hf.lens;simpa using this,fun t ht' => ?_,h.hf.tops⟩
  rcases List.mem_or_eq_of_mem_set ht' with ht' | rfl
  · exact h.hf.args t ht'
  · have hh:=h.hf.args f.tasks[k] (List.getElem_mem hk)
    refine ⟨by rw [List.length_set];exact hh.1,fun a ha => ?_⟩
    rcases List.mem_or_eq_of_mem_set ha with ha | rfl
    · exact hh.2 a ha
    · exact ⟨(hh.2 _ (List.getElem_mem hn)).1,ht⟩
end
end Go.Proofs.YteaiemfhlpoieaaGreatDoor.syn
