/-
  Parts of the proof: Flt14, Flt15.
-/
import Derived.Test.YtpjficjlfibibaaGreatDoorQ27
import Derived.Deep.DeepCutAuto
import Derived.Deep.CutBlock
import Derived.Test.YtpjficjlfibibaaGreatDoorQ28
namespace Go.Proofs.YtpjficjlfibibaaGreatDoor.syn
open Go.RowKit Go.Shelf
set_option linter.unusedVariables false
set_option linter.unusedSimpArgs false
def Stays (e:TypeId) (w w':World):Prop:=∀ (k:Nat) (cur:Array Value) (t:TypeId) (fz:Nat × Nat),w.heap[k]? = some (Obj.cells cur t fz) → t ≠ e → w'.heap[k]? = some (Obj.cells cur t fz)
theorem Stays.trans {e:TypeId} {a b c:World} (h:Stays e a b) (k:Stays e b c):Stays e a c:=fun i cur t fz hi ht => k i cur t fz (h i cur t fz hi ht) ht
theorem Stays.of_below {e:TypeId} {a b:World} (h:Below a.heap.size a b):Stays e a b:=fun i cur t fz hi _ => (h.block i (lt_of_block hi)).trans hi
theorem Stays.of_grown {e:TypeId} {a b:World} {base size n:Nat} {v:Value} {xs:List Value} (ho:a.ownsRow base e size v n xs) (hg:a.grownBy b v.ownBlock):Stays e a b:=by
 intro i cur t fz hi ht
 refine (hg.block i (lt_of_block hi) (fun he => ?_)).trans hi
 rcases ho.2 with ⟨rfl,_⟩ | ⟨g,cap,cur',rfl,hb,hgg,_⟩
 ·cases he
 ·simp [Value.ownBlock] at he
  subst he
  rw [hi] at hgg
  injection hgg with hgg
  injection hgg with h1 h2 h3
  exact ht h2
theorem Stays.set {e:TypeId} (w:World) (b o:Nat) {cur:Array Value} {fz:Nat × Nat} (h:w.heap[b]? = some (.cells cur e fz)) (u:Value):Stays e w (w.setCell ⟨b,o,none⟩ u):=by
 intro i cur' t fz' hi ht
 refine (Below.heap_setCell _ _ _ _ (fun he => ?_)).trans hi
 have he:i = b:=he
 subst he
 rw [h] at hi
 injection hi with hi
 injection hi with h1 h2 h3
 exact ht h2.symm
theorem own_stays {w w':World} {base:Nat} {e e':TypeId} {size n:Nat} {v:Value} {xs:List Value} (h:w.ownsRow base e size v n xs) (hs:Stays e' w w') (hne:e ≠ e'):w'.ownsRow base e size v n xs:=by
 refine ⟨h.1,?_⟩
 rcases h.2 with h0 | ⟨g,cap,cur,hv,hb,hg,rest⟩
 ·exact .inl h0
 ·exact .inr ⟨g,cap,cur,hv,hb,hs g cur e _ hg hne,rest⟩
theorem own_nil (w:World) (base:Nat) (e:TypeId) (size:Nat):w.ownsRow base e size (.slice none 0 0) 0 []:=World.ownsRow_nil _ _ _ _
def RowM {α:Type} (Pe:World → List Value → α → Prop) (e:TypeId) (size:Nat) (w:World) (base:Nat) (v:Value) (l:List α):Prop :=
 ∃ cs:List (List Value),cs.length = l.length ∧ w.ownsRow base e size v l.length cs.flatten ∧ (∀ c ∈ cs,c.length = size) ∧ ∀ i (h:i < l.length) (h':i < cs.length),Pe w cs[i] l[i]
section
variable {α:Type} {Pe:World → List Value → α → Prop} {e:TypeId} {size:Nat} {w w':World} {base:Nat} {v:Value} {l:List α}
theorem RowM.nil:RowM Pe e size w base (.slice none 0 0) ([]:List α):=⟨[],rfl,own_nil _ _ _ _,by simp,fun i h => by simp at h⟩
theorem RowM.own (h:RowM Pe e size w base v l):∃ xs,w.ownsRow base e size v l.length xs:=by
 obtain ⟨cs,_,h1,_⟩:=h
 exact ⟨_,h1⟩
theorem RowM.form (h:RowM Pe e size w base v l):∃ ad cap,v = .slice ad l.length cap:=by
 obtain ⟨xs,h1⟩:=h.own
 exact ownR_form h1
theorem RowM.stays (h:RowM Pe e size w base v l) {e':TypeId} (hs:Stays e' w w') (hne:e ≠ e') (hP:∀ c x,Pe w c x → Pe w' c x):RowM Pe e size w' base v l:=by
 obtain ⟨cs,h1,h2,h3,h4⟩:=h
 exact ⟨cs,h1,own_stays h2 hs hne,h3,fun i hi hi' => hP _ _ (h4 i hi hi')⟩
theorem RowM.below (h:RowM Pe e size w base v l) (hb:Below w.heap.size w w') (hP:∀ c x,Pe w c x → Pe w' c x):RowM Pe e size w' base v l:=by
 obtain ⟨cs,h1,h2,h3,h4⟩:=h
 exact ⟨cs,h1,own_below h2 hb,h3,fun i hi hi' => hP _ _ (h4 i hi hi')⟩
theorem flatten_snoc (cs:List (List Value)) (c:List Value):(cs ++ [c]).flatten = cs.flatten ++ c:=by simp
theorem RowM.snoc {cs:List (List Value)} (h1:cs.length = l.length) (h3:∀ c ∈ cs,c.length = size) (h4:∀ i (h:i < l.length) (h':i < cs.length),Pe w' cs[i] l[i]) {c:List Value} (hc:c.length = size) {x:α} (hx:Pe w' c x) {v':Value}
  (hown:w'.ownsRow base e size v' (l.length + 1) (cs.flatten ++ c)):RowM Pe e size w' base v' (l ++ [x]):=by
 refine ⟨cs ++ [c],by simp [h1],by rw [flatten_snoc,List.length_append];exact hown,fun d hd => ?_,fun i hi hi' => ?_⟩
 ·rcases List.mem_append.1 hd with h | h
  ·exact h3 d h
  ·rw [List.mem_singleton.1 h];exact hc
 ·by_cases hl:i < l.length
  ·rw [List.getElem_append_left hl,List.getElem_append_left oq]
   exact h4 i hl oq
  ·have hi2:i = l.length:=by simp at hi;omega
   subst hi2
   rw [List.getElem_append_right (Nat.le_refl _),List.getElem_append_right oq]
   simp only [h1,Nat.sub_self,List.getElem_cons_zero]
   exact hx
theorem append_stays {wr w3 w4:World} {n:Nat} {xs:List Value} {ob:Obj} (hown:wr.ownsRow base e size v n xs) (hb:Below wr.heap.size wr w3) (hg:(w3.alloc ob).grownBy w4 v.ownBlock):Stays e wr w4 ∧ (∀ B,B ≤ base → B ≤ wr.heap.size → Below B wr w4) ∧ wr.heap.size ≤ w4.heap.size:=by
 have h3:Below wr.heap.size wr (w3.alloc ob):=hb.alloc hb.size _
 refine ⟨(Stays.of_below h3).trans (Stays.of_grown (own_below hown h3) hg),fun B hB hB2 => ?_,Nat.le_trans h3.size hg.size⟩
 exact (h3.mono hB2).grown hg (Nat.le_trans hB2 h3.size) (fun k ek => Nat.le_trans hB (own_ge' hown k ek))
theorem append_row {wr w4:World} {cs:List (List Value)} (h1:cs.length = l.length) (h2:wr.ownsRow base e size v l.length cs.flatten) (h3:∀ c ∈ cs,c.length = size) (h4:∀ i (h:i < l.length) (h':i < cs.length),Pe wr cs[i] l[i]) (hP:∀ c x,Pe wr c x → Pe w4 c x)
  {c:List Value} (hc:c.length = size) {x:α} (hx:Pe w4 c x) {v':Value} (hown4:w4.ownsRow base e size v' (l.length + 1) (cs.flatten ++ c)):RowM Pe e size w4 base v' (l ++ [x]) :=
 RowM.snoc h1 h3 (fun i hi hi' => hP _ _ (h4 i hi hi')) hc hx hown4
end
def ArgC (base:Nat) (w:World) (c:List Value) (x:Nat × List Op3):Prop:=∃ v,c = [.int .i64 (x.1:Int),v] ∧ w.ownsRow base 199 3 v x.2.length (opsV x.2)
def ClkC (w:World) (c:List Value) (x:Int × Int):Prop:=c = [.int .i64 x.1,.int .i64 x.2]
structure TK where
 node:Int
 per:Int
 ph:Int
 args:List (Nat × List Op3)
def TaskC (base:Nat) (w:World) (c:List Value) (x:TK):Prop:=∃ v,c = [.int .i64 x.node,.int .i64 x.per,.int .i64 x.ph,v] ∧ RowM (ArgC base) 73 2 w base v x.args
structure TL where
 per:Int
 ph:Int
 src:Nat
 ops:List Op3
 dl:Int
def TellC (base:Nat) (w:World) (c:List Value) (x:TL):Prop:=∃ v,c = [.int .i64 x.per,.int .i64 x.ph,.int .i64 (x.src:Int),v,.int .i64 x.dl] ∧ w.ownsRow base 199 3 v x.ops.length (opsV x.ops)
theorem Cells.stays {P:Nat → Prop} {w w':World} {e':TypeId} (hs:Stays e' w w') (hne:95 ≠ e'):∀ (l:PL) (b o:Nat),OkB w P b → Cells w P b l o → Cells w' P b l o:=by
 intro l
 induction l with
 | nil => intro b o _ _;trivial
 | cons k nm n d args a tl ih1 ih2 =>
  intro b o hb h
  have hb0:=hb
  obtain ⟨_,cs,hcs⟩:=hb
  have hc:∀ o,w'.cell? ⟨b,o,none⟩ = w.cell? ⟨b,o,none⟩:=fun o => World.cell?_of_block (w:=w) (a:=⟨b,o,none⟩) ((hs b cs _ _ hcs hne).trans hcs.symm)
  obtain ⟨h0,h1,h2,h3,h5,⟨ad,cap,h4,hcap,hd⟩,ht⟩:=h
  refine ⟨(hc _).trans h0,(hc _).trans h1,(hc _).trans h2,(hc _).trans h3,(hc _).trans h5,⟨ad,cap,(hc _).trans h4,hcap,?_⟩,ih2 b _ hb0 ht⟩
  rcases hd with hd | ⟨b',o',e,hb',hd⟩
  ·exact .inl hd
  ·obtain ⟨hp,cs',hcs'⟩:=hb'
   exact .inr ⟨b',o',e,⟨hp,cs',hs b' cs' _ _ hcs' hne⟩,ih1 b' o' ⟨hp,cs',hcs'⟩ hd⟩
theorem SlA.stays {P:Nat → Prop} {w w':World} {e':TypeId} {args:PL} {ad:Option Addr} (h:SlA w P args ad) (hs:Stays e' w w') (hne:95 ≠ e'):SlA w' P args ad:=by
 rcases h with h | ⟨b,o,e,⟨hp,cs,hcs⟩,h⟩
 ·exact .inl h
 ·exact .inr ⟨b,o,e,⟨hp,cs,hs b cs _ _ hcs hne⟩,h.stays hs hne _ _ _ ⟨hp,cs,hcs⟩⟩
def NodC (w:World) (c:List Value) (x:ND):Prop:=∃ pa pc ad cap,c = [.string x.nm,.slice pa x.ps.length pc,.int .i64 x.bud,.int .i64 x.body.k,.string x.body.nm,.int .i64 x.body.n,.int .i64 x.body.d,.slice ad x.body.args.len cap,.int .i64 x.body.a,.int .i64 x.a] ∧
 w.ownsRow 0 9 1 (.slice pa x.ps.length pc) x.ps.length (x.ps.map Value.string) ∧ x.body.args.len ≤ cap ∧ SlA w (fun _ => True) x.body.args ad
theorem NodC.stays {w w':World} {e':TypeId} {c:List Value} {x:ND} (h:NodC w c x) (hs:Stays e' w w') (h1:9 ≠ e') (h2:95 ≠ e'):NodC w' c x:=by
 obtain ⟨pa,pc,ad,cap,hc,ho,hl,ha⟩:=h
 exact ⟨pa,pc,ad,cap,hc,own_stays ho hs h1,hl,ha.stays hs h2⟩
theorem NodC.below {w w':World} {c:List Value} {x:ND} (h:NodC w c x) (hb:Below w.heap.size w w'):NodC w' c x:=by
 obtain ⟨pa,pc,ad,cap,hc,ho,hl,ha⟩:=h
 exact ⟨pa,pc,ad,cap,hc,own_below ho hb,hl,ha.keep (Same.of_below hb (Same.refl _ _))⟩
section
variable {base:Nat} {w w':World} {e':TypeId}
theorem ArgC.stays {c:List Value} {x:Nat × List Op3} (h:ArgC base w c x) (hs:Stays e' w w') (hne:199 ≠ e'):ArgC base w' c x:=by
 obtain ⟨v,h1,h2⟩:=h
 exact ⟨v,h1,own_stays h2 hs hne⟩
theorem TaskC.stays {c:List Value} {x:TK} (h:TaskC base w c x) (hs:Stays e' w w') (hne:199 ≠ e') (hne2:73 ≠ e'):TaskC base w' c x:=by
 obtain ⟨v,h1,h2⟩:=h
 exact ⟨v,h1,h2.stays hs hne2 (fun c x h => h.stays hs hne)⟩
theorem TellC.stays {c:List Value} {x:TL} (h:TellC base w c x) (hs:Stays e' w w') (hne:199 ≠ e'):TellC base w' c x:=by
 obtain ⟨v,h1,h2⟩:=h
 exact ⟨v,h1,own_stays h2 hs hne⟩
theorem ArgC.below {c:List Value} {x:Nat × List Op3} (h:ArgC base w c x) (hb:Below w.heap.size w w'):ArgC base w' c x:=by
 obtain ⟨v,h1,h2⟩:=h
 exact ⟨v,h1,own_below h2 hb⟩
theorem TaskC.below {c:List Value} {x:TK} (h:TaskC base w c x) (hb:Below w.heap.size w w'):TaskC base w' c x:=by
 obtain ⟨v,h1,h2⟩:=h
 exact ⟨v,h1,h2.below hb (fun c x h => h.below hb)⟩
theorem TellC.below {c:List Value} {x:TL} (h:TellC base w c x) (hb:Below w.heap.size w w'):TellC base w' c x:=by
 obtain ⟨v,h1,h2⟩:=h
 exact ⟨v,h1,own_below h2 hb⟩
theorem RowM.mono {α:Type} {Pe Pe':World → List Value → α → Prop} {e:TypeId} {size:Nat} {base base':Nat} {v:Value} {l:List α} (h:RowM Pe e size w base v l) (hb:base' ≤ base) (hP:∀ c x,Pe w c x → Pe' w c x):RowM Pe' e size w base' v l:=by
 obtain ⟨cs,h1,h2,h3,h4⟩:=h
 exact ⟨cs,h1,own_mono h2 hb,h3,fun i hi hi' => hP _ _ (h4 i hi hi')⟩
theorem ArgC.mono {base':Nat} {c:List Value} {x:Nat × List Op3} (h:ArgC base w c x) (hb:base' ≤ base):ArgC base' w c x:=by
 obtain ⟨v,h1,h2⟩:=h
 exact ⟨v,h1,own_mono h2 hb⟩
theorem TaskC.mono {base':Nat} {c:List Value} {x:TK} (h:TaskC base w c x) (hb:base' ≤ base):TaskC base' w c x:=by
 obtain ⟨v,h1,h2⟩:=h
 exact ⟨v,h1,h2.mono hb (fun c x h => h.mono hb)⟩
end
theorem infoApiArg:(Tryz.prog.info? 73).map (fun i => (i.zero,i.size,i.bytes)) = some (some (.agg #[.int .i64 0,.slice none 0 0]),2,32):=by kernel_rfl
theorem infoApiTask:(Tryz.prog.info? 100).map (fun i => (i.zero,i.size,i.bytes)) = some (some (.agg #[.int .i64 0,.int .i64 0,.int .i64 0,.slice none 0 0]),4,48):=by kernel_rfl
theorem infoApiTell:(Tryz.prog.info? 75).map (fun i => (i.zero,i.size,i.bytes)) = some (some (.agg #[.int .i64 0,.int .i64 0,.int .i64 0,.slice none 0 0,.int .i64 0]),5,56):=by kernel_rfl
theorem infoApiClk:(Tryz.prog.info? 49).map (fun i => (i.zero,i.size,i.bytes)) = some (some (.agg #[.int .i64 0,.int .i64 0]),2,16):=by kernel_rfl
theorem infoApiNode:(Tryz.prog.info? 97).map (fun i => (i.zero,i.size,i.bytes)) = some (some (.agg #[.string ⟨#[]⟩,.slice none 0 0,.int .i64 0,.int .i64 0,.string ⟨#[]⟩,.int .i64 0,.int .i64 0,.slice none 0 0,.int .i64 0,.int .i64 0]),10,128):=by kernel_rfl
theorem set44 {w:World} {b:Nat} {v0 v1 v2 v3:Value} {t:TypeId} (h:w.heap[b]? = some (.cells #[v0,v1,v2,v3] t (0,0))) (u0 u1 u2 u3:Value):((((w.setCell ⟨b,0,none⟩ u0).setCell ⟨b,1,none⟩ u1).setCell ⟨b,2,none⟩ u2).setCell ⟨b,3,none⟩ u3).heap[b]? = some (.cells #[u0,u1,u2,u3] t (0,0)):=by
 have h0:=heap_setCell_same _ b 0 _ t u0 h
 have h1:=heap_setCell_same _ b 1 _ t u1 h0
 have h2:=heap_setCell_same _ b 2 _ t u2 h1
 have h3:=heap_setCell_same _ b 3 _ t u3 h2
 simpa only [sA,sB,sC] using h3
theorem upon4 (w:World) (b:Nat) (u0 u1 u2 u3:Value):Upon b w ((((w.setCell ⟨b,0,none⟩ u0).setCell ⟨b,1,none⟩ u1).setCell ⟨b,2,none⟩ u2).setCell ⟨b,3,none⟩ u3) :=
 ((((Upon.refl b w).setAt (Or.inl rfl) _).setAt (Or.inl rfl) _).setAt (Or.inl rfl) _).setAt (Or.inl rfl) _
theorem Stays.of_upon {e:TypeId} {w w':World} {b:Nat} {cur:Array Value} {fz:Nat × Nat} (h:w.heap[b]? = some (.cells cur e fz)) (hu:Upon b w w'):Stays e w w':=by
 intro i cur' t fz' hi ht
 refine (hu.block i (lt_of_block hi) (fun he => ?_)).trans hi
 subst he
 rw [h] at hi
 injection hi with hi
 injection hi with h1 h2 h3
 exact ht h2.symm
structure TkAt (w:World) (e:PE) (way:ByteArray) (ad:Option Addr) (cap X:Nat) (nd pp ff:Int) (al:List (Nat × List Op3)) (i:Nat) (v:Value) (wr:World):Prop where
 le:i ≤ al.length
 hX:w.heap.size + 2 ≤ X
 b0:wr.heap[w.heap.size]? = some (spObj e ad cap way)
 b1:wr.heap[w.heap.size + 1]? = some (.cells #[.int .i64 0,.int .i64 0,.int .i64 0,.slice none 0 0] 100 (0,0))
 bx:wr.heap[X]? = some (.cells #[.int .i64 nd,.int .i64 pp,.int .i64 ff,v] 100 (0,0))
 row:RowM (ArgC w.heap.size) 73 2 wr w.heap.size v (al.take i)
 low:Below w.heap.size w wr
section
variable {w:World} {e:PE} {way:ByteArray} {ad:Option Addr} {cap X:Nat} {nd pp ff:Int} {al:List (Nat × List Op3)} {i:Nat} {v:Value} {wr:World}
theorem take_snoc {α:Type} {l:List α} {i:Nat} (h:i < l.length):l.take (i + 1) = l.take i ++ [l[i]]:=by
 rw [List.take_succ_eq_append_getElem h]
theorem TkAt.app (h:TkAt w e way ad cap X nd pp ff al i v wr) (hlt:i < al.length) {w6 w4:World} (hb6:Below wr.heap.size wr w6) {v6:Value} {sx:Nat} {ox:List Op3} (hx:al[i] = (sx,ox)) (hown6:w6.ownsRow w.heap.size 199 3 v6 ox.length (opsV ox)) {cs:List (List Value)} (h1:cs.length = (al.take i).length)
  (h2:wr.ownsRow w.heap.size 73 2 v i cs.flatten) (h3:∀ c ∈ cs,c.length = 2) (h4:∀ j (hj:j < (al.take i).length) (hj':j < cs.length),ArgC w.heap.size wr cs[j] (al.take i)[j]) {ob:Obj} {v':Value}
  (hown4:w4.ownsRow w.heap.size 73 2 v' (i + 1) (cs.flatten ++ [.int .i64 (sx:Int),v6])) (hg4:(w6.alloc ob).grownBy w4 v.ownBlock) :
  (w4.cell? ⟨X,3,none⟩ = some v ∧ w4.frozen? ⟨X,3,none⟩ = false) ∧ TkAt w e way ad cap X nd pp ff al (i + 1) v' (w4.setCell ⟨X,3,none⟩ v'):=by
 obtain ⟨hst,hbe,hsz⟩:=append_stays h2 hb6 hg4
 have htk:(al.take i).length = i:=by rw [List.length_take];omega
 have hst6:Stays 73 w6 w4:=(Stays.of_below ((Below.refl w6.heap.size w6).alloc (Nat.le_refl _) ob)).trans (Stays.of_grown (own_below (own_below h2 hb6) ((Below.refl _ _).alloc (Nat.le_refl _) ob)) hg4)
 have hx4:=hst X _ _ _ h.bx (by decide)
 have hXX:=h.hX
 have hlw:=h.low.size
 have hset:Stays 100 w4 (w4.setCell ⟨X,3,none⟩ v'):=Stays.set w4 X 3 hx4 v'
 have hother:∀ k,k ≠ X → (w4.setCell ⟨X,3,none⟩ v').heap[k]? = w4.heap[k]?:=fun k hk => Below.heap_setCell _ _ _ _ hk
 refine ⟨⟨by simp [World.cell?,hx4],by simp [World.frozen?,hx4]⟩,hlt,hXX,(hother _ oq).trans (hst _ _ _ _ h.b0 (by decide)),(hother _ oq).trans (hst _ _ _ _ h.b1 (by decide)),?_,?_,?_⟩
 ·have:=heap_setCell_same _ X 3 _ _ v' hx4
  simpa only [sA,sB,sC] using this
 ·rw [take_snoc hlt,hx]
  have hr:=append_row (Pe:=ArgC w.heap.size) h1 (by rw [htk];exact h2) h3 h4 (fun c x hc => hc.stays hst (by decide)) (c:=[.int .i64 (sx:Int),v6]) rfl (x:=(sx,ox)) ⟨v6,rfl,own_stays hown6 hst6 (by decide)⟩ (by rw [htk];exact hown4)
  exact hr.stays hset (by decide) (fun c x hc => hc.stays hset (by decide))
 ·exact (h.low.trans (hbe _ (Nat.le_refl _) hlw)).setCell (p:=⟨X,3,none⟩) (by show w.heap.size ≤ X;omega) _
end
def ArgIs (p:PG) (xIx fIx iIx:IE) (e:PE) (way:ByteArray) (r:Nat × List Op3):Prop:=∃ N ops,argGo p.flows p.ins.length xIx fIx iIx N e way [] = some (r.1,ops) ∧ r.2 = ops.reverse
theorem argIs_any {W0 w:World} (p:PG) (an ai af ao:Option Addr) (cn ci cf co:Nat) (hp:AP W0 p an ai af ao cn ci cf co) (hok:PgOK p) (mc mi mf mn mx m:Nat) (Lc Li Lf Ln Lx:List (ByteArray × Value)) (hM:Mkr W0 p an ai af ao cn ci cf co mc mi mf mn mx m Lc Li Lf Ln Lx w)
  (xIx fIx iIx:IE) (hX:IxIs Lx xIx) (hF:IxIs Lf fIx) (hI:IxIs Li iIx) (hxb:∀ k j,xIx k = some j → j ≤ 1000) (e:PE) (way:ByteArray) (ad:Option Addr) (cap:Nat) (hs:SpOK W0 e ad cap way) (r:Nat × List Op3) (hr:ArgIs p xIx fIx iIx e way r) :
  Calls Tryz.prog 103 #[.pointer (some ⟨m,0,none⟩),spv e ad cap way] w fun x w' => (∃ v,x = .returned (.agg #[.int .i64 (r.1:Int),v]) ∧ w'.ownsRow w.heap.size 199 3 v r.2.length (opsV r.2)) ∧ Below w.heap.size w w':=by
 obtain ⟨N,ops,h1,h2⟩:=hr
 refine (argOf_any p an ai af ao cn ci cf co hp hok mc mi mf mn mx m Lc Li Lf Ln Lx hM xIx fIx iIx hX hF hI hxb N e way ad cap hs r.1 ops h1).mono ?_
 rintro x w' ⟨⟨v,h3,h4⟩,h5⟩
 exact ⟨⟨v,h3,by rw [h2,List.length_reverse];exact h4⟩,h5⟩
set_option maxRecDepth 100000 in
set_option maxHeartbeats 4000000 in
theorem task_any {W0 w:World} (p:PG) (an ai af ao:Option Addr) (cn ci cf co:Nat) (hp:AP W0 p an ai af ao cn ci cf co) (hok:PgOK p) (mc mi mf mn mx m:Nat) (Lc Li Lf Ln Lx:List (ByteArray × Value)) (hM:Mkr W0 p an ai af ao cn ci cf co mc mi mf mn mx m Lc Li Lf Ln Lx w)
  (xIx fIx iIx nIx:IE) (hX:IxIs Lx xIx) (hF:IxIs Lf fIx) (hI:IxIs Li iIx) (hN:IxIs Ln nIx) (hxb:∀ k j,xIx k = some j → j ≤ 1000) (env:Env) (hC:EnvIs Lc env) (e:PE) (way:ByteArray) (ad:Option Addr) (cap:Nat) (hs:SpOK W0 e ad cap way)
  (pp ff:Int) (ht:clkE (clkOf env) e = (pp,ff)) (al:List (Nat × List Op3)) (hlen:al.length = e.args.len) (hal:∀ i c,e.args.at i = some c → ∀ h:i < al.length,ArgIs p xIx fIx iIx c (way ++ ⟨#[47]⟩ ++ dg i) al[i]) :
  Calls Tryz.prog 102 #[.pointer (some ⟨m,0,none⟩),spv e ad cap way] w fun x w' => (∃ v,x = .returned (.agg #[.int .i64 (((nIx e.nm).getD 0:Nat):Int),.int .i64 pp,.int .i64 ff,v]) ∧ RowM (ArgC w.heap.size) 73 2 w' w.heap.size v al) ∧ Below w.heap.size w w':=by
 have hlm:=hM.lt
 have hw0:=hM.low.size
 have HCO:=hid (fun (w':World) (hb:Below w.heap.size w w') => clockOf_any p an ai af ao cn ci cf co mc mi mf mn mx m Lc Li Lf Ln Lx env hC _ e (Nat.lt_succ_self _) hs.good w' ad cap hs.mem (hM.grow hb))
 rw [ht] at HCO
 dsimp only at HCO
 have HAR:=hid (fun (w':World) (hb:Below w.heap.size w w') i c (hc:e.args.at i = some c) => argCall_any (hM.low.trans (hb.mono hw0)) e c ad cap way i hs hc)
 have HAO:=hid (fun (w':World) (hb:Below w.heap.size w w') e5 way5 ad5 cap5 (hs5:SpOK W0 e5 ad5 cap5 way5) r hr => argIs_any p an ai af ao cn ci cf co hp hok mc mi mf mn mx m Lc Li Lf Ln Lx (hM.grow hb) xIx fIx iIx hX hF hI hxb e5 way5 ad5 cap5 hs5 r hr)
 have HM:=hid hM
 have HN:=hid hN
 have HAL:=hid hal
 have hfew:=hs.few
 have hlsz:=len_le_sz e.args
 obtain ⟨⟨z0,z1,z2,z3,z4,z5,z6,z7,z8⟩,zf⟩:=cells9m (show w.heap[m]? = _ from hM.box)
 clear hM hp hok hX hF hI hN hxb hC hs ht hal
 unfold spv ev at *
 obtain ⟨nd,hnd⟩:∃ nd:Int,(((nIx e.nm).getD 0:Nat):Int) = nd:=⟨_,rfl⟩
 have hlk:(if false then Value.tuple #[(getS e.nm Ln).getD (.int .i64 0),.bool (getS e.nm Ln).isSome] else (getS e.nm Ln).getD (.int .i64 0)) = .int .i64 nd:=by rw [← hnd,HN.out e.nm];cases nIx e.nm <;> rfl
 have HLK:=hid hlk
 rw [hnd]
 clear hnd hlk
 go_enter Tryz.func102,Tryz.ntmps102
 go_upto_region 1 with fail
 obtain ⟨W2,hW2⟩:∃ W2,(w.alloc (spObj e ad cap way)).alloc (.cells #[.int .i64 0,.int .i64 0,.int .i64 0,.slice none 0 0] 100) = W2:=⟨_,rfl⟩
 change Code.wp _ _ _ _ ((w.alloc (spObj e ad cap way)).alloc (.cells #[.int .i64 0,.int .i64 0,.int .i64 0,.slice none 0 0] 100))
 rw [hW2]
 have hB:Below w.heap.size w W2:=by rw [← hW2];exact bq
 have hs2:W2.heap.size = w.heap.size + 2:=by rw [← hW2];simp
 have hq0:W2.heap[w.heap.size]? = some (spObj e ad cap way):=by rw [← hW2];exact (Below.heap_alloc _ _ _ (by simp)).trans (heap_new w _)
 have hq1:W2.heap[w.heap.size + 1]? = some (.cells #[.int .i64 0,.int .i64 0,.int .i64 0,.slice none 0 0] 100 (0,0)):=by rw [← hW2];simpa using heap_new (w.alloc (spObj e ad cap way)) (.cells #[.int .i64 0,.int .i64 0,.int .i64 0,.slice none 0 0] 100)
 have hM2:=HM.out.grow hB
 have HM2:=hid hM2
 clear z0 z1 z2 z3 z4 z5 z6 z7 z8 zf hW2
 obtain ⟨⟨z0,z1,z2,z3,z4,z5,z6,z7,z8⟩,zf⟩:=cells9m (show W2.heap[m]? = _ from hM2.box)
 obtain ⟨⟨x0,x1,x2,x3,x4,x5,x6⟩,xf⟩:=cells7s hq0
 have HB:=hid hB
 have HQ0:=hid hq0
 have HQ1:=hid hq1
 have lb0:m < W2.heap.size:=by omega
 have lb1:w.heap.size < W2.heap.size:=by omega
 have lb2:w.heap.size + 1 < W2.heap.size:=by omega
 have lb3:w.heap.size + 2 ≤ W2.heap.size:=by omega
 clear hB hq0 hq1 hM2 hs2
 go_cut [5] (fun s5 W => Hid (∃ X,s5 = .pointer (some ⟨X,0,none⟩) ∧ W2.heap.size ≤ X ∧ W.heap[X]? = some (.cells #[.int .i64 nd,.int .i64 pp,.int .i64 ff,.slice none 0 0] 100 (0,0)) ∧ Below W2.heap.size W2 W))
 case first =>
  have KB:=hid (show ∀ W:World,Below W2.heap.size W2 W → (fun w' => w'.cell? ⟨m,7,none⟩ = some (.map (some mn)) ∧ w'.cell? ⟨w.heap.size,0,none⟩ = some (.int .i64 e.k) ∧ w'.cell? ⟨w.heap.size,1,none⟩ = some (.string e.nm) ∧ w'.cell? ⟨w.heap.size,2,none⟩ = some (.int .i64 e.n) ∧ w'.cell? ⟨w.heap.size,3,none⟩ = some (.int .i64 e.d) ∧ w'.cell? ⟨w.heap.size,4,none⟩ = some (.slice ad e.args.len cap) ∧ w'.cell? ⟨w.heap.size,5,none⟩ = some (.int .i64 e.a) ∧ (Instr.lookup 184 (.map (some mn)) (.string e.nm) false).run Tryz.prog w' = .ok (.int .i64 nd) w') W from fun W hb => by
   have h:=map_lookS fintsMap (HM2.out.nd.below hb) e.nm false
   rw [HLK.out] at h
   exact ⟨(hb.cell (p:=⟨m,7,none⟩) lb0).trans z7,(hb.cell (p:=⟨w.heap.size,0,none⟩) lb1).trans x0,(hb.cell (p:=⟨w.heap.size,1,none⟩) lb1).trans x1,(hb.cell (p:=⟨w.heap.size,2,none⟩) lb1).trans x2,(hb.cell (p:=⟨w.heap.size,3,none⟩) lb1).trans x3,(hb.cell (p:=⟨w.heap.size,4,none⟩) lb1).trans x4,(hb.cell (p:=⟨w.heap.size,5,none⟩) lb1).trans x5,h⟩)
  clear z0 z1 z2 z3 z4 z5 z6 z7 z8 zf x0 x1 x2 x3 x4 x5 x6 xf
  go_region_held3 (fun w' => w'.cell? ⟨m,7,none⟩ = some (.map (some mn)) ∧ w'.cell? ⟨w.heap.size,0,none⟩ = some (.int .i64 e.k) ∧ w'.cell? ⟨w.heap.size,1,none⟩ = some (.string e.nm) ∧ w'.cell? ⟨w.heap.size,2,none⟩ = some (.int .i64 e.n) ∧ w'.cell? ⟨w.heap.size,3,none⟩ = some (.int .i64 e.d) ∧ w'.cell? ⟨w.heap.size,4,none⟩ = some (.slice ad e.args.len cap) ∧ w'.cell? ⟨w.heap.size,5,none⟩ = some (.int .i64 e.a) ∧ (Instr.lookup 184 (.map (some mn)) (.string e.nm) false).run Tryz.prog w' = .ok (.int .i64 nd) w') ((exact KB.out _ bq)) (first | (go_at_call 143;refine (HCO.out _ bq).mono ?_;rintro x w1 ⟨rfl,hb1⟩;have hz1:W2.heap.size ≤ w1.heap.size:=(by have h:=hb1.size;first | exact h | (simp at h;omega));first | (have hca:w1.heap[W2.heap.size]? = some (.cells #[.int .i64 0,.int .i64 0,.int .i64 0,.slice none 0 0] 100 (0,0)):=(hb1.block W2.heap.size (by simp)).trans (heap_new W2.drew _);have hcc:=cells4 hca;obtain ⟨⟨v0,v1,v2,v3⟩,vf⟩:=hcc;have HCA:=hid hca;clear hca) | skip))
  all_goals
   go_wp2_with fail
   go_meet
   first | exact ⟨_,rfl,(by first | exact Nat.le_refl _ | assumption | (simp;done) | omega),set44 HCA.out _ _ _ _,bq⟩ | exact ⟨_,rfl,(by first | exact Nat.le_refl _ | assumption | (simp;done) | omega),heap_new _ _,bq⟩
 case rest =>
  obtain ⟨X,rfl,hX,hXb,hBX⟩:=hcut.out
  clear hcut z0 z1 z2 z3 z4 z5 z6 z7 z8 zf x0 x1 x2 x3 x4 x5 x6 xf
  obtain ⟨W3,rfl⟩:∃ W3:World,W3 = wc:=⟨_,rfl⟩
  have HT0:=hid (show TkAt w e way ad cap X nd pp ff al 0 (.slice none 0 0) W3 from ⟨Nat.zero_le _,by omega,(hBX.block _ lb1).trans HQ0.out,(hBX.block _ lb2).trans HQ1.out,hXb,by rw [List.take_zero];exact RowM.nil,HB.out.trans (hBX.mono oq)⟩)
  have hx0:=(hBX.block _ lb1).trans HQ0.out
  obtain ⟨⟨x0,x1,x2,x3,x4,x5,x6⟩,xf⟩:=cells7s hx0
  clear hXb hBX hX hx0 HQ0 HQ1 HLK HCO
  go_wp2
  go_loopw [24] (fun s24 wr => Hid (∃ (i:Nat) (v:Value),s24 = .int .i64 (i:Int) ∧ TkAt w e way ad cap X nd pp ff al i v wr)) (fun s24 _ => al.length - (intOf s24).toNat)
  case atStart => exact ⟨0,_,rfl,HT0.out⟩
  case round =>
   obtain ⟨i,v,rfl,hT⟩:=hrel.out
   clear hrel HT0 x0 x1 x2 x3 x4 x5 x6 xf
   have HT:=hid hT
   obtain ⟨⟨y0,y1,y2,y3⟩,yf⟩:=cells4 hT.bx
   have hle:=hT.le
   have hXX:=hT.hX
   have hlX:=lt_of_block hT.bx
   have hlw:=hT.low.size
   by_cases hlt:i < al.length
   ·have hil:(i:Int) < (e.args.len:Int):=by omega
    obtain ⟨⟨x0,x1,x2,x3,x4,x5,x6⟩,xf⟩:=cells7s hT.b0
    obtain ⟨c,hc,_⟩:=PL.at_some e.args i oq
    have HAI:=hid (HAL.out i c hc hlt)
    obtain ⟨⟨sx,ox⟩,hsx⟩:∃ r,al[i] = r:=⟨_,rfl⟩
    rw [hsx] at HAI
    have HSX:=hid hsx
    have HARG:=hid (fun (w':World) (hb:Below wr.heap.size wr w') => HAR.out w' (HT.out.low.trans (hb.mono hlw)) i c hc)
    obtain ⟨cs,r1,r2,r3,r4⟩:=hT.row
    have htk:(al.take i).length = i:=by rw [List.length_take];omega
    rw [htk] at r2
    obtain ⟨av,cv,rfl⟩:=ownR_form r2
    have HR1:=hid r1
    have HR2:=hid r2
    have HR3:=hid r3
    have HR4:=hid r4
    obtain ⟨i0,hi0,hi1,hi2,hi3⟩:=info_parts infoApiArg
    have HIO:=hid (And.intro hi0 (And.intro hi1 (And.intro hi2 hi3)))
    obtain ⟨k5,nm5,n5,d5,args5,a5⟩:=c
    simp only at HARG
    clear hT r1 r2 r3 r4 hsx hc hi0 hi1 hi2 hi3 htk
    go_upto_region 5 with fail
    have hX5:X < wr.heap.size:=hlX
    go_region_law (first | (refine step_append_lies _ (by rfl) _ _ _ (by rfl) w.heap.size 73 i0 _ 2 32 Tryz.underlying98 HIO.out.1 HIO.out.2.1 HIO.out.2.2.1 HIO.out.2.2.2 rfl oq (.slice av i cv) i cs.flatten (by rfl) ((own_below HR2.out HB6.out).alloc _) ⟨w6.heap.size,0,none⟩ 1 1 [.int .i64 (sx:Int),.slice av6 ox.length cv6] (by rfl) (by rfl) (World.news_of_block (heap_alloc_new _ _)) (by simp [Value.oneCell']) oq (by unfold maxLen;omega) oq (by simp;have:=HB6.out.size;omega) (w6.heap.size + 1) (by simp) ?_;intro gg cap4 w4 hown4 hgrow4 hat4 hlt4;have hAP:=HT.out.app hlt HB6.out HSX.out HO6.out HR1.out HR2.out HR3.out HR4.out hown4 hgrow4;obtain ⟨⟨kz4,kf4⟩,hnx⟩:=hAP;have HNX:=hid hnx;clear hnx hown4 hgrow4) | (go_simp;first | (go_at_call 99;refine (HARG.out _ bq).mono ?_;rintro x w5 ⟨⟨ad5,cap5,rfl,hsp5⟩,hb5⟩;have hb5':Below wr.heap.size wr w5:=bq;obtain ⟨⟨t0,t1,t2,t3⟩,tf⟩:=cells4 ((hb5'.block X hX5).trans HT.out.bx);have HSP5:=hid hsp5;have HB5:=hid hb5';have hx5:X < w5.heap.size:=Nat.lt_of_lt_of_le hX5 hb5'.size;have hx5n:¬ X = w5.heap.size:=Nat.ne_of_lt hx5;clear hb5 hb5' hsp5) | (go_at_call 103;refine (HAO.out w5 (HT.out.low.trans (HB5.out.mono hlw)) _ _ _ _ HSP5.out _ HAI.out).mono ?_;rintro x w6 ⟨⟨v6,rfl,ho6⟩,hb6⟩;obtain ⟨av6,cv6,rfl⟩:=ownR_form ho6;have hb6':Below wr.heap.size wr w6:=HB5.out.trans (hb6.mono HB5.out.size);obtain ⟨⟨t0,t1,t2,t3⟩,tf⟩:=cells4 ((hb6'.block X hX5).trans HT.out.bx);have HO6:=hid (own_mono ho6 (Nat.le_trans hlw HB5.out.size));have HB6:=hid hb6';have hx6:X < w6.heap.size:=Nat.lt_of_lt_of_le hX5 hb6'.size;have hx6n:¬ X = w6.heap.size:=Nat.ne_of_lt hx6;clear hb6 hb6' ho6)))
    all_goals
     go_wp2
     exact ⟨hid ⟨i + 1,_,by go_num,HNX.out⟩,by simp [intOf];omega⟩
   ·obtain ⟨⟨q0,q1,q2,q3⟩,qf⟩:=cells4 hT.b1
    have hxn:¬ X = w.heap.size + 1:=by omega
    have hil:¬ (i:Int) < (e.args.len:Int):=by omega
    clear hT
    obtain ⟨⟨x0,x1,x2,x3,x4,x5,x6⟩,xf⟩:=cells7s HT.out.b0
    obtain ⟨av,cv,hav⟩:=HT.out.row.form
    rw [show (al.take i).length = i by rw [List.length_take];omega] at hav
    subst hav
    go_wp2
    have hu:=upon4 wr (w.heap.size + 1) (.int .i64 nd) (.int .i64 pp) (.int .i64 ff) (.slice av i cv)
    refine bodyPost_ret (v:=.agg #[.int .i64 nd,.int .i64 pp,.int .i64 ff,.slice av i cv]) ?_ rfl ⟨⟨_,rfl,?_⟩,?_⟩
    ·simp only [results,Tryz.results102];go_simp
    ·have hr:=HT.out.row
     rw [List.take_of_length_le oq] at hr
     have hst:=Stays.of_upon HT.out.b1 hu
     exact hr.stays hst (by decide) (fun c x h => h.stays hst (by decide))
    ·exact HT.out.low.trans (hu.below hlw (Nat.le_add_right _ 1))
end Go.Proofs.YtpjficjlfibibaaGreatDoor.syn
