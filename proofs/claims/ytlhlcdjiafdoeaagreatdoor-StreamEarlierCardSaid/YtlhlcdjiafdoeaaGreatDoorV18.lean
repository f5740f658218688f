/- Parts of the proof. -/
import Derived.Test.YtlhlcdjiafdoeaaGreatDoorV17
set_option linter.all false
set_option maxRecDepth 100000
set_option maxHeartbeats 16000000
namespace Go.Proofs.YtlhlcdjiafdoeaaGreatDoor.syn
open Go.RowKit
theorem qX {F:Fence} {n l:Nat} {P:Program} {o:Oper} {a:Act} {w:World} {K:Act→World→Prop} {Q:Exit→Act→World→Prop} (hro:F.round=none) (hd:∀c,o.op≠.defer c) (h:o.wpIn F n P a w K Q):o.wpIn (F.inRound l) n P a w K Q:=by
 unfold Oper.wpIn at *
 rw[hro,Oper.semAt_none] at h
 rw[Oper.semAt_eq _ _ _ hd]
 refine⟨h.1,?_⟩
 have h2:=h.2
 generalize (execOp a.eval o).run P w=r at *
 cases r with
 | ok x w'=>cases x<;>exact h2
 | halt x w'=>cases x<;>exact h2
theorem GI {F:Fence} {n l:Nat} {P:Program} {md:Region.Mode} {ops:Array Oper} {Q:Exit→Act→World→Prop} (hro:F.round=none) (hd:∀(i:Nat) (o:Oper),ops[i]?=some o→∀c,o.op≠.defer c) :
  ∀(fuel:Nat) (listed:Array Bool) (a:Act) (w:World),wpAnyIn F n P md ops Q fuel listed a w→wpAnyIn (F.inRound l) n P md ops Q fuel listed a w:=by
 intro fuel
 induction fuel with
 | zero=>intro listed a w h;exact h
 | succ fuel ih =>
  intro listed a w h
  refine⟨h.1,fun i hi=>?_⟩
  have h1:=wpOpIn_mono (fun a' w' h'=>ih (listed.setIfInBounds i true) a' w' h') (h.2 i hi)
  unfold wpOpIn at *
  cases ho:ops[i]? with
  | none=>simp only[ho] at h1 ⊢;exact h1
  | some o =>
   simp only[ho] at h1 ⊢
   split
   ·rename_i hw
    simp only[hw,if_true] at h1
    exact qX hro (hd i o ho) h1
   rename_i hw
   simp only[hw] at h1
   exact h1
def Ua (o:Oper):Bool:=match o.op with|.defer _=>false|_=>true
theorem Ug {n l id:Nat} {P:Program} {ops:Array Oper} {Q:Exit→Act→World→Prop} {a:Act} {w:World} (hm:P.follows .mixedOrders=true) (hd:ops.toList.all Ua=true)
  (h:wpAnyIn Fence.wide n P .any ops Q ops.size (Array.replicate ops.size false) a { w with drawn:=w.drawn+1 }):(Code.region id ops true).wpIn (Fence.wide.inRound l) n P Q a w:=by
 refine wpIn_region_any hm (GI rfl (fun i o ho c e=>?_) _ _ _ _ h)
 have hmem:o∈ops.toList:=by
  have:=Array.mem_of_getElem? ho
  simpa using this
 have:=List.all_eq_true.1 hd o hmem
 unfold Ua at this
 rw[e] at this
 cases this
theorem yW {n:Nat} {P:Program} {row:String} {args:Array Value} {w:World} {R:Value→World→Prop} (h:Rows P row args w R):RowsIn Fence.wide n P row args w R :=
 fun c cs _=>let ⟨v,w',r,s⟩:=h c cs;⟨v,w',r,stepsIn_wide.2 s⟩
theorem qD {n:Nat} {P:Program} {o:Oper} {a:Act} {w:World} {K:Act→World→Prop} {Q:Exit→Act→World→Prop} (h:o.wp P a w K Q):o.wpIn Fence.wide n P a w K Q:=by
 unfold Oper.wpIn Oper.wp at *
 refine⟨fun _ _=>trivial,?_⟩
 rw[show(Fence.wide).round=none from rfl,Oper.semAt_none]
 generalize (execOp a.eval o).run P w=r at *
 cases r with
 | ok x w' =>
  cases x<;>first|exact h|exact⟨(fun k=>nomatch k),callsIn_wide.2 h⟩|exact⟨(fun k=>nomatch k),yW h⟩|exact h.elim
 | halt x w'=>cases x<;>first|exact h|exact h.elim
theorem zn {n:Nat} {P:Program} {ops:Array Oper} {Q:Exit→Act→World→Prop} {i:Nat} {K:Act→World→Prop} {a:Act} {w:World} (hlet:¬LetsOut Q) (h:wpOp P ops Q i K a w):wpOpIn Fence.wide n P ops Q i K a w:=by
 unfold wpOp at h
 unfold wpOpIn
 cases ho:ops[i]? with
 | none=>simp only[ho] at h ⊢;exact h
 | some o =>
  simp only[ho] at h ⊢
  split
  ·rename_i hw
   simp only[hw,if_true] at h
   exact qD (h.resolve_right (fun k=>hlet k.2))
  rename_i hw
  simp only[hw] at h
  exact⟨fun _ _=>trivial,h⟩
theorem Vm {n:Nat} {P:Program} {md:Region.Mode} {ops:Array Oper} {Q:Exit→Act→World→Prop} (hlet:¬LetsOut Q) :
  ∀(fuel:Nat) (listed:Array Bool) (a:Act) (w:World),wpAny P md ops Q fuel listed a w→wpAnyIn Fence.wide n P md ops Q fuel listed a w:=by
 intro fuel
 induction fuel with
 | zero=>intro listed a w h;exact h
 | succ fuel ih =>
  intro listed a w h
  exact⟨h.1,fun i hi=>wpOpIn_mono (fun a' w' h'=>ih _ a' w' h') (zn hlet (h.2 i hi))⟩
theorem UD {ℓ n id:Nat} {P:Program} {Q:Exit→Act→World→Prop} {a:Act} {w:World} {l:List Oper} (k:Nat) (hm:P.follows .mixedOrders=true) (hd:l.all Ua=true) (hlet:¬LetsOut Q) (hB:Region.lexTailB .any l.toArray k=true)
  (h:wpStill P l.toArray { w with drawn:=w.drawn+1 } (fun a'=>wpList P l.toArray Q (l.drop k) a' { w with drawn:=w.drawn+1 }) (l.take k) a):(Code.region id l.toArray true).wpIn (Fence.wide.inRound ℓ) n P Q a w:=by
 simp only[Region.lexTailB,Bool.and_eq_true,decide_eq_true_eq] at hB
 obtain⟨⟨⟨⟨hsel,hn⟩,hs⟩,hc⟩,hlex⟩:=hB
 have hn':k<l.length:=by simpa using hn
 have htl:(l.take k).length=k:=by simp;omega
 have hdl:(l.drop k).length=l.toArray.size-k:=by simp
 have inv0:HeadInv .any l.toArray k (Array.replicate l.toArray.size false) :=
  ⟨by simp,fun j oj _ hl=>(by rw[getD_replicate_false] at hl;cases hl),fun t _ ht=>getD_in (by simpa using ht) (getD_replicate_false _ _)⟩
 have H:=wpAnyL_lex (md:=.any) (g:=l.toArray.size-k) hsel hs hc hn (l.take k) 0 _ a (fun j hj=>by
  have hj':j<k:=by rw[htl] at hj;exact hj
  simp[hj']) (by simpa using htl) inv0 (by rw[htl];exact hlex) h
 refine Ug hm (by simpa using hd) (Vm hlet _ _ _ _ ?_)
 have:=wpAny_of_head (Q':=Q) (g:=l.toArray.size-k) (fun listed a' hL=>by
  have:=wpAny_of_seq (md:=.any) (Q':=Q) (l.drop k) k listed a' { w with drawn:=w.drawn+1 } (fun j=>by simp[List.getElem?_drop]) (by rw[hdl];exact hL.1) hL.2
  rwa [hdl] at this) _ _ _ H
 rw[htl,show k+(l.toArray.size-k)=l.toArray.size by omega] at this
 exact this
theorem jS {ℓ n id:Nat} {P:Program} {ops:Array Oper} {Q:Exit→Act→World→Prop} {a:Act} {w:World} (hm:P.follows .mixedOrders=true) (hd:ops.toList.all Ua=true) (hlet:¬LetsOut Q)
  (h:wpAny P .any ops Q ops.size (Array.replicate ops.size false) a { w with drawn:=w.drawn+1 }):(Code.region id ops true).wpIn (Fence.wide.inRound ℓ) n P Q a w :=
 Ug hm hd (Vm hlet _ _ _ _ h)
open Go.RowKit Go.Shelf
def G8 (p:PG) (an ai af ao:Option Addr) (cn ci cf co:Nat) (mc mi mf mn mx:Nat):Obj :=
 .cells #[.slice an p.nodes.length cn,.slice ai p.ins.length ci,.slice af p.flows.length cf,.slice ao p.outs.length co,.map (some mc),.map (some mi),.map (some mf),.map (some mn),.map (some mx)] 162 (0,0)
def S6 (m bx mc:Nat) (nm:ByteArray) (per ph fa:Int) (w':World):Prop :=
 w'.cell? ⟨m,4,none⟩=some (.map (some mc))∧w'.cell? ⟨bx,0,none⟩=some (.string nm)∧w'.cell? ⟨bx,1,none⟩=some (.int .i64 per)∧w'.cell? ⟨bx,2,none⟩=some (.int .i64 ph)∧w'.cell? ⟨bx,3,none⟩=some (.int .i64 fa)
def Zcj (w:World) (p:PG) (an ai af ao:Option Addr) (cn ci cf co:Nat) (env':Env) (x:Ending) (w':World):Prop :=
 ∃m mc mi mf mn mx Lc Li Lf Ln,x=.returned (.pointer (some ⟨m,0,none⟩))∧MkS w w.heap.size (G8 p an ai af ao cn ci cf co mc mi mf mn mx) mc mi mf mn mx m w' Lc Li Lf Ln ∧
  Xt Lc (UO env' p.flows (YX p.ins))∧Xf Li (inI (p.ins.map (·.nm)) 0 (fun _=>none))∧Xf Lf (inI (p.flows.map (·.nm)) 0 (fun _=>none))∧Xf Ln (inI (p.nodes.map (·.nm)) 0 (fun _=>none))
def Kl (w:World) (p:PG) (an ai af ao:Option Addr) (cn ci cf co:Nat) (W:World) (Lc Li Lf Ln:List (ByteArray × Value)):Prop :=
 MkS w w.heap.size (G8 p an ai af ao cn ci cf co (w.heap.size+1) (w.heap.size+1+1) (w.heap.size+1+1+1) (w.heap.size+1+1+1+1) (w.heap.size+1+1+1+1+1)) (w.heap.size+1) (w.heap.size+1+1) (w.heap.size+1+1+1) (w.heap.size+1+1+1+1) (w.heap.size+1+1+1+1+1) (w.heap.size+1+1+1+1+1+1) W Lc Li Lf Ln ∧
  W.heap[w.heap.size]?=some (.cells #[.slice an p.nodes.length cn,.slice ai p.ins.length ci,.slice af p.flows.length cf,.slice ao p.outs.length co] 27 (0,0))
def Nw1 (w:World) (p:PG) (an ai af ao:Option Addr) (cn ci cf co:Nat) (v:Value) (wr:World):Prop :=
 ∃(i:Nat) (env:Env) (e:IE) (Lc Li:List (ByteArray × Value)),v=.int .i64 (i:Int)∧i≤p.ins.length∧Kl w p an ai af ao cn ci cf co wr Lc Li [] []∧Xt Lc env∧Xf Li e∧UQ (p.ins.drop i) env=YX p.ins∧inI ((p.ins.drop i).map (·.nm)) i e=inI (p.ins.map (·.nm)) 0 (fun _=>none)
def Nw2 (w:World) (p:PG) (an ai af ao:Option Addr) (cn ci cf co:Nat) (env':Env) (Li:List (ByteArray × Value)) (v:Value) (wr:World):Prop :=
 ∃(i:Nat) (env:Env) (e:IE) (Lc Lf:List (ByteArray × Value)),v=.int .i64 (i:Int)∧i≤p.flows.length∧Kl w p an ai af ao cn ci cf co wr Lc Li Lf []∧Xt Lc env∧Xf Lf e∧UO env' (p.flows.drop i) env=UO env' p.flows (YX p.ins)∧inI ((p.flows.drop i).map (·.nm)) i e=inI (p.flows.map (·.nm)) 0 (fun _=>none)
def Nw3 (w:World) (p:PG) (an ai af ao:Option Addr) (cn ci cf co:Nat) (Lc Li Lf:List (ByteArray × Value)) (v:Value) (wr:World):Prop :=
 ∃(i:Nat) (e:IE) (Ln:List (ByteArray × Value)),v=.int .i64 (i:Int)∧i≤p.nodes.length∧Kl w p an ai af ao cn ci cf co wr Lc Li Lf Ln∧Xf Ln e∧inI ((p.nodes.drop i).map (·.nm)) i e=inI (p.nodes.map (·.nm)) 0 (fun _=>none)
theorem cell0 {w:World} {b:Nat} {v:Value} {vs:List Value} {t:TypeId} (h:w.heap[b]?=some (.cells (v::vs).toArray t (0,0))):w.cell? ⟨b,0,none⟩=some v∧∀o,w.frozen? ⟨b,o,none⟩=false:=by
 refine⟨by simp[World.cell?,h],fun o=>by simp[World.frozen?,h]⟩
theorem Kl.grow {w:World} {p:PG} {an ai af ao:Option Addr} {cn ci cf co:Nat} {W W':World} {Lc Li Lf Ln:List (ByteArray × Value)} (h:Kl w p an ai af ao cn ci cf co W Lc Li Lf Ln) (hb:Below W.heap.size W W'):Kl w p an ai af ao cn ci cf co W' Lc Li Lf Ln :=
 ⟨h.1.grow hb,(hb.block _ (Zb h.2)).trans h.2⟩
theorem ga (w:World) (p:PG) (an ai af ao:Option Addr) (cn ci cf co:Nat):Kl w p an ai af ao cn ci cf co (((((((w.alloc (.cells #[.slice an p.nodes.length cn,.slice ai p.ins.length ci,.slice af p.flows.length cf,.slice ao p.outs.length co] 27)).alloc (.map #[] 0)).alloc (.map #[] 0)).alloc (.map #[] 0)).alloc (.map #[] 0)).alloc (.map #[] 0)).alloc
  (G8 p an ai af ao cn ci cf co (w.heap.size+1) (w.heap.size+1+1) (w.heap.size+1+1+1) (w.heap.size+1+1+1+1) (w.heap.size+1+1+1+1+1))) [] [] [] []:=by
 obtain⟨A,hA⟩:∃A,w.alloc (.cells #[.slice an p.nodes.length cn,.slice ai p.ins.length ci,.slice af p.flows.length cf,.slice ao p.outs.length co] 27)=A:=⟨_,rfl⟩
 have hAs:A.heap.size=w.heap.size+1:=by rw[←hA];simp
 have hAb:Below w.heap.size w A:=by rw[←hA];exact bq
 have hAc:A.heap[w.heap.size]?=some (.cells #[.slice an p.nodes.length cn,.slice ai p.ins.length ci,.slice af p.flows.length cf,.slice ao p.outs.length co] 27 (0,0)):=by rw[←hA];exact Yt w _
 rw[hA]
 clear hA
 unfold Kl
 generalize G8 p an ai af ao cn ci cf co (w.heap.size+1) (w.heap.size+1+1) (w.heap.size+1+1+1) (w.heap.size+1+1+1+1) (w.heap.size+1+1+1+1+1)=mo
 rw[←hAs]
 have m1:=YJ.new A
 have m2:=YJ.new (A.alloc (.map #[] 0))
 have m3:=YJ.new ((A.alloc (.map #[] 0)).alloc (.map #[] 0))
 have m4:=YJ.new (((A.alloc (.map #[] 0)).alloc (.map #[] 0)).alloc (.map #[] 0))
 have m5:=YJ.new ((((A.alloc (.map #[] 0)).alloc (.map #[] 0)).alloc (.map #[] 0)).alloc (.map #[] 0))
 have m6:=Yt (((((A.alloc (.map #[] 0)).alloc (.map #[] 0)).alloc (.map #[] 0)).alloc (.map #[] 0)).alloc (.map #[] 0)) mo
 simp only[Zt] at m1 m2 m3 m4 m5 m6
 have up:∀(X:World) (o:Obj),Below X.heap.size X (X.alloc o):=fun X o=>(Zg _ _).alloc (Zc _) _
 refine⟨⟨?_,oq,m6,?_,?_,?_,?_,m5.below (up _ _)⟩,?_⟩
 ·exact hAb.trans (((((((Zg _ A).alloc oq _).alloc (by simp;omega) _).alloc (by simp;omega) _).alloc (by simp;omega) _).alloc (by simp;omega) _).alloc (by simp;omega) _)
 ·exact((((m1.below (up _ _)).below (up _ _)).below (up _ _)).below (up _ _)).below (up _ _)
 ·exact(((m2.below (up _ _)).below (up _ _)).below (up _ _)).below (up _ _)
 ·exact((m3.below (up _ _)).below (up _ _)).below (up _ _)
 ·exact(m4.below (up _ _)).below (up _ _)
 exact((((((Zg _ A).alloc (Zc _) _).alloc (by simp only[Zt];omega) _).alloc (by simp only[Zt];omega) _).alloc (by simp only[Zt];omega) _).alloc (by simp only[Zt];omega) _ |>.alloc (by simp only[Zt];omega) _).block _ oq |>.trans hAc
theorem E8 {w:World} (p:PG) (an ai af ao:Option Addr) (cn ci cf co:Nat) (hp:AP w p an ai af ao cn ci cf co) (hok:Jd p) (env':Env) (bc:Nat) (hbc:bc<w.heap.size) (l:List (Int × Int)) (hl:p.flows.map (fun f=>Jf env' f.nm)=l) (hc:Ew w bc l) :
  Calls Tryz.prog 46 #[pv p an ai af ao cn ci cf co,.slice (some ⟨bc,0,none⟩) l.length l.length] w (Zcj w p an ai af ao cn ci cf co env'):=by
 have hll:=hok.lens
 have HP:=hid hp
 have HC:=hid hc
 have HL:=hid hl
 have hcap:=hp.caps
 have hlf:l.length=p.flows.length:=by rw[←hl,Zo]
 have hmk1:=fun w=>run_makeMap (P:=Tryz.prog) 110 w
 have hmk2:=fun w=>run_makeMap (P:=Tryz.prog) 159 w
 have hmk3:=fun w=>run_makeMap (P:=Tryz.prog) 160 w
 clear hp hok hc hl
 unfold pv
 rw[hlf]
 have HLF:=hid hlf
 clear hlf
 go_enter Tryz.func46,Tryz.ntmps46
 go_wp2
 have hN0:=ga w p an ai af ao cn ci cf co
 unfold G8 at hN0
 obtain⟨W1,hW1⟩:∃W1,(((((((w.alloc (.cells #[.slice an p.nodes.length cn,.slice ai p.ins.length ci,.slice af p.flows.length cf,.slice ao p.outs.length co] 27)).alloc (.map #[] 0)).alloc (.map #[] 0)).alloc (.map #[] 0)).alloc (.map #[] 0)).alloc (.map #[] 0)).alloc
  (.cells #[.slice an p.nodes.length cn,.slice ai p.ins.length ci,.slice af p.flows.length cf,.slice ao p.outs.length co,.map (some (w.heap.size+1)),.map (some (w.heap.size+1+1)),.map (some (w.heap.size+1+1+1)),.map (some (w.heap.size+1+1+1+1)),.map (some (w.heap.size+1+1+1+1+1))] 162))=W1:=⟨_,rfl⟩
 rw[hW1] at hN0
 try rw[hW1]
 have HN0:=hid (show Kl w p an ai af ao cn ci cf co W1 [] [] [] [] from hN0)
 clear hN0 hW1 hmk1 hmk2 hmk3
 go_loopw [23] (fun v wr=>Hid (Nw1 w p an ai af ao cn ci cf co v wr)) (fun i _=>p.ins.length-(intOf i).toNat)
 case atStart=>exact⟨0,fun _=>none,fun _=>none,[],[],rfl,Zk _,HN0.out,kj,Xf.nil,rfl,rfl⟩
 obtain⟨i,env,e,Lc,Li,rfl,hi,hN,hE,hI,hen,hie⟩:=hrel.out
 clear hrel HN0
 have HN:=hid hN
 have HE:=hid hE
 have HI:=hid hI
 have hlow:=hN.1.low
 have hszr:=hlow.size
 have hplt:=Zb hN.2
 have hmlt:=hN.1.lt
 clear hN hE hI
 by_cases hlt:i<p.ins.length
 ·obtain⟨bb,oo,rfl,hbb0,hin0⟩:=HP.out.ins.at hlt
  have hin:=hin0.later hlow hbb0
  rw[js hlt] at hen hie
  obtain⟨f,hf⟩:∃f,p.ins[i]=f:=⟨_,rfl⟩
  rw[hf] at hin hen hie
  obtain⟨nm,per,ph,fa⟩:=f
  obtain⟨y0,y1,y2,y3,_⟩:=hin
  simp only at y0 y1 y2 y3
  have HEN:=hid (show UQ (p.ins.drop (i+1)) (upd env nm (per,ph))=YX p.ins from hen)
  have HIE:=hid (show inI ((p.ins.drop (i+1)).map (·.nm)) (i+1) (VG e nm i)=inI (p.ins.map (·.nm)) 0 (fun _=>none) from hie)
  have hil:(i:Int)<(p.ins.length:Int):=oq
  have hbb:bb<wr.heap.size:=oq
  clear hin0 hen hie hlow
  go_wp2
  obtain⟨W2,hW2⟩:∃W2,wr.alloc (.cells #[.string nm,.int .i64 per,.int .i64 ph,.int .i64 fa] 102)=W2:=⟨_,rfl⟩
  have hb2:Below wr.heap.size wr W2:=by rw[←hW2];exact(Zg _ _).alloc (Zc _) _
  have bx2:W2.heap[wr.heap.size]?=some (.cells #[.string nm,.int .i64 per,.int .i64 ph,.int .i64 fa] 102 (0,0)):=by rw[←hW2];exact Yt wr _
  have hs2:W2.heap.size=wr.heap.size+1:=by rw[←hW2];simp
  rw[hW2]
  clear hW2 y0 y1 y2 y3
  have HN2:=hid (HN.out.grow hb2)
  obtain⟨⟨c0,c1,c2,c3⟩,cfz⟩:=Yu bx2
  obtain⟨⟨x0,x1,x2,x3,x4,x5,x6,x7,x8⟩,xf⟩:=YN (show W2.heap[w.heap.size+1+1+1+1+1+1]?=_ from HN2.out.1.box)
  have HB2:=hid bx2
  clear hb2 bx2
  go_still_tail 7,kq
  change wpList _ _ _ _ _ W2.drew
  go_wp2_with (at_mapUpdate;refine Xe QA _ rfl _ _ _ rfl (w.heap.size+1+1) Li nm (.int .i64 (i:Int)) rfl rfl rfl (show YJ W2.drew _ _ from HN2.out.1.i) ?_;intro arr clock hm2)
  obtain⟨W3,hW3⟩:∃W3,World.putM W2.drew (w.heap.size+1+1) (.map arr clock)=W3:=⟨_,rfl⟩
  have hu3:Upon (w.heap.size+1+1) W2 W3:=by rw[←hW3];exact YI ((Upon.refl _ _).drew) _
  have hd:Below W2.heap.size W2 W2.drew:=(Zg _ _).drew
  have hN3:Kl w p an (some ⟨bb,oo,none⟩) af ao cn ci cf co W3 Lc (QZ nm (.int .i64 (i:Int)) Li) [] []:=by
   rw[←hW3]
   exact⟨(HN2.out.1.grow hd).putI hm2,by have:=(hu3.block _ (Zb HN2.out.2) oq).trans HN2.out.2;rw[←hW3] at this;exact this⟩
  have bx3:W3.heap[wr.heap.size]?=_:=(hu3.block _ oq oq).trans HB2.out
  rw[hW3]
  clear hW3 hm2 c0 c1 c2 c3 cfz x0 x1 x2 x3 x4 x5 x6 x7 x8 xf
  have HN3:=hid hN3
  have hlt3:=Zb bx3
  have hmt3:=hN3.1.lt
  obtain⟨⟨c0,c1,c2,c3⟩,cfz⟩:=Yu bx3
  obtain⟨⟨x0,x1,x2,x3,x4,x5,x6,x7,x8⟩,xf⟩:=YN (show W3.heap[w.heap.size+1+1+1+1+1+1]?=_ from hN3.1.box)
  have KA:=hid (show S6 (w.heap.size+1+1+1+1+1+1) wr.heap.size (w.heap.size+1) nm per ph fa W3.drew from ⟨x4,c0,c1,c2,c3⟩)
  have KB:=hid (show ∀w4,Below W3.drew.heap.size W3.drew w4→S6 (w.heap.size+1+1+1+1+1+1) wr.heap.size (w.heap.size+1) nm per ph fa w4 from fun w4 hb=>⟨(hb.cell (p:=⟨_,4,none⟩) hmt3).trans x4,(hb.cell (p:=⟨_,0,none⟩) hlt3).trans c0,(hb.cell (p:=⟨_,1,none⟩) hlt3).trans c1,(hb.cell (p:=⟨_,2,none⟩) hlt3).trans c2,(hb.cell (p:=⟨_,3,none⟩) hlt3).trans c3⟩)
  have KP:=hid (show ∀w4,Below W3.drew.heap.size W3.drew w4→∀o,S6 (w.heap.size+1+1+1+1+1+1) wr.heap.size (w.heap.size+1) nm per ph fa (World.putM w4 (w.heap.size+1) o) from fun w4 hb o=>by
   have hf:∀(b o':Nat),b≠w.heap.size+1→(World.putM w4 (w.heap.size+1) o).cell? ⟨b,o',none⟩=w4.cell? ⟨b,o',none⟩:=fun b o' hne=>by
    refine Zn ?_
    show(w4.heap.setIfInBounds (w.heap.size+1) o)[b]?=w4.heap[b]?
    rw[Array.getElem?_setIfInBounds_ne (fun e=>hne e.symm)]
   obtain⟨h0,h1,h2,h3,h4⟩:=KB.out w4 hb
   exact⟨(hf _ _ oq).trans h0,(hf _ _ oq).trans h1,(hf _ _ oq).trans h2,(hf _ _ oq).trans h3,(hf _ _ oq).trans h4⟩)
  have HIC:=hid (JS (w:=W3.drew) nm per ph fa)
  clear hN3 hu3 hd bx3 x0 x1 x2 x3 x4 x5 x6 x7 x8 xf c0 c1 c2 c3 cfz
  go_region_held3 (fun w'=>w'.cell? ⟨w.heap.size+1+1+1+1+1+1,4,none⟩=some (.map (some (w.heap.size+1)))∧w'.cell? ⟨wr.heap.size,0,none⟩=some (.string nm)∧w'.cell? ⟨wr.heap.size,1,none⟩=some (.int .i64 per)∧w'.cell? ⟨wr.heap.size,2,none⟩=some (.int .i64 ph)∧w'.cell? ⟨wr.heap.size,3,none⟩=some (.int .i64 fa)) ((show S6 (w.heap.size+1+1+1+1+1+1) wr.heap.size (w.heap.size+1) nm per ph fa _;first|with_reducible exact KA.out|(with_reducible exact KB.out _ hb4)|(with_reducible exact KP.out _ hb4 _))) (first|(go_at_call 78;refine HIC.out.mono ?_;rintro x w4 ⟨rfl,hb4⟩;obtain⟨arr4,clock4,hrun4,hm4⟩:=V8 Qo (HN3.out.1.c.below (show Below W3.heap.size W3 w4 from(Zg _ _).drew.trans hb4)) nm (.agg #[.int .i64 per,.int .i64 ph])))
  go_wp2
  refine⟨⟨i+1,upd env nm (per,ph),VG e nm i,_,_,by go_num,oq,⟨(HN3.out.1.grow ((Zg _ _).drew.trans hb4)).putC hm4,?_⟩,HE.out.put nm (per,ph),HI.out.put nm i,HEN.out,HIE.out⟩,by simp[intOf];omega⟩
  have hb:Below W3.heap.size W3 w4:=(Zg _ _).drew.trans hb4
  exact((YI (Upon.refl _ w4) (.map arr4 clock4)).block _ (Zb ((hb.block _ (Zb HN3.out.2)).trans HN3.out.2)) oq).trans ((hb.block _ (Zb HN3.out.2)).trans HN3.out.2)
 have hie0:i=p.ins.length:=oq
 subst hie0
 have hil:¬(p.ins.length:Int)<(p.ins.length:Int):=oq
 rw[Ym] at hen hie
 have HE1:=hid (show Xt Lc (YX p.ins) from(show env=YX p.ins from hen)▸HE.out)
 have HI1:=hid (show Xf Li (inI (p.ins.map (·.nm)) 0 (fun _=>none)) from(show e=_ from hie)▸HI.out)
 clear hen hie HE HI hlow
 obtain⟨⟨q0,q1,q2,q3⟩,qf⟩:=Yu HN.out.2
 go_wp2
 obtain⟨w0,rfl⟩:∃w0:World,w0=wr:=⟨_,rfl⟩
 clear q0 q1 q2 q3 qf hszr hplt hmlt
 go_loopw [47] (fun v wr=>Hid (Nw2 w p an ai af ao cn ci cf co env' Li v wr)) (fun i _=>p.flows.length-(intOf i).toNat)
 case atStart=>exact⟨0,_,fun _=>none,_,[],rfl,Zk _,HN.out,HE1.out,Xf.nil,rfl,rfl⟩
 clear HN HE1
 obtain⟨i,env,e,Lc2,Lf,rfl,hi2,hN,hE,hI,hen,hie⟩:=hrel.out
 clear hrel
 have HN:=hid hN
 have HE:=hid hE
 have HI:=hid hI
 have hlow:=hN.1.low
 have hszr:=hlow.size
 have hplt:=Zb hN.2
 have hmlt:=hN.1.lt
 clear hN hE hI
 by_cases hlt:i<p.flows.length
 ·have hilt:(i:Int)<(p.flows.length:Int):=oq
  obtain⟨hk1,hk2⟩:=HC.out i (by rw[HLF.out];exact hlt)
  have hli:l[i]'(by rw[HLF.out];exact hlt)=Jf env' p.flows[i].nm:=by
   have:=HL.out
   subst this
   rw[List.getElem_map]
  rw[hli] at hk1 hk2
  have hk1:=(hlow.cell (p:=⟨bc,i*2,none⟩) hbc).trans hk1
  have hk2:=(hlow.cell (p:=⟨bc,i*2+1,none⟩) hbc).trans hk2
  clear hli
  obtain⟨bb,oo,rfl,hbb0,hin0⟩:=HP.out.flows.at hlt
  have hin:=JI w wr bb _ _ hlow hbb0 hin0
  rw[EQ hlt] at hen hie
  obtain⟨f,hf⟩:∃f,p.flows[i]=f:=⟨_,rfl⟩
  rw[hf] at hin hen hie hk1 hk2
  obtain⟨nm,⟨k1,nm1,n1,d1,args1,a1⟩,fa⟩:=f
  obtain⟨ad,cap,y0,y1,y2,y3,y4,y5,y6,y7,hae,hfn⟩:=hin.cells
  obtain⟨⟨per,ph⟩,hpp⟩:∃c,Jf env' nm=c:=⟨_,rfl⟩
  simp only[hpp] at hk1 hk2 y0 y1 y2 y3 y4 y5 y6 y7
  have HEN:=hid (show UO env' (p.flows.drop (i+1)) (upd env nm (per,ph))=UO env' p.flows (YX p.ins) by rw[←hpp];exact hen)
  have HIE:=hid (show inI ((p.flows.drop (i+1)).map (·.nm)) (i+1) (VG e nm i)=inI (p.flows.map (·.nm)) 0 (fun _=>none) from hie)
  have hbb:bb<wr.heap.size:=oq
  have hbcw:bc<wr.heap.size:=oq
  clear hin0 hen hie hlow hin hae hfn
  go_wp2
  obtain⟨W2,hW2⟩:∃W2,wr.alloc (.cells #[.string nm,.int .i64 k1,.string nm1,.int .i64 n1,.int .i64 d1,.slice ad args1.len cap,.int .i64 a1,.int .i64 fa] 104)=W2:=⟨_,rfl⟩
  have hb2:Below wr.heap.size wr W2:=by rw[←hW2];exact(Zg _ _).alloc (Zc _) _
  have bx2:W2.heap[wr.heap.size]?=some (.cells #[.string nm,.int .i64 k1,.string nm1,.int .i64 n1,.int .i64 d1,.slice ad args1.len cap,.int .i64 a1,.int .i64 fa] 104 (0,0)):=by rw[←hW2];exact Yt wr _
  have hs2:W2.heap.size=wr.heap.size+1:=by rw[←hW2];simp
  rw[hW2]
  clear hW2 y0 y1 y2 y3 y4 y5 y6 y7
  have HN2:=hid (HN.out.grow hb2)
  have g1:=(hb2.cell (p:=⟨bc,i*2,none⟩) hbcw).trans hk1
  have g2:=(hb2.cell (p:=⟨bc,i*2+1,none⟩) hbcw).trans hk2
  obtain⟨c0,cfz⟩:=cell0 bx2
  obtain⟨⟨x0,x1,x2,x3,x4,x5,x6,x7,x8⟩,xf⟩:=YN (show W2.heap[w.heap.size+1+1+1+1+1+1]?=_ from HN2.out.1.box)
  have HB2:=hid bx2
  have HG1:=hid g1
  have HG2:=hid g2
  clear hb2 bx2 hk1 hk2 g1 g2
  go_still_tail 7,kq
  change wpList _ _ _ _ _ W2.drew
  go_wp2_with (at_mapUpdate;refine Xe QA _ rfl _ _ _ rfl (w.heap.size+1+1+1) Lf nm (.int .i64 (i:Int)) rfl rfl rfl (show YJ W2.drew _ _ from HN2.out.1.f) ?_;intro arr clock hm2)
  obtain⟨W3,hW3⟩:∃W3,World.putM W2.drew (w.heap.size+1+1+1) (.map arr clock)=W3:=⟨_,rfl⟩
  have hu3:Upon (w.heap.size+1+1+1) W2 W3:=by rw[←hW3];exact YI ((Upon.refl _ _).drew) _
  have hd:Below W2.heap.size W2 W2.drew:=(Zg _ _).drew
  have hN3:Kl w p an ai (some ⟨bb,oo,none⟩) ao cn ci cf co W3 Lc2 Li (QZ nm (.int .i64 (i:Int)) Lf) []:=by
   rw[←hW3]
   exact⟨(HN2.out.1.grow hd).putF hm2,by have:=(hu3.block _ (Zb HN2.out.2) oq).trans HN2.out.2;rw[←hW3] at this;exact this⟩
  have bx3:W3.heap[wr.heap.size]?=_:=(hu3.block _ oq oq).trans HB2.out
  have g1:W3.cell? ⟨bc,i*2,none⟩=_:=(Zn (a:=⟨bc,i*2,none⟩) (hu3.block bc oq oq)).trans HG1.out
  have g2:W3.cell? ⟨bc,i*2+1,none⟩=_:=(Zn (a:=⟨bc,i*2+1,none⟩) (hu3.block bc oq oq)).trans HG2.out
  rw[hW3]
  clear hW3 hm2 c0 cfz x0 x1 x2 x3 x4 x5 x6 x7 x8 xf
  have HN3:=hid hN3
  obtain⟨c0,cfz⟩:=cell0 bx3
  obtain⟨⟨x0,x1,x2,x3,x4,x5,x6,x7,x8⟩,xf⟩:=YN (show W3.heap[w.heap.size+1+1+1+1+1+1]?=_ from hN3.1.box)
  clear hN3 hu3 hd bx3
  go_still_tail 10,kq
  change wpList _ _ _ _ _ W3.drew
  go_wp2_with (at_mapUpdate;refine Xe Qo _ rfl _ _ _ rfl (w.heap.size+1) Lc2 nm (cvv (per,ph)) rfl rfl rfl (show YJ W3.drew _ _ from HN3.out.1.c) ?_;intro arr4 clock4 hm4)
  refine⟨⟨i+1,upd env nm (per,ph),VG e nm i,_,_,by go_num,oq,⟨(HN3.out.1.grow (Zg _ _).drew).putC hm4,?_⟩,HE.out.put nm (per,ph),HI.out.put nm i,HEN.out,HIE.out⟩,by simp[intOf];omega⟩
  exact((YI ((Upon.refl _ W3).drew) (.map arr4 clock4)).block _ (Zb HN3.out.2) oq).trans HN3.out.2
 have hie0:i=p.flows.length:=oq
 subst hie0
 have hil:¬(p.flows.length:Int)<(p.flows.length:Int):=oq
 rw[Ym] at hen hie
 have HE1:=hid (show Xt Lc2 (UO env' p.flows (YX p.ins)) from(show env=_ from hen)▸HE.out)
 have HF1:=hid (show Xf Lf (inI (p.flows.map (·.nm)) 0 (fun _=>none)) from(show e=_ from hie)▸HI.out)
 clear hen hie HE HI hlow
 obtain⟨⟨q0,q1,q2,q3⟩,qf⟩:=Yu HN.out.2
 go_wp2
 obtain⟨w1,rfl⟩:∃w1:World,w1=wr:=⟨_,rfl⟩
 clear q0 q1 q2 q3 qf hszr hplt hmlt
 go_loopw [73] (fun v wr=>Hid (Nw3 w p an ai af ao cn ci cf co Lc2 Li Lf v wr)) (fun i _=>p.nodes.length-(intOf i).toNat)
 case atStart=>exact⟨0,fun _=>none,[],rfl,Zk _,HN.out,Xf.nil,rfl⟩
 clear HN
 obtain⟨i,e,Ln,rfl,hi3,hN,hI,hie⟩:=hrel.out
 clear hrel
 have HN:=hid hN
 have HI:=hid hI
 have hlow:=hN.1.low
 have hszr:=hlow.size
 have hplt:=Zb hN.2
 have hmlt:=hN.1.lt
 clear hN hI
 by_cases hlt:i<p.nodes.length
 ·have hilt:(i:Int)<(p.nodes.length:Int):=oq
  obtain⟨bb,oo,rfl,hbb0,hin0⟩:=HP.out.nodes.at hlt
  have hin:=Jw w wr bb _ _ hlow hbb0 hin0
  rw[jt hlt] at hie
  obtain⟨x,hx⟩:∃x,p.nodes[i]=x:=⟨_,rfl⟩
  rw[hx] at hin hie
  obtain⟨nm,ps,bud,⟨k1,nm1,n1,d1,args1,a1⟩,fa⟩:=x
  obtain⟨pa,pc,ad,cap,y0,y1,y2,y3,y4,y5,y6,y7,y8,y9,hae,hps,hfn⟩:=hin.cells
  have HIE:=hid (show inI ((p.nodes.drop (i+1)).map (·.nm)) (i+1) (VG e nm i)=inI (p.nodes.map (·.nm)) 0 (fun _=>none) from hie)
  have hbb:bb<wr.heap.size:=oq
  clear hin0 hie hlow hin hae hfn hps
  go_wp2
  obtain⟨W2,hW2⟩:∃W2,wr.alloc (.cells #[.string nm,.slice pa ps.length pc,.int .i64 bud,.int .i64 k1,.string nm1,.int .i64 n1,.int .i64 d1,.slice ad args1.len cap,.int .i64 a1,.int .i64 fa] 94)=W2:=⟨_,rfl⟩
  have hb2:Below wr.heap.size wr W2:=by rw[←hW2];exact(Zg _ _).alloc (Zc _) _
  have bx2:W2.heap[wr.heap.size]?=some (.cells #[.string nm,.slice pa ps.length pc,.int .i64 bud,.int .i64 k1,.string nm1,.int .i64 n1,.int .i64 d1,.slice ad args1.len cap,.int .i64 a1,.int .i64 fa] 94 (0,0)):=by rw[←hW2];exact Yt wr _
  have hs2:W2.heap.size=wr.heap.size+1:=by rw[←hW2];simp
  rw[hW2]
  clear hW2 y0 y1 y2 y3 y4 y5 y6 y7 y8 y9
  have HN2:=hid (HN.out.grow hb2)
  obtain⟨c0,cfz⟩:=cell0 bx2
  obtain⟨⟨x0,x1,x2,x3,x4,x5,x6,x7,x8⟩,xf⟩:=YN (show W2.heap[w.heap.size+1+1+1+1+1+1]?=_ from HN2.out.1.box)
  clear hb2 bx2
  go_still_tail 7,kq
  change wpList _ _ _ _ _ W2.drew
  go_wp2_with (at_mapUpdate;refine Xe QA _ rfl _ _ _ rfl (w.heap.size+1+1+1+1) Ln nm (.int .i64 (i:Int)) rfl rfl rfl (show YJ W2.drew _ _ from HN2.out.1.nd) ?_;intro arr clock hm2)
  refine⟨⟨i+1,VG e nm i,_,by go_num,oq,⟨(HN2.out.1.grow (Zg _ _).drew).putN hm2,?_⟩,HI.out.put nm i,HIE.out⟩,by simp[intOf];omega⟩
  exact((YI ((Upon.refl _ W2).drew) (.map arr clock)).block _ (Zb HN2.out.2) oq).trans HN2.out.2
 have hie0:i=p.nodes.length:=oq
 subst hie0
 have hil:¬(p.nodes.length:Int)<(p.nodes.length:Int):=oq
 rw[Ym] at hie
 have HN1:=hid (show Xf Ln (inI (p.nodes.map (·.nm)) 0 (fun _=>none)) from(show e=_ from hie)▸HI.out)
 clear hie HI hlow
 go_wp2
 go_ret
 exact⟨_,_,_,_,_,_,_,_,_,_,rfl,HN.out.1,HE1.out,HI1.out,HF1.out,HN1.out⟩
attribute [local go_sem] ZS
theorem YJ.same {w w':World} {mb:Nat} {L:List (ByteArray × Value)} (h:YJ w mb L) (e:w'.heap[mb]?=w.heap[mb]?):YJ w' mb L:=by
 obtain⟨a,c,h1,h2⟩:=h
 exact⟨a,c,e.trans h1,h2⟩
structure Mkr (W0:World) (p:PG) (an ai af ao:Option Addr) (cn ci cf co mc mi mf mn mx m:Nat) (Lc Li Lf Ln Lx:List (ByteArray × Value)) (W:World):Prop where
 low:Below W0.heap.size W0 W
 ord:W0.heap.size≤mc∧mc<mi∧mi<mf∧mf<mn∧mn<mx∧mx<m
 box:MkB W m p an ai af ao cn ci cf co mc mi mf mn mx
 c:YJ W mc Lc
 i:YJ W mi Li
 f:YJ W mf Lf
 nd:YJ W mn Ln
 x:YJ W mx Lx
section
variable {W0:World} {p:PG} {an ai af ao:Option Addr} {cn ci cf co mc mi mf mn mx m:Nat} {Lc Li Lf Ln Lx:List (ByteArray × Value)} {W W':World}
theorem Mkr.lt (h:Mkr W0 p an ai af ao cn ci cf co mc mi mf mn mx m Lc Li Lf Ln Lx W):m<W.heap.size:=Zb h.box
theorem Mkr.keep (h:Mkr W0 p an ai af ao cn ci cf co mc mi mf mn mx m Lc Li Lf Ln Lx W) {B:Nat} (hB:m<B) (hb:Below B W W'):Mkr W0 p an ai af ao cn ci cf co mc mi mf mn mx m Lc Li Lf Ln Lx W':=by
 have ho:=h.ord
 exact⟨h.low.trans (hb.mono oq),ho,(hb.block m hB).trans h.box,h.c.same (hb.block _ oq),h.i.same (hb.block _ oq),h.f.same (hb.block _ oq),h.nd.same (hb.block _ oq),h.x.same (hb.block _ oq)⟩
theorem Mkr.grow (h:Mkr W0 p an ai af ao cn ci cf co mc mi mf mn mx m Lc Li Lf Ln Lx W) (hb:Below W.heap.size W W'):Mkr W0 p an ai af ao cn ci cf co mc mi mf mn mx m Lc Li Lf Ln Lx W':=h.keep h.lt hb
theorem Mkr.putX (h:Mkr W0 p an ai af ao cn ci cf co mc mi mf mn mx m Lc Li Lf Ln Lx W) {o:Obj} {L:List (ByteArray × Value)} (hm:YJ (World.putM W mx o) mx L):Mkr W0 p an ai af ao cn ci cf co mc mi mf mn mx m Lc Li Lf Ln L (World.putM W mx o):=by
 have hu:Upon mx W (World.putM W mx o):=YI (Upon.refl _ _) _
 have ho:=h.ord
 exact⟨XX h.low oq _,ho,(hu.block _ h.lt oq).trans h.box,h.c.upon hu oq,h.i.upon hu oq,h.f.upon hu oq,h.nd.upon hu oq,hm⟩
end
theorem Zbw {w:World} {p:PG} {an ai af ao:Option Addr} {cn ci cf co mc mi mf mn mx m:Nat} {Lc Li Lf Ln:List (ByteArray × Value)} {w':World} (h:MkS w w.heap.size (G8 p an ai af ao cn ci cf co mc mi mf mn mx) mc mi mf mn mx m w' Lc Li Lf Ln):Mkr w p an ai af ao cn ci cf co mc mi mf mn mx m Lc Li Lf Ln [] w' :=
 ⟨h.low,h.ord,h.box,h.c,h.i,h.f,h.nd,h.x⟩
theorem QB {B:Nat} {X Y:World} {row:Option Nat} (hg:X.grownBy Y row) (hr:∀r,row=some r→B≤r∧∃o:Obj,X.heap[r]?=some o∧o.isCells=false) (hB:B≤X.heap.size):Below B X Y :=
 ownFrom_below (β:=Unit) (w₀:=X) hB (Zc B) () X Y row (Zg _ _) hg hr
def YL:List FL→Nat→List (PE × ByteArray)
 | [],_=>[]
 | f::l,i=>(Xg f.e (dg i)).filter isC++YL l (i+1)
theorem jy:∀(a b:List ByteArray) (i:Nat) (e:IE),inI (a++b) i e=inI b (i+a.length) (inI a i e)
 | [],b,i,e=>by simp[inI]
 | k::a,b,i,e=>by
  rw[ZB,inI,inI,jy a b (i+1) _,Zp,show i+1+a.length=i+(a.length+1) by omega]
theorem kE (a:List ByteArray) (k:ByteArray) (e:IE):inI (a++[k]) 0 e=VG (inI a 0 e) k a.length:=by
 rw[jy,ZC]
 rfl
structure Jp (W0:World) (p:PG) (an ai af ao:Option Addr) (cn ci cf co mc mi mf mn mx m:Nat) (Lc Li Lf Ln:List (ByteArray × Value)) (w:World) (B:Nat) (Ds:List Nat) (ways:List ByteArray) (X:World):Prop where
 mkr:∃Lx,Mkr W0 p an ai af ao cn ci cf co mc mi mf mn mx m Lc Li Lf Ln Lx X∧Xf Lx (inI ways 0 (fun _=>none))
 up:Upon mx w X
 lt:m<w.heap.size
 size:w.heap.size+4≤B
 bsize:B≤X.heap.size
 b0:Boxed X w.heap.size 116 (.pointer (some ⟨m,0,none⟩))
 b1:Boxed X (w.heap.size+1) 3 (.int .i64 0)
 b2:Boxed X (w.heap.size+1+1) 38 (.int .i64 0)
 b3:Boxed X (w.heap.size+1+1+1) 3 (.int .i64 (ways.length:Int))
 few:ways.length≤30
 marks:Mks w.heap.size Ds X
 under:∀D∈Ds,D<B
section
variable {W0:World} {p:PG} {an ai af ao:Option Addr} {cn ci cf co mc mi mf mn mx m:Nat} {Lc Li Lf Ln:List (ByteArray × Value)} {w:World} {B:Nat} {Ds:List Nat} {ways:List ByteArray} {X Y:World}
theorem Upon.then_below {r B:Nat} {a b c:World} (h:Upon r a b) (k:Below B b c) (hB:a.heap.size≤B):Upon r a c :=
 ⟨k.os.trans h.os,k.tape.trans h.tape,k.output.trans h.output,Zm h.size k.size,fun i hi hr=>(k.block i (Zd hi hB)).trans (h.block i hi hr)⟩
theorem Jp.keep (h:Jp W0 p an ai af ao cn ci cf co mc mi mf mn mx m Lc Li Lf Ln w B Ds ways X) (hb:Below B X Y):Jp W0 p an ai af ao cn ci cf co mc mi mf mn mx m Lc Li Lf Ln w B Ds ways Y:=by
 obtain⟨Lx,h1,h2⟩:=h.mkr
 have h3:=h.lt
 have h4:=h.size
 exact⟨⟨Lx,h1.keep oq hb,h2⟩,h.up.then_below hb oq,h3,h4,Zm h.bsize hb.size,(hb.block _ oq).trans h.b0,(hb.block _ oq).trans h.b1,(hb.block _ oq).trans h.b2,(hb.block _ oq).trans h.b3,h.few,
  ⟨fun D hD=>⟨(h.marks.1 D hD).1,(hb.block D (h.under D hD)).trans (h.marks.1 D hD).2⟩,h.marks.2⟩,h.under⟩
theorem Jp.more (h:Jp W0 p an ai af ao cn ci cf co mc mi mf mn mx m Lc Li Lf Ln w B Ds ways X) {B':Nat} (h1:B≤B') (h2:B'≤X.heap.size):Jp W0 p an ai af ao cn ci cf co mc mi mf mn mx m Lc Li Lf Ln w B' Ds ways X :=
 ⟨h.mkr,h.up,h.lt,Zm h.size h1,h2,h.b0,h.b1,h.b2,h.b3,h.few,h.marks,fun D hD=>Zd (h.under D hD) h1⟩
theorem Jp.own {row:Option Nat} (h:Jp W0 p an ai af ao cn ci cf co mc mi mf mn mx m Lc Li Lf Ln w B Ds ways X) (hg:X.grownBy Y row) (hr:∀r,row=some r→B≤r∧∃o:Obj,X.heap[r]?=some o∧o.isCells=false):Jp W0 p an ai af ao cn ci cf co mc mi mf mn mx m Lc Li Lf Ln w B Ds ways Y :=
 h.keep (QB hg hr h.bsize)
theorem Jp.step (h:Jp W0 p an ai af ao cn ci cf co mc mi mf mn mx m Lc Li Lf Ln w B Ds ways X) {Lx:List (ByteArray × Value)} (hM:Mkr W0 p an ai af ao cn ci cf co mc mi mf mn mx m Lc Li Lf Ln Lx X) (hI:Xf Lx (inI ways 0 (fun _=>none))) (k:ByteArray) {o:Obj}
  (hm:YJ (World.putM X.drew mx o) mx (QZ k (.int .i64 (ways.length:Int)) Lx)) (hlt:ways.length<30) :
  Jp W0 p an ai af ao cn ci cf co mc mi mf mn mx m Lc Li Lf Ln w B Ds (ways++[k]) ((World.putM X.drew mx o).setCell ⟨w.heap.size+1+1+1,0,none⟩ (.int .i64 ((ways.length:Int)+1))):=by
 have h3:=h.lt
 have h4:=h.size
 have h5:=h.bsize
 have ho:=hM.ord
 have hu:Upon mx X (World.putM X.drew mx o):=YI (Upon.refl _ _).drew _
 have hM2:=(hM.grow (Zg _ _).drew).putX hm
 have hf:∀k,k≠w.heap.size+1+1+1→((World.putM X.drew mx o).setCell ⟨w.heap.size+1+1+1,0,none⟩ (.int .i64 ((ways.length:Int)+1))).heap[k]?=(World.putM X.drew mx o).heap[k]?:=fun k hk=>Zr _ _ _ _ (fun e=>hk e)
 have hk:∀k,k<X.heap.size→k≠mx→k≠w.heap.size+1+1+1→((World.putM X.drew mx o).setCell ⟨w.heap.size+1+1+1,0,none⟩ (.int .i64 ((ways.length:Int)+1))).heap[k]?=X.heap[k]?:=fun k h1 h2 h3=>(hf k h3).trans (hu.block k h1 h2)
 refine⟨⟨_,hM2.keep (B:=w.heap.size) h3 ((Zg _ _).setCell (p:=⟨w.heap.size+1+1+1,0,none⟩) (by show w.heap.size≤w.heap.size+1+1+1;omega) _),?_⟩,?_,h3,h4,?_,?_,?_,?_,?_,?_,⟨fun D hD=>⟨(h.marks.1 D hD).1,?_⟩,h.marks.2⟩,h.under⟩
 ·rw[kE]
  exact hI.put k ways.length
 ·exact(YI h.up.drew _).setCell (p:=⟨w.heap.size+1+1+1,0,none⟩) (Or.inr (by show w.heap.size≤w.heap.size+1+1+1;omega)) _
 ·refine Zm h5 (Zm hu.size ?_)
  exact((Zg 0 (World.putM X.drew mx o)).setCell (p:=⟨w.heap.size+1+1+1,0,none⟩) (Zk _) _).size
 ·exact(hk _ oq oq oq).trans h.b0
 ·exact(hk _ oq oq oq).trans h.b1
 ·exact(hk _ oq oq oq).trans h.b2
 ·have hb3:Boxed (World.putM X.drew mx o) (w.heap.size+1+1+1) 3 (.int .i64 (ways.length:Int)):=(hu.block _ oq oq).trans h.b3
  have:=hb3.set (.int .i64 ((ways.length:Int)+1))
  rw[show(((ways++[k]).length:Nat):Int)=(ways.length:Int)+1 by simp]
  exact this
 ·simp;omega
 have hD1:=(h.marks.1 D hD).2
 have hne:D≠w.heap.size+1+1+1:=by
  intro e
  rw[e] at hD1
  have:=h.b3
  unfold Boxed at this
  rw[this] at hD1
  cases hD1
 exact(hk D (Zb hD1) (by have:=(h.marks.1 D hD).1;omega) hne).trans hD1
theorem Jp.mark (h:Jp W0 p an ai af ao cn ci cf co mc mi mf mn mx m Lc Li Lf Ln w B Ds ways X) {D:Nat} (h1:B≤D) (h2:X.heap[D]?=some (.deferred (some []))):Jp W0 p an ai af ao cn ci cf co mc mi mf mn mx m Lc Li Lf Ln w X.heap.size (D::Ds) ways X:=by
 have hs:=h.size
 refine⟨h.mkr,h.up,h.lt,Zm h.size h.bsize,Zc _,h.b0,h.b1,h.b2,h.b3,h.few,⟨fun D' hD'=>?_,List.nodup_cons.2 ⟨fun hm=>?_,h.marks.2⟩⟩,fun D' hD'=>?_⟩
 ·rcases ZQ.1 hD' with rfl|hm
  ·exact⟨oq,h2⟩
  exact h.marks.1 D' hm
 ·have:=h.under D hm
  omega
 rcases ZQ.1 hD' with rfl|hm
 ·exact Zb h2
 have:=h.under D' hm
 have:=h.bsize
 omega
structure eB (W0 w:World) (B:Nat) (Ds:List Nat) (X:World):Prop where
 low:Below W0.heap.size W0 X
 size:w.heap.size+4≤B
 bsize:B≤X.heap.size
 b1:∃a,Boxed X (w.heap.size+1) 3 (.int .i64 a)
 b2:Boxed X (w.heap.size+1+1) 38 (.int .i64 8)
 marks:Mks w.heap.size Ds X
 under:∀D∈Ds,D<B
end
section
variable {W0 w:World} {B:Nat} {Ds:List Nat} {X Y:World}
theorem eB.own (hlow:W0.heap.size≤w.heap.size) {row:Option Nat} (h:eB W0 w B Ds X) (hg:X.grownBy Y row) (hr:∀r,row=some r→B≤r∧∃o:Obj,X.heap[r]?=some o∧o.isCells=false):eB W0 w B Ds Y:=by
 have hb:=QB hg hr h.bsize
 have hs:=h.size
 obtain⟨a,h1⟩:=h.b1
 exact⟨h.low.trans (hb.mono oq),hs,Zm h.bsize hb.size,⟨a,(hb.block _ oq).trans h1⟩,(hb.block _ oq).trans h.b2,⟨fun D hD=>⟨(h.marks.1 D hD).1,(hb.block D (h.under D hD)).trans (h.marks.1 D hD).2⟩,h.marks.2⟩,h.under⟩
end
def Zbb (W0:World) (p:PG) (an ai af ao:Option Addr) (cn ci cf co mc mi mf mn mx m:Nat) (Lc Li Lf Ln:List (ByteArray × Value)) (w:World) (x:Ending) (w':World):Prop :=
 (∃a,x=.returned (.tuple #[.int .i64 a,.int .i64 8])∧30<(YL p.flows 0).length∧Below W0.heap.size W0 w') ∨
  (x=.returned (.tuple #[.int .i64 0,.int .i64 0])∧(YL p.flows 0).length≤30∧Upon mx w w'∧∃Lx,Mkr W0 p an ai af ao cn ci cf co mc mi mf mn mx m Lc Li Lf Ln Lx w'∧Xf Lx (inI ((YL p.flows 0).map Prod.snd) 0 (fun _=>none)))
theorem UK {l:List FL} {i:Nat} (h:i<l.length) (j:Nat):YL (l.drop i) j=(Xg l[i].e (dg j)).filter isC++YL (l.drop (i+1)) (j+1):=by
 rw[ZM h]
 rfl
theorem qx {W0 w:World} (p:PG) (an ai af ao:Option Addr) (cn ci cf co:Nat) (hp:AP W0 p an ai af ao cn ci cf co) (hok:Jd p) (mc mi mf mn mx m:Nat) (Lc Li Lf Ln:List (ByteArray × Value)) (hM:Mkr W0 p an ai af ao cn ci cf co mc mi mf mn mx m Lc Li Lf Ln [] w) :
  Calls Tryz.prog 47 #[.pointer (some ⟨m,0,none⟩)] w (Zbb W0 p an ai af ao cn ci cf co mc mi mf mn mx m Lc Li Lf Ln w):=by
 have hlm:=hM.lt
 have hw0:=hM.low.size
 have hll:=hok.lens
 have HM:=hid hM
 obtain⟨⟨x0,x1,x2,x3,x4,x5,x6,x7,x8⟩,xf⟩:=YN (show w.heap[m]?=_ from hM.box)
 have hl1:m<w.heap.size+1:=oq
 have hl2:m<w.heap.size+1+1:=oq
 have hl3:m<w.heap.size+1+1+1:=oq
 have hl4:m<w.heap.size+1+1+1+1:=oq
 clear hM
 refine(Zs (n:=6)).1 ?_
 refine callsIn_of_wp_marks Tryz.func47 rfl trivial ?_ rfl
 simp only[Tryz.ntmps47,ZH,Zp,Zv,Nat.reduceAdd,Nat.reduceSub,ZE,ZD,ZK,ZI,ZL,ZB]
 gi_wp2
 obtain⟨W4,hW4⟩:∃W4,(((w.alloc (.cells #[.pointer (some ⟨m,0,none⟩)] 116)).alloc (.cells #[.int .i64 0] 3)).alloc (.cells #[.int .i64 0] 38)).alloc (.cells #[.int .i64 0] 3)=W4:=⟨_,rfl⟩
 rw[hW4]
 have hB4:Below w.heap.size w W4:=by rw[←hW4];exact bq
 have hs4:W4.heap.size=w.heap.size+4:=by rw[←hW4];simp
 have HN4:=hid (show Jp W0 p an ai af ao cn ci cf co mc mi mf mn mx m Lc Li Lf Ln w W4.heap.size [] [] W4 from ⟨⟨[],HM.out.grow hB4,fun _=>rfl⟩,Upon.of_below hB4,hlm,oq,Zc _,
  by rw[←hW4];exact(((Boxed.new _ _ _).alloc _).alloc _).alloc _,by rw[←hW4];have:=((Boxed.new (w.alloc (.cells #[.pointer (some ⟨m,0,none⟩)] 116)) 3 (.int .i64 0)).alloc (.cells #[.int .i64 0] 38)).alloc (.cells #[.int .i64 0] 3);simpa using this,
  by rw[←hW4];have:=(Boxed.new ((w.alloc (.cells #[.pointer (some ⟨m,0,none⟩)] 116)).alloc (.cells #[.int .i64 0] 3)) 38 (.int .i64 0)).alloc (.cells #[.int .i64 0] 3);simpa using this,
  by rw[←hW4];have:=Boxed.new (((w.alloc (.cells #[.pointer (some ⟨m,0,none⟩)] 116)).alloc (.cells #[.int .i64 0] 3)).alloc (.cells #[.int .i64 0] 38)) 3 (.int .i64 0);simpa using this,by simp,⟨by simp,List.nodup_nil⟩,by simp⟩)
 clear hW4 hB4 x0 x1 x2 x3 x4 x5 x6 x7 x8 xf hl1 hl2 hl3 hl4
 refine wpIn_loop (fun a' wr=>∃(u5 u14 u15 u16 u17 u18 u34:Value) (i:Nat) (Ds:List Nat) (dn:List (PE × ByteArray)),(i≤p.flows.length∧dn++YL (p.flows.drop i) i=YL p.flows 0∧Jp W0 p an ai af ao cn ci cf co mc mi mf mn mx m Lc Li Lf Ln w wr.heap.size Ds (dn.map Prod.snd) wr) ∧
  a'={ tmps:=#[.pointer (some ⟨m,0,none⟩),.pointer (some ⟨w.heap.size,0,none⟩),.pointer (some ⟨w.heap.size+1,0,none⟩),.pointer (some ⟨w.heap.size+1+1,0,none⟩),.pointer (some ⟨w.heap.size+1+1+1,0,none⟩),u5,undef,.pointer (some ⟨m,0,none⟩),.pointer (some ⟨m,0,none⟩),.pointer (some ⟨m,0,none⟩),.pointer (some ⟨m,2,none⟩),.slice af p.flows.length cf,.int .i64 (p.flows.length:Int),.int .i64 (i:Int),u14,u15,u16,u17,u18,undef,undef,undef,undef,undef,undef,undef,undef,undef,undef,undef,undef,undef,undef,undef,u34],defers:=Ds.map mk })
  (fun a' _=>p.flows.length-(intOf (a'.tmps.getD 13 undef)).toNat) ⟨_,_,_,_,_,_,_,0,[],[],⟨Zk _,rfl,HN4.out⟩,rfl⟩ ?_
 rintro _ wr ⟨u5,u14,u15,u16,u17,u18,u34,i,Ds,dn,⟨hi,hdn,hN⟩,rfl⟩
 dsimp only
 have HN:=hid hN
 have c0:=hN.b0.cell
 have hsw:=Zm hN.size hN.bsize
 clear hN HN4
 by_cases hlt:i<p.flows.length
 ·have hil:(i:Int)<(p.flows.length:Int):=oq
  rw[UK hlt] at hdn
  have HDN:=hid hdn
  clear hdn
  gi_wp2_with (refine⟨trivial,?_⟩;gi_at_call 79;refine(Zs.2 (Vw (w:=wr) m i)).mono ?_;rintro x w5 ⟨rfl,rfl⟩)
  obtain⟨W5,hW5⟩:∃W5,(wr.alloc (.cells #[.pointer (some ⟨m,0,none⟩)] 116)).alloc (.cells #[.int .i64 (i:Int)] 3)=W5:=⟨_,rfl⟩
  rw[hW5]
  have hB5:Below wr.heap.size wr W5:=by rw[←hW5];exact bq
  have hs5:W5.heap.size=wr.heap.size+2:=by rw[←hW5];simp
  have bx1:Boxed W5 wr.heap.size 116 (.pointer (some ⟨m,0,none⟩)):=by rw[←hW5];exact(Boxed.new _ _ _).alloc _
  have bx2:Boxed W5 (wr.heap.size+1) 3 (.int .i64 (i:Int)):=by rw[←hW5];have:=Boxed.new (wr.alloc (.cells #[.pointer (some ⟨m,0,none⟩)] 116)) 3 (.int .i64 (i:Int));simpa using this
  clear hW5
  have HN5:=hid ((HN.out.keep hB5).more (B':=W5.heap.size) oq (Zc _))
  obtain⟨Lx5,hM5,_⟩:=HN5.out.mkr
  have hB05:Below W0.heap.size W0 W5:=hM5.low
  have HBX:=hid hM5.box
  have hw5:=hB05.size
  have hlm5:=HN5.out.lt
  refine qI (w:=W5) (encs:=fun x:VS W0=>#[.agg #[.int .i64 x.s.1.k,.string x.s.1.nm,.int .i64 x.s.1.n,.int .i64 x.s.1.d,.slice x.ad x.s.1.args.len x.cap,.int .i64 x.s.1.a,.string x.s.2]]) rfl oq (gf:=119) (lb:=#[.pointer (some ⟨wr.heap.size,0,none⟩),.pointer (some ⟨wr.heap.size+1,0,none⟩)]) rfl trivial (enters_of Tryz.func119 kq rfl) (n₀:=W0.heap.size) (Bk:=wr.heap.size) hw5
   (JP p an ai af ao cn ci cf co hp hok mc mi mf mn mx m wr.heap.size (wr.heap.size+1) i _ hlt W5 wr.heap.size oq hB05 HBX.out bx1 bx2) (fun _=>rfl)
   (fun pre X=>Jp W0 p an ai af ao cn ci cf co mc mi mf mn mx m Lc Li Lf Ln w W5.heap.size Ds ((dn++pre.map (fun y:VS W0=>y.s)).map Prod.snd) X)
   (fun pre X=>eB W0 w W5.heap.size Ds X∧31≤dn.length+pre.length)
   (fun s X Y row hs hg hr=>hs.own hg hr) (fun s X Y row hs hg hr=>⟨hs.1.own oq hg hr,hs.2⟩) (by simpa using HN5.out)
   (fun x a' X=>∃Bx,W5.heap.size≤Bx∧X.heap[Bx]?=some (.cells #[.int .i64 x.s.1.k,.string x.s.1.nm,.int .i64 x.s.1.n,.int .i64 x.s.1.d,.slice x.ad x.s.1.args.len x.cap,.int .i64 x.s.1.a,.string x.s.2] 157 (0,0)) ∧
    a'={ tmps:=#[.pointer (some ⟨m,0,none⟩),.pointer (some ⟨w.heap.size,0,none⟩),.pointer (some ⟨w.heap.size+1,0,none⟩),.pointer (some ⟨w.heap.size+1+1,0,none⟩),.pointer (some ⟨w.heap.size+1+1+1,0,none⟩),.int .i64 (i:Int),.pointer (some ⟨Bx,0,none⟩),.pointer (some ⟨m,0,none⟩),.pointer (some ⟨m,0,none⟩),.pointer (some ⟨m,0,none⟩),.pointer (some ⟨m,2,none⟩),.slice af p.flows.length cf,.int .i64 (p.flows.length:Int),.int .i64 (i:Int),.bool true,.int .i64 (i:Int),.pointer (some ⟨m,0,none⟩),.int .i64 (i:Int),.func (.func 119) #[] #[.pointer (some ⟨wr.heap.size,0,none⟩),.pointer (some ⟨wr.heap.size+1,0,none⟩)],.agg #[.int .i64 x.s.1.k,.string x.s.1.nm,.int .i64 x.s.1.n,.int .i64 x.s.1.d,.slice x.ad x.s.1.args.len x.cap,.int .i64 x.s.1.a,.string x.s.2],undef,undef,undef,undef,undef,undef,undef,undef,undef,undef,undef,undef,undef,undef,u34],defers:=[] })
   (fun x a' _ X Y row hs hg hrw=>by
    obtain⟨Bx,h1,h2,h3⟩:=hs
    refine⟨Bx,h1,(hg.block Bx (Zq.1 h2).1 (fun e=>?_)).trans h2,h3⟩
    obtain⟨_,o,ho,hc⟩:=hrw Bx e.symm
    rw[h2] at ho;cases ho;cases hc)
   ?assign ?body ?done ?stop
  case assign =>
   rintro l2 pre x X K hIX hK
   gi_wp2
   exact hK _ _ ((Zg _ _).alloc (Zc _) _) (hIX.keep (((Zg _ _).alloc (Zc _) _).mono hIX.bsize)) ⟨X.heap.size,hIX.bsize,Yt X _,rfl⟩
  case body =>
   rintro l2 pre ⟨⟨⟨k2,nm2,n2,d2,args2,a2⟩,way2⟩,ad3,cap3,hok3⟩ a' X hl2' ⟨r,hr⟩ hIX ⟨Bx,hBx,hxb,rfl⟩ hlt2
   simp only at hxb
   obtain⟨Lx,hMX,hIxX⟩:=hIX.mkr
   have hfew:=hIX.few
   obtain⟨ways,hways⟩:∃ways,(dn++pre.map (fun y:VS W0=>y.s)).map Prod.snd=ways:=⟨_,rfl⟩
   have HWL:=hid (show ways.length=dn.length+pre.length by rw[←hways];simp)
   rw[hways] at hIX hIxX hfew
   have b3:=hIX.b3
   have c0:=hIX.b0.cell
   have c1:=hIX.b1.cell
   have f1:=hIX.b1.frozen
   have c2:=hIX.b2.cell
   have f2:=hIX.b2.frozen
   obtain⟨⟨x0,x1,x2,x3,x4,x5,x6⟩,xf⟩:=YP hxb
   obtain⟨⟨z0,z1,z2,z3,z4,z5,z6,z7,z8⟩,zf⟩:=YN (show X.heap[m]?=_ from hMX.box)
   have hX5:=hIX.bsize
   have hord:=hMX.ord
   by_cases h30:ways.length=30
   ·rw[h30] at b3
    have c3:=b3.cell
    have HIX:=hid hIX
    have hbx1:=hIX.b1
    have hbx2:=hIX.b2
    clear hIX hMX hIxX b3 hr
    gi_wp2
    have hset:∀k,k≠w.heap.size+1→k≠w.heap.size+1+1→((X.setCell ⟨w.heap.size+1,0,none⟩ (.int .i64 a2)).setCell ⟨w.heap.size+1+1,0,none⟩ (.int .i64 8)).heap[k]?=X.heap[k]?:=fun k h1 h2=>by
     rw[Zr _ _ _ _ (fun e=>h2 e),Zr _ _ _ _ (fun e=>h1 e)]
    have hbl:∀B,B≤w.heap.size+1→Below B X ((X.setCell ⟨w.heap.size+1,0,none⟩ (.int .i64 a2)).setCell ⟨w.heap.size+1+1,0,none⟩ (.int .i64 8)):=fun B hB=>((Zg _ _).setCell (p:=⟨w.heap.size+1,0,none⟩) hB _).setCell (p:=⟨w.heap.size+1+1,0,none⟩) (by show B≤w.heap.size+1+1;omega) _
    refine⟨⟨(hbl 0 oq).size,fun k o hk ho hc=>(hset k oq oq).trans ho⟩,rfl,⟨?_,oq,Zm HIX.out.bsize (hbl 0 oq).size,⟨a2,?_⟩,?_,?_,HIX.out.under⟩,by rw[Zw,Zp,Zv];have:=HWL.out;omega⟩
    ·obtain⟨Lx,hMX,_⟩:=HIX.out.mkr
     exact hMX.low.trans (hbl _ oq)
    ·exact(hbx1.set (.int .i64 a2)).other oq _
    ·exact(hbx2.other oq _).set _
    exact(HIX.out.marks.set _ _).set _ _
   have hn30:((ways.length:Int) == 30)=false:=ZW.2 oq
   have h30':ways.length<30:=oq
   have c3:=b3.cell
   have HIX:=hid hIX
   have HMX:=hid hMX
   have HIXX:=hid hIxX
   clear hIX hMX hIxX b3 hr h30 hfew
   gi_wp2
   refine UD 7 kq kq ?hlet kq ?_
   case hlet=>rintro⟨_,_,h⟩;exact h
   simp only[List.take_succ_cons,List.take_zero,List.drop_succ_cons,List.drop_zero]
   repeat still_step
   try refine wpStill_nil ?_
   change wpList _ _ _ _ _ X.drew
   go_wp2_with (at_mapUpdate;refine Xe jO _ rfl _ _ _ rfl mx Lx way2 (.int .i64 (ways.length:Int)) rfl rfl rfl (show YJ X.drew _ _ from HMX.out.x) ?_;intro arr clock hm2)
   have hu2:Upon mx X (World.putM X.drew mx (.map arr clock)):=YI (Upon.refl _ _).drew _
   have HST:=hid (HIX.out.step HMX.out HIXX.out way2 hm2 h30')
   obtain⟨W2,hW2⟩:∃W2,World.putM X.drew mx (.map arr clock)=W2:=⟨_,rfl⟩
   rw[hW2] at hu2 HST ⊢
   have b3:Boxed W2 (w.heap.size+1+1+1) 3 (.int .i64 (ways.length:Int)):=(hu2.block _ oq oq).trans HIX.out.b3
   have c3':=b3.cell
   have f3':=b3.frozen
   have hi64:IntKind.i64.wrap ((ways.length:Int)+1)=(ways.length:Int)+1:=ZJ _ oq
   gi_wp2
   have hset:∀k,k<X.heap.size→k≠mx→k≠w.heap.size+1+1+1→(W2.setCell ⟨w.heap.size+1+1+1,0,none⟩ (.int .i64 ((ways.length:Int)+1))).heap[k]?=X.heap[k]?:=fun k h1 h2 h3=>by
    rw[Zr _ _ _ _ (fun e=>h3 e)]
    exact hu2.block k h1 h2
   have hszz:X.heap.size≤(W2.setCell ⟨w.heap.size+1+1+1,0,none⟩ (.int .i64 ((ways.length:Int)+1))).heap.size:=Zm hu2.size ((Zg 0 W2).setCell (p:=⟨w.heap.size+1+1+1,0,none⟩) (Zk _) _).size
   refine⟨⟨hszz,fun k o hk ho hc=>(hset k (Zb ho) oq oq).trans ho⟩,⟨?_,fun k o hk ho hc=>(hset k (Zb ho) oq oq).trans ho⟩,?_⟩
   ·exact(hu2.below oq oq).setCell (p:=⟨w.heap.size+1+1+1,0,none⟩) (by show W0.heap.size≤w.heap.size+1+1+1;omega) _
   have e:((dn++(pre++[(⟨(⟨k2,nm2,n2,d2,args2,a2⟩,way2),ad3,cap3,hok3⟩:VS W0)]).map (fun y:VS W0=>y.s)).map Prod.snd)=ways++[way2]:=by rw[←hways];simp
   show Jp W0 p an ai af ao cn ci cf co mc mi mf mn mx m Lc Li Lf Ln w W5.heap.size Ds ((dn++(pre++[(⟨(⟨k2,nm2,n2,d2,args2,a2⟩,way2),ad3,cap3,hok3⟩:VS W0)]).map (fun y:VS W0=>y.s)).map Prod.snd) _
   rw[e]
   exact HST.out
  case done =>
   rintro D zs X hD hzs hIX hK
   gi_wp2
   rw[show((i:Int)+1)=((i+1:Nat):Int) by omega]
   refine⟨⟨_,_,_,_,_,_,_,i+1,D::Ds,dn++zs.map (·.s),⟨oq,?_,hIX.mark hD hK⟩,rfl⟩,by simp[intOf];omega⟩
   rw[hzs,List.append_assoc]
   exact HDN.out
  rintro D pre X hD hpre ⟨hX,h31⟩ hK
  obtain⟨a,bA⟩:=hX.b1
  have bE:=hX.b2
  have hlow:=hX.low
  gi_wp2
  refine XY (n₀:=w.heap.size) (D::Ds) _ ⟨fun D' hD'=>?_,List.nodup_cons.2 ⟨fun hm=>?_,hX.marks.2⟩⟩ (fun w' hk=>?_)
  ·rcases ZQ.1 hD' with rfl|hm
   ·exact⟨oq,hK⟩
   exact hX.marks.1 D' hm
  ·have:=hX.under D hm
   omega
  have bA4:=(show Boxed w' _ _ _ from hk.same _ _ bA rfl).cell
  have bE4:=(show Boxed w' _ _ _ from hk.same _ _ bE rfl).cell
  refine⟨.tuple #[.int .i64 a,.int .i64 8],?_,?_⟩
  ·simp only[results,Tryz.results47];go_simp
  refine .inl ⟨a,rfl,?_,hlow.trans (hk.below.mono oq)⟩
  obtain⟨q,hq⟩:=hpre
  have h1:=Z1 List.length HDN.out
  have h2:=Z1 List.length hq
  simp only[Zw,Zo] at h1 h2
  omega
 have hie0:i=p.flows.length:=oq
 have hie:¬(i:Int)<(p.flows.length:Int):=oq
 have bA2:=HN.out.b1
 have bE2:=HN.out.b2
 have cA:=bA2.cell
 have fA:=bA2.frozen
 have cE:=bE2.cell
 have fE:=bE2.frozen
 gi_wp2
 refine XY Ds _ ((HN.out.marks.set _ _).set _ _) (fun w' hk=>?_)
 have bA3:=hk.same _ _ ((bA2.set (.int .i64 0)).other (show w.heap.size+1≠w.heap.size+1+1 by omega) (.int .i64 0)) rfl
 have bE3:=hk.same _ _ ((bE2.other (show w.heap.size+1+1≠w.heap.size+1 by omega) (.int .i64 0)).set (.int .i64 0)) rfl
 have bA4:=(show Boxed w' _ _ _ from bA3).cell
 have bE4:=(show Boxed w' _ _ _ from bE3).cell
 refine⟨.tuple #[.int .i64 0,.int .i64 0],?_,.inr ⟨rfl,?_,?_,?_⟩⟩
 ·simp only[results,Tryz.results47];go_simp
 ·rw[hie0,Ym,YL,List.append_nil] at hdn
  have:=HN.out.few
  rw[←hdn]
  simpa using this
 ·exact(((HN.out.up.setCell (p:=⟨w.heap.size+1,0,none⟩) (Or.inr (by show w.heap.size≤w.heap.size+1;omega)) _)).setCell (p:=⟨w.heap.size+1+1,0,none⟩) (Or.inr (by show w.heap.size≤w.heap.size+1+1;omega)) _).then_below hk.below (Zc _)
 obtain⟨Lx,hMX,hIX⟩:=HN.out.mkr
 rw[hie0,Ym,YL,List.append_nil] at hdn
 rw[hdn] at hIX
 exact⟨Lx,hMX.keep (B:=w.heap.size) hlm ((((Zg _ _).setCell (p:=⟨w.heap.size+1,0,none⟩) (by show w.heap.size≤w.heap.size+1;omega) _).setCell (p:=⟨w.heap.size+1+1,0,none⟩) (by show w.heap.size≤w.heap.size+1+1;omega) _).trans hk.below),hIX⟩
end Go.Proofs.YtlhlcdjiafdoeaaGreatDoor.syn
