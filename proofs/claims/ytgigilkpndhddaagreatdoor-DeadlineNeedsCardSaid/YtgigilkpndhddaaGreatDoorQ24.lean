/-
  Parts of the proof: Flt7, Flt8.
-/
import Derived.Test.YtgigilkpndhddaaGreatDoorQ23
namespace Go.Proofs.YtgigilkpndhddaaGreatDoor.syn
set_option linter.unusedVariables false
set_option linter.unusedSimpArgs false
set_option linter.unnecessarySimpa false
set_option maxRecDepth 100000
set_option maxHeartbeats 16000000
open Go.RowKit Go.Shelf
theorem Qu:Xx 117 9 62 (.agg #[.int .i64 0,.int .i64 0]):=⟨by kernel_rfl,by kernel_rfl,fun w=>by kernel_rfl,fun b s w=>by cases b<;>kernel_rfl⟩
theorem QH:Xx 186 9 3 (.int .i64 0):=⟨by kernel_rfl,by kernel_rfl,fun w=>by kernel_rfl,fun b s w=>by cases b<;>kernel_rfl⟩
theorem ve:Xx 187 182 3 (.int .i64 0):=⟨by kernel_rfl,by kernel_rfl,fun w=>by kernel_rfl,fun b s w=>by cases b<;>kernel_rfl⟩
abbrev IE:=ByteArray→Option Nat
def VO (e:IE) (k:ByteArray) (j:Nat):IE:=fun nm=>if nm=k then some j else e nm
def inI:List ByteArray→Nat→IE→IE
 | [],_,e=>e
 | k::l,i,e=>inI l (i+1) (VO e k i)
def Xh (L:List (ByteArray × Value)) (e:IE):Prop:=∀nm,Y0 nm L=(e nm).map (fun j=>.int .i64 (j:Int))
theorem Xh.nil:Xh [] (fun _=>none):=fun _=>rfl
theorem Xh.put {L:List (ByteArray × Value)} {e:IE} (h:Xh L e) (k:ByteArray) (j:Nat):Xh (Jc k (.int .i64 (j:Int)) L) (VO e k j):=by
 intro nm
 rw[V4]
 unfold VO
 by_cases hk:nm=k
 ·rw[Z2 hk,Z2 hk];rfl
 rw[Z1 hk,Z1 hk];exact h nm
theorem GU:∀(l:List ByteArray) (i:Nat) (e:IE) (nm:ByteArray) (j:Nat),inI l i e nm=some j→(∃h:j-i<l.length,i≤j∧l[j-i]=nm)∨e nm=some j
 | [],i,e,nm,j,h=>.inr h
 | k::l,i,e,nm,j,h=>by
  rcases GU l (i+1) (VO e k i) nm j h with ⟨h1,h2,h3⟩|h1
  ·refine .inl ⟨by simp only[Zp];omega,oq,?_⟩
   have he:j-i=(j-(i+1))+1:=oq
   simp only[he,List.getElem_cons_succ]
   exact h3
  unfold VO at h1
  by_cases hk:nm=k
  ·rw[Z2 hk] at h1
   injection h1 with h1
   subst h1
   refine .inl ⟨by simp,Zc _,?_⟩
   simp[hk]
  rw[Z1 hk] at h1
  exact .inr h1
theorem EP:∀(l:List ByteArray) (i:Nat) (e:IE) (nm:ByteArray),e nm≠none→inI l i e nm≠none
 | [],i,e,nm,h=>h
 | k::l,i,e,nm,h=>EP l (i+1) (VO e k i) nm (by
  unfold VO
  by_cases hk:nm=k
  ·rw[Z2 hk];exact Option.some_ne_none _
  rw[Z1 hk];exact h)
theorem Ey:∀(l:List ByteArray) (i:Nat) (e:IE) (nm:ByteArray),nm∈l→inI l i e nm≠none
 | k::l,i,e,nm,h=>by
  rcases ZR.1 h with rfl|h
  ·refine EP l (i+1) _ nm ?_
   unfold VO
   rw[Z2 rfl]
   exact Option.some_ne_none _
  exact Ey l (i+1) _ nm h
def U8 (env':Env):List FL→Env→Env
 | [],e=>e
 | f::l,e=>U8 env' l (upd e f.nm (Jw env' f.nm))
structure MkS (W0:World) (n:Nat) (mk:Obj) (mc mi mf mn mx m:Nat) (W:World) (Lc Li Lf Ln:List (ByteArray × Value)):Prop where
 low:Below n W0 W
 ord:n≤mc∧mc<mi∧mi<mf∧mf<mn∧mn<mx∧mx<m
 box:W.heap[m]?=some mk
 c:YG W mc Lc
 i:YG W mi Li
 f:YG W mf Lf
 nd:YG W mn Ln
 x:YG W mx []
section
variable {W0:World} {n:Nat} {mk:Obj} {mc mi mf mn mx m:Nat} {W W':World} {Lc Li Lf Ln:List (ByteArray × Value)}
theorem MkS.lt (h:MkS W0 n mk mc mi mf mn mx m W Lc Li Lf Ln):m<W.heap.size:=Zb h.box
theorem MkS.grow (h:MkS W0 n mk mc mi mf mn mx m W Lc Li Lf Ln) (hb:Below W.heap.size W W'):MkS W0 n mk mc mi mf mn mx m W' Lc Li Lf Ln :=
 ⟨h.low.trans (hb.mono (by have:=h.lt;have:=h.ord;omega)),h.ord,(hb.block _ h.lt).trans h.box,h.c.below hb,h.i.below hb,h.f.below hb,h.nd.below hb,h.x.below hb⟩
theorem MkS.putC (h:MkS W0 n mk mc mi mf mn mx m W Lc Li Lf Ln) {o:Obj} {L:List (ByteArray × Value)} (hm:YG (World.putM W mc o) mc L):MkS W0 n mk mc mi mf mn mx m (World.putM W mc o) L Li Lf Ln:=by
 have hu:Upon mc W (World.putM W mc o):=YF (Upon.refl _ _) _
 have ho:=h.ord
 exact⟨Qr h.low oq _,ho,(hu.block _ h.lt oq).trans h.box,hm,h.i.upon hu oq,h.f.upon hu oq,h.nd.upon hu oq,h.x.upon hu oq⟩
theorem MkS.putI (h:MkS W0 n mk mc mi mf mn mx m W Lc Li Lf Ln) {o:Obj} {L:List (ByteArray × Value)} (hm:YG (World.putM W mi o) mi L):MkS W0 n mk mc mi mf mn mx m (World.putM W mi o) Lc L Lf Ln:=by
 have hu:Upon mi W (World.putM W mi o):=YF (Upon.refl _ _) _
 have ho:=h.ord
 exact⟨Qr h.low oq _,ho,(hu.block _ h.lt oq).trans h.box,h.c.upon hu oq,hm,h.f.upon hu oq,h.nd.upon hu oq,h.x.upon hu oq⟩
theorem MkS.putF (h:MkS W0 n mk mc mi mf mn mx m W Lc Li Lf Ln) {o:Obj} {L:List (ByteArray × Value)} (hm:YG (World.putM W mf o) mf L):MkS W0 n mk mc mi mf mn mx m (World.putM W mf o) Lc Li L Ln:=by
 have hu:Upon mf W (World.putM W mf o):=YF (Upon.refl _ _) _
 have ho:=h.ord
 exact⟨Qr h.low oq _,ho,(hu.block _ h.lt oq).trans h.box,h.c.upon hu oq,h.i.upon hu oq,hm,h.nd.upon hu oq,h.x.upon hu oq⟩
theorem MkS.putN (h:MkS W0 n mk mc mi mf mn mx m W Lc Li Lf Ln) {o:Obj} {L:List (ByteArray × Value)} (hm:YG (World.putM W mn o) mn L):MkS W0 n mk mc mi mf mn mx m (World.putM W mn o) Lc Li Lf L:=by
 have hu:Upon mn W (World.putM W mn o):=YF (Upon.refl _ _) _
 have ho:=h.ord
 exact⟨Qr h.low oq _,ho,(hu.block _ h.lt oq).trans h.box,h.c.upon hu oq,h.i.upon hu oq,h.f.upon hu oq,hm,h.x.upon hu oq⟩
end
theorem J8 {W0:World} (p:PG) (an ai af ao:Option Addr) (cn ci cf co:Nat) (hp:AP W0 p an ai af ao cn ci cf co) (hok:Jy p) (mc mi mf mn mx:Nat) (m B1 B2 i n:Nat) (hi:i<p.flows.length) (w:World) (Bk:Nat) (hBk:Bk≤w.heap.size)
  (hB:Below W0.heap.size W0 w) (hm:MkB w m p an ai af ao cn ci cf co mc mi mf mn mx) (hb1:Boxed w B1 123 (.pointer (some ⟨m,0,none⟩))) (hb2:Boxed w B2 3 (.int .i64 (i:Int))) :
  Zc2 Fence.wide n Tryz.prog 130 #[.pointer (some ⟨B1,0,none⟩),.pointer (some ⟨B2,0,none⟩)] (fun x:VS W0=>x.vs) W0.heap.size Bk (fun xs=>xs.map (·.s)=(Xi p.flows[i].e (dg i)).filter isC)
   (fun pre=>pre.map (·.s) <+: (Xi p.flows[i].e (dg i)).filter isC) (p.flows[i].e.args.sz+1) w:=fun l J Jx W hW hJ hJx hY h0 =>
 xq p an ai af ao cn ci cf co hp hok mc mi mf mn mx m B1 B2 i n l Bk hi J Jx W (hB.trans (hW.mono hB.size)) (Zm hBk hW.size) ((hW.block m (Zb hm)).trans hm) ((hW.block B1 hb1.lt).trans hb1) ((hW.block B2 hb2.lt).trans hb2) hJ hJx hY h0
def ED (p:PG) (an ai af ao:Option Addr) (cn ci cf co:Nat) (mc mi mf mn mx:Nat):Obj :=
 .cells #[.slice an p.nodes.length cn,.slice ai p.ins.length ci,.slice af p.flows.length cf,.slice ao p.outs.length co,.map (some mc),.map (some mi),.map (some mf),.map (some mn),.map (some mx)] 189 (0,0)
def S6 (m bx mc:Nat) (nm:ByteArray) (per ph fa:Int) (w':World):Prop :=
 w'.cell? ⟨m,4,none⟩=some (.map (some mc))∧w'.cell? ⟨bx,0,none⟩=some (.string nm)∧w'.cell? ⟨bx,1,none⟩=some (.int .i64 per)∧w'.cell? ⟨bx,2,none⟩=some (.int .i64 ph)∧w'.cell? ⟨bx,3,none⟩=some (.int .i64 fa)
def ZcQ (w:World) (p:PG) (an ai af ao:Option Addr) (cn ci cf co:Nat) (env':Env) (x:Ending) (w':World):Prop :=
 ∃m mc mi mf mn mx Lc Li Lf Ln,x=.returned (.pointer (some ⟨m,0,none⟩))∧MkS w w.heap.size (ED p an ai af ao cn ci cf co mc mi mf mn mx) mc mi mf mn mx m w' Lc Li Lf Ln ∧
  Xy Lc (U8 env' p.flows (YX p.ins))∧Xh Li (inI (p.ins.map (·.nm)) 0 (fun _=>none))∧Xh Lf (inI (p.flows.map (·.nm)) 0 (fun _=>none))∧Xh Ln (inI (p.nodes.map (·.nm)) 0 (fun _=>none))
def GQ (w:World) (p:PG) (an ai af ao:Option Addr) (cn ci cf co:Nat) (W:World) (Lc Li Lf Ln:List (ByteArray × Value)):Prop :=
 MkS w w.heap.size (ED p an ai af ao cn ci cf co (w.heap.size+1) (w.heap.size+1+1) (w.heap.size+1+1+1) (w.heap.size+1+1+1+1) (w.heap.size+1+1+1+1+1)) (w.heap.size+1) (w.heap.size+1+1) (w.heap.size+1+1+1) (w.heap.size+1+1+1+1) (w.heap.size+1+1+1+1+1) (w.heap.size+1+1+1+1+1+1) W Lc Li Lf Ln ∧
  W.heap[w.heap.size]?=some (.cells #[.slice an p.nodes.length cn,.slice ai p.ins.length ci,.slice af p.flows.length cf,.slice ao p.outs.length co] 27 (0,0))
def Nw1 (w:World) (p:PG) (an ai af ao:Option Addr) (cn ci cf co:Nat) (v:Value) (wr:World):Prop :=
 ∃(i:Nat) (env:Env) (e:IE) (Lc Li:List (ByteArray × Value)),v=.int .i64 (i:Int)∧i≤p.ins.length∧GQ w p an ai af ao cn ci cf co wr Lc Li [] []∧Xy Lc env∧Xh Li e∧UT (p.ins.drop i) env=YX p.ins∧inI ((p.ins.drop i).map (·.nm)) i e=inI (p.ins.map (·.nm)) 0 (fun _=>none)
def Nw2 (w:World) (p:PG) (an ai af ao:Option Addr) (cn ci cf co:Nat) (env':Env) (Li:List (ByteArray × Value)) (v:Value) (wr:World):Prop :=
 ∃(i:Nat) (env:Env) (e:IE) (Lc Lf:List (ByteArray × Value)),v=.int .i64 (i:Int)∧i≤p.flows.length∧GQ w p an ai af ao cn ci cf co wr Lc Li Lf []∧Xy Lc env∧Xh Lf e∧U8 env' (p.flows.drop i) env=U8 env' p.flows (YX p.ins)∧inI ((p.flows.drop i).map (·.nm)) i e=inI (p.flows.map (·.nm)) 0 (fun _=>none)
def Nw3 (w:World) (p:PG) (an ai af ao:Option Addr) (cn ci cf co:Nat) (Lc Li Lf:List (ByteArray × Value)) (v:Value) (wr:World):Prop :=
 ∃(i:Nat) (e:IE) (Ln:List (ByteArray × Value)),v=.int .i64 (i:Int)∧i≤p.nodes.length∧GQ w p an ai af ao cn ci cf co wr Lc Li Lf Ln∧Xh Ln e∧inI ((p.nodes.drop i).map (·.nm)) i e=inI (p.nodes.map (·.nm)) 0 (fun _=>none)
theorem cell0 {w:World} {b:Nat} {v:Value} {vs:List Value} {t:TypeId} (h:w.heap[b]?=some (.cells (v::vs).toArray t (0,0))):w.cell? ⟨b,0,none⟩=some v∧∀o,w.frozen? ⟨b,o,none⟩=false:=by
 refine⟨by simp[World.cell?,h],fun o=>by simp[World.frozen?,h]⟩
theorem GQ.grow {w:World} {p:PG} {an ai af ao:Option Addr} {cn ci cf co:Nat} {W W':World} {Lc Li Lf Ln:List (ByteArray × Value)} (h:GQ w p an ai af ao cn ci cf co W Lc Li Lf Ln) (hb:Below W.heap.size W W'):GQ w p an ai af ao cn ci cf co W' Lc Li Lf Ln :=
 ⟨h.1.grow hb,(hb.block _ (Zb h.2)).trans h.2⟩
theorem ku (w:World) (p:PG) (an ai af ao:Option Addr) (cn ci cf co:Nat):GQ w p an ai af ao cn ci cf co (((((((w.alloc (.cells #[.slice an p.nodes.length cn,.slice ai p.ins.length ci,.slice af p.flows.length cf,.slice ao p.outs.length co] 27)).alloc (.map #[] 0)).alloc (.map #[] 0)).alloc (.map #[] 0)).alloc (.map #[] 0)).alloc (.map #[] 0)).alloc
  (ED p an ai af ao cn ci cf co (w.heap.size+1) (w.heap.size+1+1) (w.heap.size+1+1+1) (w.heap.size+1+1+1+1) (w.heap.size+1+1+1+1+1))) [] [] [] []:=by
 obtain⟨A,hA⟩:∃A,w.alloc (.cells #[.slice an p.nodes.length cn,.slice ai p.ins.length ci,.slice af p.flows.length cf,.slice ao p.outs.length co] 27)=A:=⟨_,rfl⟩
 have hAs:A.heap.size=w.heap.size+1:=by rw[←hA];simp
 have hAb:Below w.heap.size w A:=by rw[←hA];exact bq
 have hAc:A.heap[w.heap.size]?=some (.cells #[.slice an p.nodes.length cn,.slice ai p.ins.length ci,.slice af p.flows.length cf,.slice ao p.outs.length co] 27 (0,0)):=by rw[←hA];exact Yp w _
 rw[hA]
 clear hA
 unfold GQ
 generalize ED p an ai af ao cn ci cf co (w.heap.size+1) (w.heap.size+1+1) (w.heap.size+1+1+1) (w.heap.size+1+1+1+1) (w.heap.size+1+1+1+1+1)=mo
 rw[←hAs]
 have m1:=YG.new A
 have m2:=YG.new (A.alloc (.map #[] 0))
 have m3:=YG.new ((A.alloc (.map #[] 0)).alloc (.map #[] 0))
 have m4:=YG.new (((A.alloc (.map #[] 0)).alloc (.map #[] 0)).alloc (.map #[] 0))
 have m5:=YG.new ((((A.alloc (.map #[] 0)).alloc (.map #[] 0)).alloc (.map #[] 0)).alloc (.map #[] 0))
 have m6:=Yp (((((A.alloc (.map #[] 0)).alloc (.map #[] 0)).alloc (.map #[] 0)).alloc (.map #[] 0)).alloc (.map #[] 0)) mo
 simp only[Zu] at m1 m2 m3 m4 m5 m6
 have up:∀(X:World) (o:Obj),Below X.heap.size X (X.alloc o):=fun X o=>(Zg _ _).alloc (Zc _) _
 refine⟨⟨?_,oq,m6,?_,?_,?_,?_,m5.below (up _ _)⟩,?_⟩
 ·exact hAb.trans (((((((Zg _ A).alloc oq _).alloc (by simp;omega) _).alloc (by simp;omega) _).alloc (by simp;omega) _).alloc (by simp;omega) _).alloc (by simp;omega) _)
 ·exact((((m1.below (up _ _)).below (up _ _)).below (up _ _)).below (up _ _)).below (up _ _)
 ·exact(((m2.below (up _ _)).below (up _ _)).below (up _ _)).below (up _ _)
 ·exact((m3.below (up _ _)).below (up _ _)).below (up _ _)
 ·exact(m4.below (up _ _)).below (up _ _)
 exact((((((Zg _ A).alloc (Zc _) _).alloc (by simp only[Zu];omega) _).alloc (by simp only[Zu];omega) _).alloc (by simp only[Zu];omega) _).alloc (by simp only[Zu];omega) _ |>.alloc (by simp only[Zu];omega) _).block _ oq |>.trans hAc
theorem zc {w:World} (p:PG) (an ai af ao:Option Addr) (cn ci cf co:Nat) (hp:AP w p an ai af ao cn ci cf co) (hok:Jy p) (env':Env) (bc:Nat) (hbc:bc<w.heap.size) (l:List (Int × Int)) (hl:p.flows.map (fun f=>Jw env' f.nm)=l) (hc:zl w bc l) :
  Calls Tryz.prog 54 #[pv p an ai af ao cn ci cf co,.slice (some ⟨bc,0,none⟩) l.length l.length] w (ZcQ w p an ai af ao cn ci cf co env'):=by
 have hll:=hok.lens
 have HP:=hid hp
 have HC:=hid hc
 have HL:=hid hl
 have hcap:=hp.caps
 have hlf:l.length=p.flows.length:=by rw[←hl,Zo]
 have hmk1:=fun w=>run_makeMap (P:=Tryz.prog) 117 w
 have hmk2:=fun w=>run_makeMap (P:=Tryz.prog) 186 w
 have hmk3:=fun w=>run_makeMap (P:=Tryz.prog) 187 w
 clear hp hok hc hl
 unfold pv
 rw[hlf]
 have HLF:=hid hlf
 clear hlf
 go_enter Tryz.func54,Tryz.ntmps54
 go_wp2
 have hN0:=ku w p an ai af ao cn ci cf co
 unfold ED at hN0
 obtain⟨W1,hW1⟩:∃W1,(((((((w.alloc (.cells #[.slice an p.nodes.length cn,.slice ai p.ins.length ci,.slice af p.flows.length cf,.slice ao p.outs.length co] 27)).alloc (.map #[] 0)).alloc (.map #[] 0)).alloc (.map #[] 0)).alloc (.map #[] 0)).alloc (.map #[] 0)).alloc
  (.cells #[.slice an p.nodes.length cn,.slice ai p.ins.length ci,.slice af p.flows.length cf,.slice ao p.outs.length co,.map (some (w.heap.size+1)),.map (some (w.heap.size+1+1)),.map (some (w.heap.size+1+1+1)),.map (some (w.heap.size+1+1+1+1)),.map (some (w.heap.size+1+1+1+1+1))] 189))=W1:=⟨_,rfl⟩
 rw[hW1] at hN0
 try rw[hW1]
 have HN0:=hid (show GQ w p an ai af ao cn ci cf co W1 [] [] [] [] from hN0)
 clear hN0 hW1 hmk1 hmk2 hmk3
 go_loopw [23] (fun v wr=>Hid (Nw1 w p an ai af ao cn ci cf co v wr)) (fun i _=>p.ins.length-(intOf i).toNat)
 case atStart=>exact⟨0,fun _=>none,fun _=>none,[],[],rfl,Zk _,HN0.out,gP,Xh.nil,rfl,rfl⟩
 obtain⟨i,env,e,Lc,Li,rfl,hi,hN,hE,hI,hen,hie⟩:=hrel.out
 clear hrel HN0
 have HN:=hid hN
 have HE:=hid hE
 have HI:=hid hI
 have hlow:=hN.1.low
 have hszr:=hlow.size
 have hplt:=Zb hN.2
 have hmlt:=hN.1.lt
 clear hN hE hI
 by_cases hlt:i<p.ins.length
 ·obtain⟨bb,oo,rfl,hbb0,hin0⟩:=HP.out.ins.at hlt
  have hin:=hin0.later hlow hbb0
  rw[vv hlt] at hen hie
  obtain⟨f,hf⟩:∃f,p.ins[i]=f:=⟨_,rfl⟩
  rw[hf] at hin hen hie
  obtain⟨nm,per,ph,fa⟩:=f
  obtain⟨y0,y1,y2,y3,_⟩:=hin
  simp only at y0 y1 y2 y3
  have HEN:=hid (show UT (p.ins.drop (i+1)) (upd env nm (per,ph))=YX p.ins from hen)
  have HIE:=hid (show inI ((p.ins.drop (i+1)).map (·.nm)) (i+1) (VO e nm i)=inI (p.ins.map (·.nm)) 0 (fun _=>none) from hie)
  have hil:(i:Int)<(p.ins.length:Int):=oq
  have hbb:bb<wr.heap.size:=oq
  clear hin0 hen hie hlow
  go_wp2
  obtain⟨W2,hW2⟩:∃W2,wr.alloc (.cells #[.string nm,.int .i64 per,.int .i64 ph,.int .i64 fa] 109)=W2:=⟨_,rfl⟩
  have hb2:Below wr.heap.size wr W2:=by rw[←hW2];exact(Zg _ _).alloc (Zc _) _
  have bx2:W2.heap[wr.heap.size]?=some (.cells #[.string nm,.int .i64 per,.int .i64 ph,.int .i64 fa] 109 (0,0)):=by rw[←hW2];exact Yp wr _
  have hs2:W2.heap.size=wr.heap.size+1:=by rw[←hW2];simp
  rw[hW2]
  clear hW2 y0 y1 y2 y3
  have HN2:=hid (HN.out.grow hb2)
  obtain⟨⟨c0,c1,c2,c3⟩,cfz⟩:=Yq bx2
  obtain⟨⟨x0,x1,x2,x3,x4,x5,x6,x7,x8⟩,xf⟩:=YL (show W2.heap[w.heap.size+1+1+1+1+1+1]?=_ from HN2.out.1.box)
  have HB2:=hid bx2
  clear hb2 bx2
  go_still_tail 7,kq
  change wpList _ _ _ _ _ W2.drew
  go_wp2_with (at_mapUpdate;refine Xe QH _ rfl _ _ _ rfl (w.heap.size+1+1) Li nm (.int .i64 (i:Int)) rfl rfl rfl (show YG W2.drew _ _ from HN2.out.1.i) ?_;intro arr clock hm2)
  obtain⟨W3,hW3⟩:∃W3,World.putM W2.drew (w.heap.size+1+1) (.map arr clock)=W3:=⟨_,rfl⟩
  have hu3:Upon (w.heap.size+1+1) W2 W3:=by rw[←hW3];exact YF ((Upon.refl _ _).drew) _
  have hd:Below W2.heap.size W2 W2.drew:=(Zg _ _).drew
  have hN3:GQ w p an (some ⟨bb,oo,none⟩) af ao cn ci cf co W3 Lc (Jc nm (.int .i64 (i:Int)) Li) [] []:=by
   rw[←hW3]
   exact⟨(HN2.out.1.grow hd).putI hm2,by have:=(hu3.block _ (Zb HN2.out.2) oq).trans HN2.out.2;rw[←hW3] at this;exact this⟩
  have bx3:W3.heap[wr.heap.size]?=_:=(hu3.block _ oq oq).trans HB2.out
  rw[hW3]
  clear hW3 hm2 c0 c1 c2 c3 cfz x0 x1 x2 x3 x4 x5 x6 x7 x8 xf
  have HN3:=hid hN3
  have hlt3:=Zb bx3
  have hmt3:=hN3.1.lt
  obtain⟨⟨c0,c1,c2,c3⟩,cfz⟩:=Yq bx3
  obtain⟨⟨x0,x1,x2,x3,x4,x5,x6,x7,x8⟩,xf⟩:=YL (show W3.heap[w.heap.size+1+1+1+1+1+1]?=_ from hN3.1.box)
  have KA:=hid (show S6 (w.heap.size+1+1+1+1+1+1) wr.heap.size (w.heap.size+1) nm per ph fa W3.drew from ⟨x4,c0,c1,c2,c3⟩)
  have KB:=hid (show ∀w4,Below W3.drew.heap.size W3.drew w4→S6 (w.heap.size+1+1+1+1+1+1) wr.heap.size (w.heap.size+1) nm per ph fa w4 from fun w4 hb=>⟨(hb.cell (p:=⟨_,4,none⟩) hmt3).trans x4,(hb.cell (p:=⟨_,0,none⟩) hlt3).trans c0,(hb.cell (p:=⟨_,1,none⟩) hlt3).trans c1,(hb.cell (p:=⟨_,2,none⟩) hlt3).trans c2,(hb.cell (p:=⟨_,3,none⟩) hlt3).trans c3⟩)
  have KP:=hid (show ∀w4,Below W3.drew.heap.size W3.drew w4→∀o,S6 (w.heap.size+1+1+1+1+1+1) wr.heap.size (w.heap.size+1) nm per ph fa (World.putM w4 (w.heap.size+1) o) from fun w4 hb o=>by
   have hf:∀(b o':Nat),b≠w.heap.size+1→(World.putM w4 (w.heap.size+1) o).cell? ⟨b,o',none⟩=w4.cell? ⟨b,o',none⟩:=fun b o' hne=>by
    refine Zn ?_
    show(w4.heap.setIfInBounds (w.heap.size+1) o)[b]?=w4.heap[b]?
    rw[Array.getElem?_setIfInBounds_ne (fun e=>hne e.symm)]
   obtain⟨h0,h1,h2,h3,h4⟩:=KB.out w4 hb
   exact⟨(hf _ _ oq).trans h0,(hf _ _ oq).trans h1,(hf _ _ oq).trans h2,(hf _ _ oq).trans h3,(hf _ _ oq).trans h4⟩)
  have HIC:=hid (J9 (w:=W3.drew) nm per ph fa)
  clear hN3 hu3 hd bx3 x0 x1 x2 x3 x4 x5 x6 x7 x8 xf c0 c1 c2 c3 cfz
  go_region_held3 (fun w'=>w'.cell? ⟨w.heap.size+1+1+1+1+1+1,4,none⟩=some (.map (some (w.heap.size+1)))∧w'.cell? ⟨wr.heap.size,0,none⟩=some (.string nm)∧w'.cell? ⟨wr.heap.size,1,none⟩=some (.int .i64 per)∧w'.cell? ⟨wr.heap.size,2,none⟩=some (.int .i64 ph)∧w'.cell? ⟨wr.heap.size,3,none⟩=some (.int .i64 fa)) ((show S6 (w.heap.size+1+1+1+1+1+1) wr.heap.size (w.heap.size+1) nm per ph fa _;first|with_reducible exact KA.out|(with_reducible exact KB.out _ hb4)|(with_reducible exact KP.out _ hb4 _))) (first|(go_at_call 97;refine HIC.out.mono ?_;rintro x w4 ⟨rfl,hb4⟩;obtain⟨arr4,clock4,hrun4,hm4⟩:=Gs Qu (HN3.out.1.c.below (show Below W3.heap.size W3 w4 from(Zg _ _).drew.trans hb4)) nm (.agg #[.int .i64 per,.int .i64 ph])))
  go_wp2
  refine⟨⟨i+1,upd env nm (per,ph),VO e nm i,_,_,by go_num,oq,⟨(HN3.out.1.grow ((Zg _ _).drew.trans hb4)).putC hm4,?_⟩,HE.out.put nm (per,ph),HI.out.put nm i,HEN.out,HIE.out⟩,by simp[intOf];omega⟩
  have hb:Below W3.heap.size W3 w4:=(Zg _ _).drew.trans hb4
  exact((YF (Upon.refl _ w4) (.map arr4 clock4)).block _ (Zb ((hb.block _ (Zb HN3.out.2)).trans HN3.out.2)) oq).trans ((hb.block _ (Zb HN3.out.2)).trans HN3.out.2)
 have hie0:i=p.ins.length:=oq
 subst hie0
 have hil:¬(p.ins.length:Int)<(p.ins.length:Int):=oq
 rw[Yo] at hen hie
 have HE1:=hid (show Xy Lc (YX p.ins) from(show env=YX p.ins from hen)▸HE.out)
 have HI1:=hid (show Xh Li (inI (p.ins.map (·.nm)) 0 (fun _=>none)) from(show e=_ from hie)▸HI.out)
 clear hen hie HE HI hlow
 obtain⟨⟨q0,q1,q2,q3⟩,qf⟩:=Yq HN.out.2
 go_wp2
 obtain⟨w0,rfl⟩:∃w0:World,w0=wr:=⟨_,rfl⟩
 clear q0 q1 q2 q3 qf hszr hplt hmlt
 go_loopw [47] (fun v wr=>Hid (Nw2 w p an ai af ao cn ci cf co env' Li v wr)) (fun i _=>p.flows.length-(intOf i).toNat)
 case atStart=>exact⟨0,_,fun _=>none,_,[],rfl,Zk _,HN.out,HE1.out,Xh.nil,rfl,rfl⟩
 clear HN HE1
 obtain⟨i,env,e,Lc2,Lf,rfl,hi2,hN,hE,hI,hen,hie⟩:=hrel.out
 clear hrel
 have HN:=hid hN
 have HE:=hid hE
 have HI:=hid hI
 have hlow:=hN.1.low
 have hszr:=hlow.size
 have hplt:=Zb hN.2
 have hmlt:=hN.1.lt
 clear hN hE hI
 by_cases hlt:i<p.flows.length
 ·have hilt:(i:Int)<(p.flows.length:Int):=oq
  obtain⟨hk1,hk2⟩:=HC.out i (by rw[HLF.out];exact hlt)
  have hli:l[i]'(by rw[HLF.out];exact hlt)=Jw env' p.flows[i].nm:=by
   have:=HL.out
   subst this
   rw[List.getElem_map]
  rw[hli] at hk1 hk2
  have hk1:=(hlow.cell (p:=⟨bc,i*2,none⟩) hbc).trans hk1
  have hk2:=(hlow.cell (p:=⟨bc,i*2+1,none⟩) hbc).trans hk2
  clear hli
  obtain⟨bb,oo,rfl,hbb0,hin0⟩:=HP.out.flows.at hlt
  have hin:=JU w wr bb _ _ hlow hbb0 hin0
  rw[zO hlt] at hen hie
  obtain⟨f,hf⟩:∃f,p.flows[i]=f:=⟨_,rfl⟩
  rw[hf] at hin hen hie hk1 hk2
  obtain⟨nm,⟨k1,nm1,n1,d1,args1,a1⟩,fa⟩:=f
  obtain⟨ad,cap,y0,y1,y2,y3,y4,y5,y6,y7,hae,hfn⟩:=hin.cells
  obtain⟨⟨per,ph⟩,hpp⟩:∃c,Jw env' nm=c:=⟨_,rfl⟩
  simp only[hpp] at hk1 hk2 y0 y1 y2 y3 y4 y5 y6 y7
  have HEN:=hid (show U8 env' (p.flows.drop (i+1)) (upd env nm (per,ph))=U8 env' p.flows (YX p.ins) by rw[←hpp];exact hen)
  have HIE:=hid (show inI ((p.flows.drop (i+1)).map (·.nm)) (i+1) (VO e nm i)=inI (p.flows.map (·.nm)) 0 (fun _=>none) from hie)
  have hbb:bb<wr.heap.size:=oq
  have hbcw:bc<wr.heap.size:=oq
  clear hin0 hen hie hlow hin hae hfn
  go_wp2
  obtain⟨W2,hW2⟩:∃W2,wr.alloc (.cells #[.string nm,.int .i64 k1,.string nm1,.int .i64 n1,.int .i64 d1,.slice ad args1.len cap,.int .i64 a1,.int .i64 fa] 111)=W2:=⟨_,rfl⟩
  have hb2:Below wr.heap.size wr W2:=by rw[←hW2];exact(Zg _ _).alloc (Zc _) _
  have bx2:W2.heap[wr.heap.size]?=some (.cells #[.string nm,.int .i64 k1,.string nm1,.int .i64 n1,.int .i64 d1,.slice ad args1.len cap,.int .i64 a1,.int .i64 fa] 111 (0,0)):=by rw[←hW2];exact Yp wr _
  have hs2:W2.heap.size=wr.heap.size+1:=by rw[←hW2];simp
  rw[hW2]
  clear hW2 y0 y1 y2 y3 y4 y5 y6 y7
  have HN2:=hid (HN.out.grow hb2)
  have g1:=(hb2.cell (p:=⟨bc,i*2,none⟩) hbcw).trans hk1
  have g2:=(hb2.cell (p:=⟨bc,i*2+1,none⟩) hbcw).trans hk2
  obtain⟨c0,cfz⟩:=cell0 bx2
  obtain⟨⟨x0,x1,x2,x3,x4,x5,x6,x7,x8⟩,xf⟩:=YL (show W2.heap[w.heap.size+1+1+1+1+1+1]?=_ from HN2.out.1.box)
  have HB2:=hid bx2
  have HG1:=hid g1
  have HG2:=hid g2
  clear hb2 bx2 hk1 hk2 g1 g2
  go_still_tail 7,kq
  change wpList _ _ _ _ _ W2.drew
  go_wp2_with (at_mapUpdate;refine Xe QH _ rfl _ _ _ rfl (w.heap.size+1+1+1) Lf nm (.int .i64 (i:Int)) rfl rfl rfl (show YG W2.drew _ _ from HN2.out.1.f) ?_;intro arr clock hm2)
  obtain⟨W3,hW3⟩:∃W3,World.putM W2.drew (w.heap.size+1+1+1) (.map arr clock)=W3:=⟨_,rfl⟩
  have hu3:Upon (w.heap.size+1+1+1) W2 W3:=by rw[←hW3];exact YF ((Upon.refl _ _).drew) _
  have hd:Below W2.heap.size W2 W2.drew:=(Zg _ _).drew
  have hN3:GQ w p an ai (some ⟨bb,oo,none⟩) ao cn ci cf co W3 Lc2 Li (Jc nm (.int .i64 (i:Int)) Lf) []:=by
   rw[←hW3]
   exact⟨(HN2.out.1.grow hd).putF hm2,by have:=(hu3.block _ (Zb HN2.out.2) oq).trans HN2.out.2;rw[←hW3] at this;exact this⟩
  have bx3:W3.heap[wr.heap.size]?=_:=(hu3.block _ oq oq).trans HB2.out
  have g1:W3.cell? ⟨bc,i*2,none⟩=_:=(Zn (a:=⟨bc,i*2,none⟩) (hu3.block bc oq oq)).trans HG1.out
  have g2:W3.cell? ⟨bc,i*2+1,none⟩=_:=(Zn (a:=⟨bc,i*2+1,none⟩) (hu3.block bc oq oq)).trans HG2.out
  rw[hW3]
  clear hW3 hm2 c0 cfz x0 x1 x2 x3 x4 x5 x6 x7 x8 xf
  have HN3:=hid hN3
  obtain⟨c0,cfz⟩:=cell0 bx3
  obtain⟨⟨x0,x1,x2,x3,x4,x5,x6,x7,x8⟩,xf⟩:=YL (show W3.heap[w.heap.size+1+1+1+1+1+1]?=_ from hN3.1.box)
  clear hN3 hu3 hd bx3
  go_still_tail 10,kq
  change wpList _ _ _ _ _ W3.drew
  go_wp2_with (at_mapUpdate;refine Xe Qu _ rfl _ _ _ rfl (w.heap.size+1) Lc2 nm (cvv (per,ph)) rfl rfl rfl (show YG W3.drew _ _ from HN3.out.1.c) ?_;intro arr4 clock4 hm4)
  refine⟨⟨i+1,upd env nm (per,ph),VO e nm i,_,_,by go_num,oq,⟨(HN3.out.1.grow (Zg _ _).drew).putC hm4,?_⟩,HE.out.put nm (per,ph),HI.out.put nm i,HEN.out,HIE.out⟩,by simp[intOf];omega⟩
  exact((YF ((Upon.refl _ W3).drew) (.map arr4 clock4)).block _ (Zb HN3.out.2) oq).trans HN3.out.2
 have hie0:i=p.flows.length:=oq
 subst hie0
 have hil:¬(p.flows.length:Int)<(p.flows.length:Int):=oq
 rw[Yo] at hen hie
 have HE1:=hid (show Xy Lc2 (U8 env' p.flows (YX p.ins)) from(show env=_ from hen)▸HE.out)
 have HF1:=hid (show Xh Lf (inI (p.flows.map (·.nm)) 0 (fun _=>none)) from(show e=_ from hie)▸HI.out)
 clear hen hie HE HI hlow
 obtain⟨⟨q0,q1,q2,q3⟩,qf⟩:=Yq HN.out.2
 go_wp2
 obtain⟨w1,rfl⟩:∃w1:World,w1=wr:=⟨_,rfl⟩
 clear q0 q1 q2 q3 qf hszr hplt hmlt
 go_loopw [73] (fun v wr=>Hid (Nw3 w p an ai af ao cn ci cf co Lc2 Li Lf v wr)) (fun i _=>p.nodes.length-(intOf i).toNat)
 case atStart=>exact⟨0,fun _=>none,[],rfl,Zk _,HN.out,Xh.nil,rfl⟩
 clear HN
 obtain⟨i,e,Ln,rfl,hi3,hN,hI,hie⟩:=hrel.out
 clear hrel
 have HN:=hid hN
 have HI:=hid hI
 have hlow:=hN.1.low
 have hszr:=hlow.size
 have hplt:=Zb hN.2
 have hmlt:=hN.1.lt
 clear hN hI
 by_cases hlt:i<p.nodes.length
 ·have hilt:(i:Int)<(p.nodes.length:Int):=oq
  obtain⟨bb,oo,rfl,hbb0,hin0⟩:=HP.out.nodes.at hlt
  have hin:=JI w wr bb _ _ hlow hbb0 hin0
  rw[jS hlt] at hie
  obtain⟨x,hx⟩:∃x,p.nodes[i]=x:=⟨_,rfl⟩
  rw[hx] at hin hie
  obtain⟨nm,ps,bud,⟨k1,nm1,n1,d1,args1,a1⟩,fa⟩:=x
  obtain⟨pa,pc,ad,cap,y0,y1,y2,y3,y4,y5,y6,y7,y8,y9,hae,hps,hfn⟩:=hin.cells
  have HIE:=hid (show inI ((p.nodes.drop (i+1)).map (·.nm)) (i+1) (VO e nm i)=inI (p.nodes.map (·.nm)) 0 (fun _=>none) from hie)
  have hbb:bb<wr.heap.size:=oq
  clear hin0 hie hlow hin hae hfn hps
  go_wp2
  obtain⟨W2,hW2⟩:∃W2,wr.alloc (.cells #[.string nm,.slice pa ps.length pc,.int .i64 bud,.int .i64 k1,.string nm1,.int .i64 n1,.int .i64 d1,.slice ad args1.len cap,.int .i64 a1,.int .i64 fa] 90)=W2:=⟨_,rfl⟩
  have hb2:Below wr.heap.size wr W2:=by rw[←hW2];exact(Zg _ _).alloc (Zc _) _
  have bx2:W2.heap[wr.heap.size]?=some (.cells #[.string nm,.slice pa ps.length pc,.int .i64 bud,.int .i64 k1,.string nm1,.int .i64 n1,.int .i64 d1,.slice ad args1.len cap,.int .i64 a1,.int .i64 fa] 90 (0,0)):=by rw[←hW2];exact Yp wr _
  have hs2:W2.heap.size=wr.heap.size+1:=by rw[←hW2];simp
  rw[hW2]
  clear hW2 y0 y1 y2 y3 y4 y5 y6 y7 y8 y9
  have HN2:=hid (HN.out.grow hb2)
  obtain⟨c0,cfz⟩:=cell0 bx2
  obtain⟨⟨x0,x1,x2,x3,x4,x5,x6,x7,x8⟩,xf⟩:=YL (show W2.heap[w.heap.size+1+1+1+1+1+1]?=_ from HN2.out.1.box)
  clear hb2 bx2
  go_still_tail 7,kq
  change wpList _ _ _ _ _ W2.drew
  go_wp2_with (at_mapUpdate;refine Xe QH _ rfl _ _ _ rfl (w.heap.size+1+1+1+1) Ln nm (.int .i64 (i:Int)) rfl rfl rfl (show YG W2.drew _ _ from HN2.out.1.nd) ?_;intro arr clock hm2)
  refine⟨⟨i+1,VO e nm i,_,by go_num,oq,⟨(HN2.out.1.grow (Zg _ _).drew).putN hm2,?_⟩,HI.out.put nm i,HIE.out⟩,by simp[intOf];omega⟩
  exact((YF ((Upon.refl _ W2).drew) (.map arr clock)).block _ (Zb HN2.out.2) oq).trans HN2.out.2
 have hie0:i=p.nodes.length:=oq
 subst hie0
 have hil:¬(p.nodes.length:Int)<(p.nodes.length:Int):=oq
 rw[Yo] at hie
 have HN1:=hid (show Xh Ln (inI (p.nodes.map (·.nm)) 0 (fun _=>none)) from(show e=_ from hie)▸HI.out)
 clear hie HI hlow
 go_wp2
 go_ret
 exact⟨_,_,_,_,_,_,_,_,_,_,rfl,HN.out.1,HE1.out,HI1.out,HF1.out,HN1.out⟩
end Go.Proofs.YtgigilkpndhddaaGreatDoor.syn
