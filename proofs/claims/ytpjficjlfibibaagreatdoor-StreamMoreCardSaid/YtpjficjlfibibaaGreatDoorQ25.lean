/-
  Parts of the proof: Flt8, Rnd.
-/
import Derived.Test.YtpjficjlfibibaaGreatDoorQ24
import Derived.OrdersIn
import Derived.StillTailTactics
namespace Go.Proofs.YtpjficjlfibibaaGreatDoor.syn
open Go.RowKit Go.Shelf
set_option linter.unusedVariables false
set_option linter.unusedSimpArgs false
def mkObj (p:PG) (an ai af ao:Option Addr) (cn ci cf co:Nat) (mc mi mf mn mx:Nat):Obj :=
 .cells #[.slice an p.nodes.length cn,.slice ai p.ins.length ci,.slice af p.flows.length cf,.slice ao p.outs.length co,.map (some mc),.map (some mi),.map (some mf),.map (some mn),.map (some mx)] 187 (0,0)
def S6 (m bx mc:Nat) (nm:ByteArray) (per ph fa:Int) (w':World):Prop :=
 w'.cell? ⟨m,4,none⟩ = some (.map (some mc)) ∧ w'.cell? ⟨bx,0,none⟩ = some (.string nm) ∧ w'.cell? ⟨bx,1,none⟩ = some (.int .i64 per) ∧ w'.cell? ⟨bx,2,none⟩ = some (.int .i64 ph) ∧ w'.cell? ⟨bx,3,none⟩ = some (.int .i64 fa)
def NwAns (w:World) (p:PG) (an ai af ao:Option Addr) (cn ci cf co:Nat) (env':Env) (x:Ending) (w':World):Prop :=
 ∃ m mc mi mf mn mx Lc Li Lf Ln,x = .returned (.pointer (some ⟨m,0,none⟩)) ∧ MkS w w.heap.size (mkObj p an ai af ao cn ci cf co mc mi mf mn mx) mc mi mf mn mx m w' Lc Li Lf Ln ∧
  EnvIs Lc (flEnv env' p.flows (env0 p.ins)) ∧ IxIs Li (inI (p.ins.map (·.nm)) 0 (fun _ => none)) ∧ IxIs Lf (inI (p.flows.map (·.nm)) 0 (fun _ => none)) ∧ IxIs Ln (inI (p.nodes.map (·.nm)) 0 (fun _ => none))
def NwAt (w:World) (p:PG) (an ai af ao:Option Addr) (cn ci cf co:Nat) (W:World) (Lc Li Lf Ln:List (ByteArray × Value)):Prop :=
 MkS w w.heap.size (mkObj p an ai af ao cn ci cf co (w.heap.size + 1) (w.heap.size + 1 + 1) (w.heap.size + 1 + 1 + 1) (w.heap.size + 1 + 1 + 1 + 1) (w.heap.size + 1 + 1 + 1 + 1 + 1)) (w.heap.size + 1) (w.heap.size + 1 + 1) (w.heap.size + 1 + 1 + 1) (w.heap.size + 1 + 1 + 1 + 1) (w.heap.size + 1 + 1 + 1 + 1 + 1) (w.heap.size + 1 + 1 + 1 + 1 + 1 + 1) W Lc Li Lf Ln ∧
  W.heap[w.heap.size]? = some (.cells #[.slice an p.nodes.length cn,.slice ai p.ins.length ci,.slice af p.flows.length cf,.slice ao p.outs.length co] 27 (0,0))
def Nw1 (w:World) (p:PG) (an ai af ao:Option Addr) (cn ci cf co:Nat) (v:Value) (wr:World):Prop :=
 ∃ (i:Nat) (env:Env) (e:IE) (Lc Li:List (ByteArray × Value)),v = .int .i64 (i:Int) ∧ i ≤ p.ins.length ∧ NwAt w p an ai af ao cn ci cf co wr Lc Li [] [] ∧ EnvIs Lc env ∧ IxIs Li e ∧ inEnv (p.ins.drop i) env = env0 p.ins ∧ inI ((p.ins.drop i).map (·.nm)) i e = inI (p.ins.map (·.nm)) 0 (fun _ => none)
def Nw2 (w:World) (p:PG) (an ai af ao:Option Addr) (cn ci cf co:Nat) (env':Env) (Li:List (ByteArray × Value)) (v:Value) (wr:World):Prop :=
 ∃ (i:Nat) (env:Env) (e:IE) (Lc Lf:List (ByteArray × Value)),v = .int .i64 (i:Int) ∧ i ≤ p.flows.length ∧ NwAt w p an ai af ao cn ci cf co wr Lc Li Lf [] ∧ EnvIs Lc env ∧ IxIs Lf e ∧ flEnv env' (p.flows.drop i) env = flEnv env' p.flows (env0 p.ins) ∧ inI ((p.flows.drop i).map (·.nm)) i e = inI (p.flows.map (·.nm)) 0 (fun _ => none)
def Nw3 (w:World) (p:PG) (an ai af ao:Option Addr) (cn ci cf co:Nat) (Lc Li Lf:List (ByteArray × Value)) (v:Value) (wr:World):Prop :=
 ∃ (i:Nat) (e:IE) (Ln:List (ByteArray × Value)),v = .int .i64 (i:Int) ∧ i ≤ p.nodes.length ∧ NwAt w p an ai af ao cn ci cf co wr Lc Li Lf Ln ∧ IxIs Ln e ∧ inI ((p.nodes.drop i).map (·.nm)) i e = inI (p.nodes.map (·.nm)) 0 (fun _ => none)
theorem cell0 {w:World} {b:Nat} {v:Value} {vs:List Value} {t:TypeId} (h:w.heap[b]? = some (.cells (v :: vs).toArray t (0,0))):w.cell? ⟨b,0,none⟩ = some v ∧ ∀ o,w.frozen? ⟨b,o,none⟩ = false:=by
 refine ⟨by simp [World.cell?,h],fun o => by simp [World.frozen?,h]⟩
theorem NwAt.grow {w:World} {p:PG} {an ai af ao:Option Addr} {cn ci cf co:Nat} {W W':World} {Lc Li Lf Ln:List (ByteArray × Value)} (h:NwAt w p an ai af ao cn ci cf co W Lc Li Lf Ln) (hb:Below W.heap.size W W'):NwAt w p an ai af ao cn ci cf co W' Lc Li Lf Ln :=
 ⟨h.1.grow hb,(hb.block _ (lt_of_block h.2)).trans h.2⟩
theorem nw_start (w:World) (p:PG) (an ai af ao:Option Addr) (cn ci cf co:Nat):NwAt w p an ai af ao cn ci cf co (((((((w.alloc (.cells #[.slice an p.nodes.length cn,.slice ai p.ins.length ci,.slice af p.flows.length cf,.slice ao p.outs.length co] 27)).alloc (.map #[] 0)).alloc (.map #[] 0)).alloc (.map #[] 0)).alloc (.map #[] 0)).alloc (.map #[] 0)).alloc
  (mkObj p an ai af ao cn ci cf co (w.heap.size + 1) (w.heap.size + 1 + 1) (w.heap.size + 1 + 1 + 1) (w.heap.size + 1 + 1 + 1 + 1) (w.heap.size + 1 + 1 + 1 + 1 + 1))) [] [] [] []:=by
 obtain ⟨A,hA⟩:∃ A,w.alloc (.cells #[.slice an p.nodes.length cn,.slice ai p.ins.length ci,.slice af p.flows.length cf,.slice ao p.outs.length co] 27) = A:=⟨_,rfl⟩
 have hAs:A.heap.size = w.heap.size + 1:=by rw [← hA];simp
 have hAb:Below w.heap.size w A:=by rw [← hA];exact bq
 have hAc:A.heap[w.heap.size]? = some (.cells #[.slice an p.nodes.length cn,.slice ai p.ins.length ci,.slice af p.flows.length cf,.slice ao p.outs.length co] 27 (0,0)):=by rw [← hA];exact heap_new w _
 rw [hA]
 clear hA
 unfold NwAt
 generalize mkObj p an ai af ao cn ci cf co (w.heap.size + 1) (w.heap.size + 1 + 1) (w.heap.size + 1 + 1 + 1) (w.heap.size + 1 + 1 + 1 + 1) (w.heap.size + 1 + 1 + 1 + 1 + 1) = mo
 rw [← hAs]
 have m1:=MapS.new A
 have m2:=MapS.new (A.alloc (.map #[] 0))
 have m3:=MapS.new ((A.alloc (.map #[] 0)).alloc (.map #[] 0))
 have m4:=MapS.new (((A.alloc (.map #[] 0)).alloc (.map #[] 0)).alloc (.map #[] 0))
 have m5:=MapS.new ((((A.alloc (.map #[] 0)).alloc (.map #[] 0)).alloc (.map #[] 0)).alloc (.map #[] 0))
 have m6:=heap_new (((((A.alloc (.map #[] 0)).alloc (.map #[] 0)).alloc (.map #[] 0)).alloc (.map #[] 0)).alloc (.map #[] 0)) mo
 simp only [World.size_alloc] at m1 m2 m3 m4 m5 m6
 have up:∀ (X:World) (o:Obj),Below X.heap.size X (X.alloc o):=fun X o => (Below.refl _ _).alloc (Nat.le_refl _) _
 refine ⟨⟨?_,by omega,m6,?_,?_,?_,?_,m5.below (up _ _)⟩,?_⟩
 ·exact hAb.trans (((((((Below.refl _ A).alloc oq _).alloc (by simp;omega) _).alloc (by simp;omega) _).alloc (by simp;omega) _).alloc (by simp;omega) _).alloc (by simp;omega) _)
 ·exact ((((m1.below (up _ _)).below (up _ _)).below (up _ _)).below (up _ _)).below (up _ _)
 ·exact (((m2.below (up _ _)).below (up _ _)).below (up _ _)).below (up _ _)
 ·exact ((m3.below (up _ _)).below (up _ _)).below (up _ _)
 ·exact (m4.below (up _ _)).below (up _ _)
 ·exact ((((((Below.refl _ A).alloc (Nat.le_refl _) _).alloc (by simp only [World.size_alloc];omega) _).alloc (by simp only [World.size_alloc];omega) _).alloc (by simp only [World.size_alloc];omega) _).alloc (by simp only [World.size_alloc];omega) _ |>.alloc (by simp only [World.size_alloc];omega) _).block _ oq |>.trans hAc
set_option maxRecDepth 100000 in
set_option maxHeartbeats 4000000 in
theorem newMaker_any {w:World} (p:PG) (an ai af ao:Option Addr) (cn ci cf co:Nat) (hp:AP w p an ai af ao cn ci cf co) (hok:PgOK p) (env':Env) (bc:Nat) (hbc:bc < w.heap.size) (l:List (Int × Int)) (hl:p.flows.map (fun f => clkAt env' f.nm) = l) (hc:CkAt w bc l) :
  Calls Tryz.prog 50 #[pv p an ai af ao cn ci cf co,.slice (some ⟨bc,0,none⟩) l.length l.length] w (NwAns w p an ai af ao cn ci cf co env'):=by
 have hll:=hok.lens
 have HP:=hid hp
 have HC:=hid hc
 have HL:=hid hl
 have hcap:=hp.caps
 have hlf:l.length = p.flows.length:=by rw [← hl,List.length_map]
 have hmk1:=fun w => run_makeMap (P:=Tryz.prog) 114 w
 have hmk2:=fun w => run_makeMap (P:=Tryz.prog) 184 w
 have hmk3:=fun w => run_makeMap (P:=Tryz.prog) 185 w
 clear hp hok hc hl
 unfold pv
 rw [hlf]
 have HLF:=hid hlf
 clear hlf
 go_enter Tryz.func50,Tryz.ntmps50
 go_wp2
 have hN0:=nw_start w p an ai af ao cn ci cf co
 unfold mkObj at hN0
 obtain ⟨W1,hW1⟩:∃ W1,(((((((w.alloc (.cells #[.slice an p.nodes.length cn,.slice ai p.ins.length ci,.slice af p.flows.length cf,.slice ao p.outs.length co] 27)).alloc (.map #[] 0)).alloc (.map #[] 0)).alloc (.map #[] 0)).alloc (.map #[] 0)).alloc (.map #[] 0)).alloc
  (.cells #[.slice an p.nodes.length cn,.slice ai p.ins.length ci,.slice af p.flows.length cf,.slice ao p.outs.length co,.map (some (w.heap.size + 1)),.map (some (w.heap.size + 1 + 1)),.map (some (w.heap.size + 1 + 1 + 1)),.map (some (w.heap.size + 1 + 1 + 1 + 1)),.map (some (w.heap.size + 1 + 1 + 1 + 1 + 1))] 187)) = W1:=⟨_,rfl⟩
 rw [hW1] at hN0
 try rw [hW1]
 have HN0:=hid (show NwAt w p an ai af ao cn ci cf co W1 [] [] [] [] from hN0)
 clear hN0 hW1 hmk1 hmk2 hmk3
 go_loopw [23] (fun v wr => Hid (Nw1 w p an ai af ao cn ci cf co v wr)) (fun i _ => p.ins.length - (intOf i).toNat)
 case atStart => exact ⟨0,fun _ => none,fun _ => none,[],[],rfl,Nat.zero_le _,HN0.out,envNil,IxIs.nil,rfl,rfl⟩
 case round =>
  obtain ⟨i,env,e,Lc,Li,rfl,hi,hN,hE,hI,hen,hie⟩:=hrel.out
  clear hrel HN0
  have HN:=hid hN
  have HE:=hid hE
  have HI:=hid hI
  have hlow:=hN.1.low
  have hszr:=hlow.size
  have hplt:=lt_of_block hN.2
  have hmlt:=hN.1.lt
  clear hN hE hI
  by_cases hlt:i < p.ins.length
  ·obtain ⟨bb,oo,rfl,hbb0,hin0⟩:=HP.out.ins.at hlt
   have hin:=hin0.later hlow hbb0
   rw [drop_in hlt] at hen hie
   obtain ⟨f,hf⟩:∃ f,p.ins[i] = f:=⟨_,rfl⟩
   rw [hf] at hin hen hie
   obtain ⟨nm,per,ph,fa⟩:=f
   obtain ⟨y0,y1,y2,y3,_⟩:=hin
   simp only at y0 y1 y2 y3
   have HEN:=hid (show inEnv (p.ins.drop (i + 1)) (upd env nm (per,ph)) = env0 p.ins from hen)
   have HIE:=hid (show inI ((p.ins.drop (i + 1)).map (·.nm)) (i + 1) (updI e nm i) = inI (p.ins.map (·.nm)) 0 (fun _ => none) from hie)
   have hil:(i:Int) < (p.ins.length:Int):=by omega
   have hbb:bb < wr.heap.size:=by omega
   clear hin0 hen hie hlow
   go_wp2
   obtain ⟨W2,hW2⟩:∃ W2,wr.alloc (.cells #[.string nm,.int .i64 per,.int .i64 ph,.int .i64 fa] 106) = W2:=⟨_,rfl⟩
   have hb2:Below wr.heap.size wr W2:=by rw [← hW2];exact (Below.refl _ _).alloc (Nat.le_refl _) _
   have bx2:W2.heap[wr.heap.size]? = some (.cells #[.string nm,.int .i64 per,.int .i64 ph,.int .i64 fa] 106 (0,0)):=by rw [← hW2];exact heap_new wr _
   have hs2:W2.heap.size = wr.heap.size + 1:=by rw [← hW2];simp
   rw [hW2]
   clear hW2 y0 y1 y2 y3
   have HN2:=hid (HN.out.grow hb2)
   obtain ⟨⟨c0,c1,c2,c3⟩,cfz⟩:=cells4 bx2
   obtain ⟨⟨x0,x1,x2,x3,x4,x5,x6,x7,x8⟩,xf⟩:=cells9m (show W2.heap[w.heap.size + 1 + 1 + 1 + 1 + 1 + 1]? = _ from HN2.out.1.box)
   have HB2:=hid bx2
   clear hb2 bx2
   go_still_tail 7,(by kernel_rfl)
   change wpList _ _ _ _ _ W2.drew
   go_wp2_with (at_mapUpdate;refine wpList_putS fintsMap _ rfl _ _ _ rfl (w.heap.size + 1 + 1) Li nm (.int .i64 (i:Int)) rfl rfl rfl (show MapS W2.drew _ _ from HN2.out.1.i) ?_;intro arr clock hm2)
   obtain ⟨W3,hW3⟩:∃ W3,World.putM W2.drew (w.heap.size + 1 + 1) (.map arr clock) = W3:=⟨_,rfl⟩
   have hu3:Upon (w.heap.size + 1 + 1) W2 W3:=by rw [← hW3];exact upon_putM ((Upon.refl _ _).drew) _
   have hd:Below W2.heap.size W2 W2.drew:=(Below.refl _ _).drew
   have hN3:NwAt w p an (some ⟨bb,oo,none⟩) af ao cn ci cf co W3 Lc (putS nm (.int .i64 (i:Int)) Li) [] []:=by
    rw [← hW3]
    exact ⟨(HN2.out.1.grow hd).putI hm2,by have:=(hu3.block _ (lt_of_block HN2.out.2) oq).trans HN2.out.2;rw [← hW3] at this;exact this⟩
   have bx3:W3.heap[wr.heap.size]? = _:=(hu3.block _ oq oq).trans HB2.out
   rw [hW3]
   clear hW3 hm2 c0 c1 c2 c3 cfz x0 x1 x2 x3 x4 x5 x6 x7 x8 xf
   have HN3:=hid hN3
   have hlt3:=lt_of_block bx3
   have hmt3:=hN3.1.lt
   obtain ⟨⟨c0,c1,c2,c3⟩,cfz⟩:=cells4 bx3
   obtain ⟨⟨x0,x1,x2,x3,x4,x5,x6,x7,x8⟩,xf⟩:=cells9m (show W3.heap[w.heap.size + 1 + 1 + 1 + 1 + 1 + 1]? = _ from hN3.1.box)
   have KA:=hid (show S6 (w.heap.size + 1 + 1 + 1 + 1 + 1 + 1) wr.heap.size (w.heap.size + 1) nm per ph fa W3.drew from ⟨x4,c0,c1,c2,c3⟩)
   have KB:=hid (show ∀ w4,Below W3.drew.heap.size W3.drew w4 → S6 (w.heap.size + 1 + 1 + 1 + 1 + 1 + 1) wr.heap.size (w.heap.size + 1) nm per ph fa w4 from fun w4 hb => ⟨(hb.cell (p:=⟨_,4,none⟩) hmt3).trans x4,(hb.cell (p:=⟨_,0,none⟩) hlt3).trans c0,(hb.cell (p:=⟨_,1,none⟩) hlt3).trans c1,(hb.cell (p:=⟨_,2,none⟩) hlt3).trans c2,(hb.cell (p:=⟨_,3,none⟩) hlt3).trans c3⟩)
   have KP:=hid (show ∀ w4,Below W3.drew.heap.size W3.drew w4 → ∀ o,S6 (w.heap.size + 1 + 1 + 1 + 1 + 1 + 1) wr.heap.size (w.heap.size + 1) nm per ph fa (World.putM w4 (w.heap.size + 1) o) from fun w4 hb o => by
    have hf:∀ (b o':Nat),b ≠ w.heap.size + 1 → (World.putM w4 (w.heap.size + 1) o).cell? ⟨b,o',none⟩ = w4.cell? ⟨b,o',none⟩:=fun b o' hne => by
     refine World.cell?_of_block ?_
     show (w4.heap.setIfInBounds (w.heap.size + 1) o)[b]? = w4.heap[b]?
     rw [Array.getElem?_setIfInBounds_ne (fun e => hne e.symm)]
    obtain ⟨h0,h1,h2,h3,h4⟩:=KB.out w4 hb
    exact ⟨(hf _ _ oq).trans h0,(hf _ _ oq).trans h1,(hf _ _ oq).trans h2,(hf _ _ oq).trans h3,(hf _ _ oq).trans h4⟩)
   have HIC:=hid (inputClock_any (w:=W3.drew) nm per ph fa)
   clear hN3 hu3 hd bx3 x0 x1 x2 x3 x4 x5 x6 x7 x8 xf c0 c1 c2 c3 cfz
   go_region_held3 (fun w' => w'.cell? ⟨w.heap.size + 1 + 1 + 1 + 1 + 1 + 1,4,none⟩ = some (.map (some (w.heap.size + 1))) ∧ w'.cell? ⟨wr.heap.size,0,none⟩ = some (.string nm) ∧ w'.cell? ⟨wr.heap.size,1,none⟩ = some (.int .i64 per) ∧ w'.cell? ⟨wr.heap.size,2,none⟩ = some (.int .i64 ph) ∧ w'.cell? ⟨wr.heap.size,3,none⟩ = some (.int .i64 fa)) ((show S6 (w.heap.size + 1 + 1 + 1 + 1 + 1 + 1) wr.heap.size (w.heap.size + 1) nm per ph fa _;first | with_reducible exact KA.out | (with_reducible exact KB.out _ hb4) | (with_reducible exact KP.out _ hb4 _))) (first | (go_at_call 96;refine HIC.out.mono ?_;rintro x w4 ⟨rfl,hb4⟩;obtain ⟨arr4,clock4,hrun4,hm4⟩:=map_putS fclocksMap (HN3.out.1.c.below (show Below W3.heap.size W3 w4 from (Below.refl _ _).drew.trans hb4)) nm (.agg #[.int .i64 per,.int .i64 ph])))
   go_wp2
   refine ⟨⟨i + 1,upd env nm (per,ph),updI e nm i,_,_,by go_num,by omega,⟨(HN3.out.1.grow ((Below.refl _ _).drew.trans hb4)).putC hm4,?_⟩,HE.out.put nm (per,ph),HI.out.put nm i,HEN.out,HIE.out⟩,by simp [intOf];omega⟩
   have hb:Below W3.heap.size W3 w4:=(Below.refl _ _).drew.trans hb4
   exact ((upon_putM (Upon.refl _ w4) (.map arr4 clock4)).block _ (lt_of_block ((hb.block _ (lt_of_block HN3.out.2)).trans HN3.out.2)) oq).trans ((hb.block _ (lt_of_block HN3.out.2)).trans HN3.out.2)
  ·have hie0:i = p.ins.length:=by omega
   subst hie0
   have hil:¬ (p.ins.length:Int) < (p.ins.length:Int):=by omega
   rw [List.drop_length] at hen hie
   have HE1:=hid (show EnvIs Lc (env0 p.ins) from (show env = env0 p.ins from hen) ▸ HE.out)
   have HI1:=hid (show IxIs Li (inI (p.ins.map (·.nm)) 0 (fun _ => none)) from (show e = _ from hie) ▸ HI.out)
   clear hen hie HE HI hlow
   obtain ⟨⟨q0,q1,q2,q3⟩,qf⟩:=cells4 HN.out.2
   go_wp2
   obtain ⟨w0,rfl⟩:∃ w0:World,w0 = wr:=⟨_,rfl⟩
   clear q0 q1 q2 q3 qf hszr hplt hmlt
   go_loopw [47] (fun v wr => Hid (Nw2 w p an ai af ao cn ci cf co env' Li v wr)) (fun i _ => p.flows.length - (intOf i).toNat)
   case atStart => exact ⟨0,_,fun _ => none,_,[],rfl,Nat.zero_le _,HN.out,HE1.out,IxIs.nil,rfl,rfl⟩
   case round =>
    clear HN HE1
    obtain ⟨i,env,e,Lc2,Lf,rfl,hi2,hN,hE,hI,hen,hie⟩:=hrel.out
    clear hrel
    have HN:=hid hN
    have HE:=hid hE
    have HI:=hid hI
    have hlow:=hN.1.low
    have hszr:=hlow.size
    have hplt:=lt_of_block hN.2
    have hmlt:=hN.1.lt
    clear hN hE hI
    by_cases hlt:i < p.flows.length
    ·have hilt:(i:Int) < (p.flows.length:Int):=by omega
     obtain ⟨hk1,hk2⟩:=HC.out i (by rw [HLF.out];exact hlt)
     have hli:l[i]'(by rw [HLF.out];exact hlt) = clkAt env' p.flows[i].nm:=by
      have:=HL.out
      subst this
      rw [List.getElem_map]
     rw [hli] at hk1 hk2
     have hk1:=(hlow.cell (p:=⟨bc,i * 2,none⟩) hbc).trans hk1
     have hk2:=(hlow.cell (p:=⟨bc,i * 2 + 1,none⟩) hbc).trans hk2
     clear hli
     obtain ⟨bb,oo,rfl,hbb0,hin0⟩:=HP.out.flows.at hlt
     have hin:=flSta w wr bb _ _ hlow hbb0 hin0
     rw [drop_fl hlt] at hen hie
     obtain ⟨f,hf⟩:∃ f,p.flows[i] = f:=⟨_,rfl⟩
     rw [hf] at hin hen hie hk1 hk2
     obtain ⟨nm,⟨k1,nm1,n1,d1,args1,a1⟩,fa⟩:=f
     obtain ⟨ad,cap,y0,y1,y2,y3,y4,y5,y6,y7,hae,hfn⟩:=hin.cells
     obtain ⟨⟨per,ph⟩,hpp⟩:∃ c,clkAt env' nm = c:=⟨_,rfl⟩
     simp only [hpp] at hk1 hk2 y0 y1 y2 y3 y4 y5 y6 y7
     have HEN:=hid (show flEnv env' (p.flows.drop (i + 1)) (upd env nm (per,ph)) = flEnv env' p.flows (env0 p.ins) by rw [← hpp];exact hen)
     have HIE:=hid (show inI ((p.flows.drop (i + 1)).map (·.nm)) (i + 1) (updI e nm i) = inI (p.flows.map (·.nm)) 0 (fun _ => none) from hie)
     have hbb:bb < wr.heap.size:=by omega
     have hbcw:bc < wr.heap.size:=by omega
     clear hin0 hen hie hlow hin hae hfn
     go_wp2
     obtain ⟨W2,hW2⟩:∃ W2,wr.alloc (.cells #[.string nm,.int .i64 k1,.string nm1,.int .i64 n1,.int .i64 d1,.slice ad args1.len cap,.int .i64 a1,.int .i64 fa] 108) = W2:=⟨_,rfl⟩
     have hb2:Below wr.heap.size wr W2:=by rw [← hW2];exact (Below.refl _ _).alloc (Nat.le_refl _) _
     have bx2:W2.heap[wr.heap.size]? = some (.cells #[.string nm,.int .i64 k1,.string nm1,.int .i64 n1,.int .i64 d1,.slice ad args1.len cap,.int .i64 a1,.int .i64 fa] 108 (0,0)):=by rw [← hW2];exact heap_new wr _
     have hs2:W2.heap.size = wr.heap.size + 1:=by rw [← hW2];simp
     rw [hW2]
     clear hW2 y0 y1 y2 y3 y4 y5 y6 y7
     have HN2:=hid (HN.out.grow hb2)
     have g1:=(hb2.cell (p:=⟨bc,i * 2,none⟩) hbcw).trans hk1
     have g2:=(hb2.cell (p:=⟨bc,i * 2 + 1,none⟩) hbcw).trans hk2
     obtain ⟨c0,cfz⟩:=cell0 bx2
     obtain ⟨⟨x0,x1,x2,x3,x4,x5,x6,x7,x8⟩,xf⟩:=cells9m (show W2.heap[w.heap.size + 1 + 1 + 1 + 1 + 1 + 1]? = _ from HN2.out.1.box)
     have HB2:=hid bx2
     have HG1:=hid g1
     have HG2:=hid g2
     clear hb2 bx2 hk1 hk2 g1 g2
     go_still_tail 7,(by kernel_rfl)
     change wpList _ _ _ _ _ W2.drew
     go_wp2_with (at_mapUpdate;refine wpList_putS fintsMap _ rfl _ _ _ rfl (w.heap.size + 1 + 1 + 1) Lf nm (.int .i64 (i:Int)) rfl rfl rfl (show MapS W2.drew _ _ from HN2.out.1.f) ?_;intro arr clock hm2)
     obtain ⟨W3,hW3⟩:∃ W3,World.putM W2.drew (w.heap.size + 1 + 1 + 1) (.map arr clock) = W3:=⟨_,rfl⟩
     have hu3:Upon (w.heap.size + 1 + 1 + 1) W2 W3:=by rw [← hW3];exact upon_putM ((Upon.refl _ _).drew) _
     have hd:Below W2.heap.size W2 W2.drew:=(Below.refl _ _).drew
     have hN3:NwAt w p an ai (some ⟨bb,oo,none⟩) ao cn ci cf co W3 Lc2 Li (putS nm (.int .i64 (i:Int)) Lf) []:=by
      rw [← hW3]
      exact ⟨(HN2.out.1.grow hd).putF hm2,by have:=(hu3.block _ (lt_of_block HN2.out.2) oq).trans HN2.out.2;rw [← hW3] at this;exact this⟩
     have bx3:W3.heap[wr.heap.size]? = _:=(hu3.block _ oq oq).trans HB2.out
     have g1:W3.cell? ⟨bc,i * 2,none⟩ = _:=(World.cell?_of_block (a:=⟨bc,i * 2,none⟩) (hu3.block bc oq oq)).trans HG1.out
     have g2:W3.cell? ⟨bc,i * 2 + 1,none⟩ = _:=(World.cell?_of_block (a:=⟨bc,i * 2 + 1,none⟩) (hu3.block bc oq oq)).trans HG2.out
     rw [hW3]
     clear hW3 hm2 c0 cfz x0 x1 x2 x3 x4 x5 x6 x7 x8 xf
     have HN3:=hid hN3
     obtain ⟨c0,cfz⟩:=cell0 bx3
     obtain ⟨⟨x0,x1,x2,x3,x4,x5,x6,x7,x8⟩,xf⟩:=cells9m (show W3.heap[w.heap.size + 1 + 1 + 1 + 1 + 1 + 1]? = _ from hN3.1.box)
     clear hN3 hu3 hd bx3
     go_still_tail 10,(by kernel_rfl)
     change wpList _ _ _ _ _ W3.drew
     go_wp2_with (at_mapUpdate;refine wpList_putS fclocksMap _ rfl _ _ _ rfl (w.heap.size + 1) Lc2 nm (cvv (per,ph)) rfl rfl rfl (show MapS W3.drew _ _ from HN3.out.1.c) ?_;intro arr4 clock4 hm4)
     refine ⟨⟨i + 1,upd env nm (per,ph),updI e nm i,_,_,by go_num,by omega,⟨(HN3.out.1.grow (Below.refl _ _).drew).putC hm4,?_⟩,HE.out.put nm (per,ph),HI.out.put nm i,HEN.out,HIE.out⟩,by simp [intOf];omega⟩
     exact ((upon_putM ((Upon.refl _ W3).drew) (.map arr4 clock4)).block _ (lt_of_block HN3.out.2) oq).trans HN3.out.2
    ·have hie0:i = p.flows.length:=by omega
     subst hie0
     have hil:¬ (p.flows.length:Int) < (p.flows.length:Int):=by omega
     rw [List.drop_length] at hen hie
     have HE1:=hid (show EnvIs Lc2 (flEnv env' p.flows (env0 p.ins)) from (show env = _ from hen) ▸ HE.out)
     have HF1:=hid (show IxIs Lf (inI (p.flows.map (·.nm)) 0 (fun _ => none)) from (show e = _ from hie) ▸ HI.out)
     clear hen hie HE HI hlow
     obtain ⟨⟨q0,q1,q2,q3⟩,qf⟩:=cells4 HN.out.2
     go_wp2
     obtain ⟨w1,rfl⟩:∃ w1:World,w1 = wr:=⟨_,rfl⟩
     clear q0 q1 q2 q3 qf hszr hplt hmlt
     go_loopw [73] (fun v wr => Hid (Nw3 w p an ai af ao cn ci cf co Lc2 Li Lf v wr)) (fun i _ => p.nodes.length - (intOf i).toNat)
     case atStart => exact ⟨0,fun _ => none,[],rfl,Nat.zero_le _,HN.out,IxIs.nil,rfl⟩
     case round =>
      clear HN
      obtain ⟨i,e,Ln,rfl,hi3,hN,hI,hie⟩:=hrel.out
      clear hrel
      have HN:=hid hN
      have HI:=hid hI
      have hlow:=hN.1.low
      have hszr:=hlow.size
      have hplt:=lt_of_block hN.2
      have hmlt:=hN.1.lt
      clear hN hI
      by_cases hlt:i < p.nodes.length
      ·have hilt:(i:Int) < (p.nodes.length:Int):=by omega
       obtain ⟨bb,oo,rfl,hbb0,hin0⟩:=HP.out.nodes.at hlt
       have hin:=nodeSta w wr bb _ _ hlow hbb0 hin0
       rw [drop_nd hlt] at hie
       obtain ⟨x,hx⟩:∃ x,p.nodes[i] = x:=⟨_,rfl⟩
       rw [hx] at hin hie
       obtain ⟨nm,ps,bud,⟨k1,nm1,n1,d1,args1,a1⟩,fa⟩:=x
       obtain ⟨pa,pc,ad,cap,y0,y1,y2,y3,y4,y5,y6,y7,y8,y9,hae,hps,hfn⟩:=hin.cells
       have HIE:=hid (show inI ((p.nodes.drop (i + 1)).map (·.nm)) (i + 1) (updI e nm i) = inI (p.nodes.map (·.nm)) 0 (fun _ => none) from hie)
       have hbb:bb < wr.heap.size:=by omega
       clear hin0 hie hlow hin hae hfn hps
       go_wp2
       obtain ⟨W2,hW2⟩:∃ W2,wr.alloc (.cells #[.string nm,.slice pa ps.length pc,.int .i64 bud,.int .i64 k1,.string nm1,.int .i64 n1,.int .i64 d1,.slice ad args1.len cap,.int .i64 a1,.int .i64 fa] 97) = W2:=⟨_,rfl⟩
       have hb2:Below wr.heap.size wr W2:=by rw [← hW2];exact (Below.refl _ _).alloc (Nat.le_refl _) _
       have bx2:W2.heap[wr.heap.size]? = some (.cells #[.string nm,.slice pa ps.length pc,.int .i64 bud,.int .i64 k1,.string nm1,.int .i64 n1,.int .i64 d1,.slice ad args1.len cap,.int .i64 a1,.int .i64 fa] 97 (0,0)):=by rw [← hW2];exact heap_new wr _
       have hs2:W2.heap.size = wr.heap.size + 1:=by rw [← hW2];simp
       rw [hW2]
       clear hW2 y0 y1 y2 y3 y4 y5 y6 y7 y8 y9
       have HN2:=hid (HN.out.grow hb2)
       obtain ⟨c0,cfz⟩:=cell0 bx2
       obtain ⟨⟨x0,x1,x2,x3,x4,x5,x6,x7,x8⟩,xf⟩:=cells9m (show W2.heap[w.heap.size + 1 + 1 + 1 + 1 + 1 + 1]? = _ from HN2.out.1.box)
       clear hb2 bx2
       go_still_tail 7,(by kernel_rfl)
       change wpList _ _ _ _ _ W2.drew
       go_wp2_with (at_mapUpdate;refine wpList_putS fintsMap _ rfl _ _ _ rfl (w.heap.size + 1 + 1 + 1 + 1) Ln nm (.int .i64 (i:Int)) rfl rfl rfl (show MapS W2.drew _ _ from HN2.out.1.nd) ?_;intro arr clock hm2)
       refine ⟨⟨i + 1,updI e nm i,_,by go_num,by omega,⟨(HN2.out.1.grow (Below.refl _ _).drew).putN hm2,?_⟩,HI.out.put nm i,HIE.out⟩,by simp [intOf];omega⟩
       exact ((upon_putM ((Upon.refl _ W2).drew) (.map arr clock)).block _ (lt_of_block HN2.out.2) oq).trans HN2.out.2
      ·have hie0:i = p.nodes.length:=by omega
       subst hie0
       have hil:¬ (p.nodes.length:Int) < (p.nodes.length:Int):=by omega
       rw [List.drop_length] at hie
       have HN1:=hid (show IxIs Ln (inI (p.nodes.map (·.nm)) 0 (fun _ => none)) from (show e = _ from hie) ▸ HI.out)
       clear hie HI hlow
       go_wp2
       go_ret
       exact ⟨_,_,_,_,_,_,_,_,_,_,rfl,HN.out.1,HE1.out,HI1.out,HF1.out,HN1.out⟩
theorem wpIn_round {F:Fence} {n l:Nat} {P:Program} {o:Oper} {a:Act} {w:World} {K:Act → World → Prop} {Q:Exit → Act → World → Prop} (hro:F.round = none) (hd:∀ c,o.op ≠ .defer c) (h:o.wpIn F n P a w K Q):o.wpIn (F.inRound l) n P a w K Q:=by
 unfold Oper.wpIn at *
 rw [hro,Oper.semAt_none] at h
 rw [Oper.semAt_eq _ _ _ hd]
 refine ⟨h.1,?_⟩
 have h2:=h.2
 generalize (execOp a.eval o).run P w = r at *
 cases r with
 | ok x w' => cases x <;> exact h2
 | halt x w' => cases x <;> exact h2
theorem wpAnyIn_round {F:Fence} {n l:Nat} {P:Program} {md:Region.Mode} {ops:Array Oper} {Q:Exit → Act → World → Prop} (hro:F.round = none) (hd:∀ (i:Nat) (o:Oper),ops[i]? = some o → ∀ c,o.op ≠ .defer c) :
  ∀ (fuel:Nat) (listed:Array Bool) (a:Act) (w:World),wpAnyIn F n P md ops Q fuel listed a w → wpAnyIn (F.inRound l) n P md ops Q fuel listed a w:=by
 intro fuel
 induction fuel with
 | zero => intro listed a w h;exact h
 | succ fuel ih =>
  intro listed a w h
  refine ⟨h.1,fun i hi => ?_⟩
  have h1:=wpOpIn_mono (fun a' w' h' => ih (listed.setIfInBounds i true) a' w' h') (h.2 i hi)
  unfold wpOpIn at *
  cases ho:ops[i]? with
  | none => simp only [ho] at h1 ⊢;exact h1
  | some o =>
   simp only [ho] at h1 ⊢
   split
   ·rename_i hw
    simp only [hw,if_true] at h1
    exact wpIn_round hro (hd i o ho) h1
   ·rename_i hw
    simp only [hw] at h1
    exact h1
def noDefer (o:Oper):Bool:=match o.op with | .defer _ => false | _ => true
theorem region_round {n l id:Nat} {P:Program} {ops:Array Oper} {Q:Exit → Act → World → Prop} {a:Act} {w:World} (hm:P.follows .mixedOrders = true) (hd:ops.toList.all noDefer = true)
  (h:wpAnyIn Fence.wide n P .any ops Q ops.size (Array.replicate ops.size false) a { w with drawn:=w.drawn + 1 }):(Code.region id ops true).wpIn (Fence.wide.inRound l) n P Q a w:=by
 refine wpIn_region_any hm (wpAnyIn_round rfl (fun i o ho c e => ?_) _ _ _ _ h)
 have hmem:o ∈ ops.toList:=by
  have:=Array.mem_of_getElem? ho
  simpa using this
 have:=List.all_eq_true.1 hd o hmem
 unfold noDefer at this
 rw [e] at this
 cases this
theorem rowsIn_wide {n:Nat} {P:Program} {row:String} {args:Array Value} {w:World} {R:Value → World → Prop} (h:Rows P row args w R):RowsIn Fence.wide n P row args w R :=
 fun c cs _ => let ⟨v,w',r,s⟩:=h c cs;⟨v,w',r,stepsIn_wide.2 s⟩
theorem opIn_of_wp {n:Nat} {P:Program} {o:Oper} {a:Act} {w:World} {K:Act → World → Prop} {Q:Exit → Act → World → Prop} (h:o.wp P a w K Q):o.wpIn Fence.wide n P a w K Q:=by
 unfold Oper.wpIn Oper.wp at *
 refine ⟨fun _ _ => trivial,?_⟩
 rw [show (Fence.wide).round = none from rfl,Oper.semAt_none]
 generalize (execOp a.eval o).run P w = r at *
 cases r with
 | ok x w' =>
  cases x <;> first | exact h | exact ⟨(fun k => nomatch k),callsIn_wide.2 h⟩ | exact ⟨(fun k => nomatch k),rowsIn_wide h⟩ | exact h.elim
 | halt x w' => cases x <;> first | exact h | exact h.elim
theorem wpOpIn_of_wp {n:Nat} {P:Program} {ops:Array Oper} {Q:Exit → Act → World → Prop} {i:Nat} {K:Act → World → Prop} {a:Act} {w:World} (hlet:¬ LetsOut Q) (h:wpOp P ops Q i K a w):wpOpIn Fence.wide n P ops Q i K a w:=by
 unfold wpOp at h
 unfold wpOpIn
 cases ho:ops[i]? with
 | none => simp only [ho] at h ⊢;exact h
 | some o =>
  simp only [ho] at h ⊢
  split
  ·rename_i hw
   simp only [hw,if_true] at h
   exact opIn_of_wp (h.resolve_right (fun k => hlet k.2))
  ·rename_i hw
   simp only [hw] at h
   exact ⟨fun _ _ => trivial,h⟩
theorem wpAnyIn_of_wp {n:Nat} {P:Program} {md:Region.Mode} {ops:Array Oper} {Q:Exit → Act → World → Prop} (hlet:¬ LetsOut Q) :
  ∀ (fuel:Nat) (listed:Array Bool) (a:Act) (w:World),wpAny P md ops Q fuel listed a w → wpAnyIn Fence.wide n P md ops Q fuel listed a w:=by
 intro fuel
 induction fuel with
 | zero => intro listed a w h;exact h
 | succ fuel ih =>
  intro listed a w h
  exact ⟨h.1,fun i hi => wpOpIn_mono (fun a' w' h' => ih _ a' w' h') (wpOpIn_of_wp hlet (h.2 i hi))⟩
theorem still_tail_round {ℓ n id:Nat} {P:Program} {Q:Exit → Act → World → Prop} {a:Act} {w:World} {l:List Oper} (k:Nat) (hm:P.follows .mixedOrders = true) (hd:l.all noDefer = true) (hlet:¬ LetsOut Q) (hB:Region.lexTailB .any l.toArray k = true)
  (h:wpStill P l.toArray { w with drawn:=w.drawn + 1 } (fun a' => wpList P l.toArray Q (l.drop k) a' { w with drawn:=w.drawn + 1 }) (l.take k) a):(Code.region id l.toArray true).wpIn (Fence.wide.inRound ℓ) n P Q a w:=by
 simp only [Region.lexTailB,Bool.and_eq_true,decide_eq_true_eq] at hB
 obtain ⟨⟨⟨⟨hsel,hn⟩,hs⟩,hc⟩,hlex⟩:=hB
 have hn':k < l.length:=by simpa using hn
 have htl:(l.take k).length = k:=by simp;omega
 have hdl:(l.drop k).length = l.toArray.size - k:=by simp
 have inv0:HeadInv .any l.toArray k (Array.replicate l.toArray.size false) :=
  ⟨by simp,fun j oj _ hl => (by rw [getD_replicate_false] at hl;cases hl),fun t _ ht => getD_in (by simpa using ht) (getD_replicate_false _ _)⟩
 have H:=wpAnyL_lex (md:=.any) (g:=l.toArray.size - k) hsel hs hc hn (l.take k) 0 _ a (fun j hj => by
  have hj':j < k:=by rw [htl] at hj;exact hj
  simp [hj']) (by simpa using htl) inv0 (by rw [htl];exact hlex) h
 refine region_round hm (by simpa using hd) (wpAnyIn_of_wp hlet _ _ _ _ ?_)
 have:=wpAny_of_head (Q':=Q) (g:=l.toArray.size - k) (fun listed a' hL => by
  have:=wpAny_of_seq (md:=.any) (Q':=Q) (l.drop k) k listed a' { w with drawn:=w.drawn + 1 } (fun j => by simp [List.getElem?_drop]) (by rw [hdl];exact hL.1) hL.2
  rwa [hdl] at this) _ _ _ H
 rw [htl,show k + (l.toArray.size - k) = l.toArray.size by omega] at this
 exact this
theorem any_round {ℓ n id:Nat} {P:Program} {ops:Array Oper} {Q:Exit → Act → World → Prop} {a:Act} {w:World} (hm:P.follows .mixedOrders = true) (hd:ops.toList.all noDefer = true) (hlet:¬ LetsOut Q)
  (h:wpAny P .any ops Q ops.size (Array.replicate ops.size false) a { w with drawn:=w.drawn + 1 }):(Code.region id ops true).wpIn (Fence.wide.inRound ℓ) n P Q a w :=
 region_round hm hd (wpAnyIn_of_wp hlet _ _ _ _ h)
end Go.Proofs.YtpjficjlfibibaaGreatDoor.syn
