/-
  Parts of the proof: Ref02L, RgtD, Rgt1.
-/
import Derived.Deep.RegionHeld3
import Derived.Deep.DeepCutAuto
import Derived.Deep.CutBlock
import Derived.Test.YteaiemfhlpoieaaGreatDoorQ33
import Derived.Test.YteaiemfhlpoieaaGreatDoorQ26
import Derived.Test.YteaiemfhlpoieaaGreatDoorQ34
import Derived.Test.YteaiemfhlpoieaaGreatDoorQ00
import Derived.Test.YteaiemfhlpoieaaGreatDoorQ01
import Derived.Test.YteaiemfhlpoieaaGreatDoorQ28
namespace Go.Proofs.YteaiemfhlpoieaaGreatDoor.clock
open Go.RowKit
open Go.Proofs.YteaiemfhlpoieaaGreatDoor.syn (below_setAt below_drewN)
set_option linter.unusedVariables false
set_option linter.unusedSimpArgs false
theorem refAll_wrong (p f:Int) (v:Value) (w:World) (h:¬ (1 ≤ p ∧ p ≤ 2000 ∧ 0 ≤ f ∧ f ≤ 2000)) :
    Calls Tryz.prog 71 #[.agg #[.int .i64 p,.int .i64 f],v] w fun e w' => e = .returned (ansC 0 0 12) ∧ Below w.heap.size w w':=by
  have HR:=syn.hid (fun w => refRight_any p f w)
  rw [right_no h] at HR
  clear h
  go_enter Tryz.func71,Tryz.ntmps71
  go_wp2_with (go_at_call 42;(with_reducible refine (HR.out _).mono ?_);rintro e w1 ⟨rfl,hb1⟩;obtain ⟨hc1,hf1⟩:=arith.bcell hb1;have ha1:w.heap.size < w1.heap.size:=sz_of hb1 (by first | (simp;done) | (simp;omega));have hy1:w.heap.size + 1 < w1.heap.size:=sz_of hb1 (by first | (simp;done) | (simp;omega)))
  exact bodyPost_ret (v:=.tuple #[.agg #[.int .i64 0,.int .i64 0],.int .i64 12]) (by simp only [results,Tryz.results71];go_simp) rfl ⟨rfl,syn.bq⟩
set_option maxRecDepth 100000 in
set_option maxHeartbeats 2000000 in
theorem refAll_row (p f:Int) (a:Option Addr) (cap:Nat) (l:List (Int × Int × Int)) (w:World) (h:1 ≤ p ∧ p ≤ 2000 ∧ 0 ≤ f ∧ f ≤ 2000) (hl:l.length ≤ 1000)
    (hcell:∀ k,k < l.length → ∃ b off,a = some ⟨b,off,none⟩ ∧ b < w.heap.size ∧ w.cell? ⟨b,off + k * 3,none⟩ = some (.int .i64 (l.getD k (0,0,0)).1) ∧ w.cell? ⟨b,off + k * 3 + 1,none⟩ = some (.int .i64 (l.getD k (0,0,0)).2.1) ∧ w.cell? ⟨b,off + k * 3 + 2,none⟩ = some (.int .i64 (l.getD k (0,0,0)).2.2)) :
    Calls Tryz.prog 71 #[.agg #[.int .i64 p,.int .i64 f],.slice a l.length cap] w fun e w' => e = .returned (ansT (allFrom p f l)) ∧ Below w.heap.size w w':=by
  have HR:=syn.hid (fun w => refRight_any p f w)
  rw [right_yes h] at HR
  have HC:=syn.hid hcell
  clear h hcell
  go_enter Tryz.func71,Tryz.ntmps71
  go_wp2_with (go_at_call 42;(with_reducible refine (HR.out _).mono ?_);rintro e w1 ⟨rfl,hb1⟩;obtain ⟨hc1,hf1⟩:=arith.bcell hb1;have ha1:w.heap.size < w1.heap.size:=sz_of hb1 (by first | (simp;done) | (simp;omega));have hy1:w.heap.size + 1 < w1.heap.size:=sz_of hb1 (by first | (simp;done) | (simp;omega)))
  have kc:=fun o => hc1 w.heap.size o (by first | (simp;done) | (simp;omega))
  have kd:=fun o => hc1 (w.heap.size + 1) o (by simp)
  have ke:=fun o => hf1 w.heap.size o (by first | (simp;done) | (simp;omega))
  have kf:=fun o => hf1 (w.heap.size + 1) o (by simp)
  go_loopw [6] (fun i wr => ∃ (k:Nat) (p' f':Int),k ≤ l.length ∧ i = .int .i64 k ∧ AllRel w.heap.size w p f l k p' f' wr) (fun i _ => l.length - (intOf i).toNat)
  case atStart =>
    refine ⟨0,p,f,by omega,rfl,rfl,syn.bq,hy1,?_,?_,?_,?_,?_,?_,?_,?_⟩
    all_goals go_simp
  case round =>
    obtain ⟨k,p',f',hk,rfl,hrel⟩:=hrel
    have HREL:=syn.hid hrel
    obtain ⟨hA,hB,hz,c0,c1,c2,c3,z0,z1,z2,z3⟩:=hrel
    have HA:=syn.hid hA
    have HB:=syn.hid hB
    have hsz:=hB.size
    clear hA hB hc1 hf1 hb1 ha1 hy1 kc kd ke kf
    have ha:w.heap.size < wr.heap.size:=by omega
    by_cases hlt:k < l.length
    · have hil:(k:Int) < (l.length:Int):=by omega
      have hd:=syn.hid (drop_cons3 hlt)
      obtain ⟨b,off,rfl,hb0,e0,e1,e2⟩:=HC.out k hlt
      rw [← HB.out.cell (p:=⟨b,_,none⟩) hb0] at e0 e1 e2
      have hbw:b < wr.heap.size:=by omega
      generalize l.getD k (0,0,0) = o at *
      obtain ⟨ok,on,od⟩:=o
      simp only at e0 e1 e2
      generalize hr:applyP p' f' ok on od = r
      obtain ⟨p2,f2,er⟩:=r
      have HAp:=syn.hid (fun w => refApply_any p' f' ok on od w)
      simp only [hr,ansT,ansC] at HAp
      have Hr:=syn.hid hr
      clear hr
      have KS:=syn.hid (show ∀ W:World,Below wr.heap.size wr W → (fun w' => w'.cell? ⟨w.heap.size,0,none⟩ = some (.int .i64 p') ∧ w'.cell? ⟨w.heap.size,1,none⟩ = some (.int .i64 f') ∧ w'.cell? ⟨b,off + k * 3,none⟩ = some (.int .i64 ok) ∧ w'.cell? ⟨b,off + k * 3 + 1,none⟩ = some (.int .i64 on) ∧ w'.cell? ⟨b,off + k * 3 + 2,none⟩ = some (.int .i64 od)) W from fun W hb => ⟨(hb.cell (p:=⟨w.heap.size,0,none⟩) ha).trans c0,(hb.cell (p:=⟨w.heap.size,1,none⟩) ha).trans c1,(hb.cell (p:=⟨b,off + k * 3,none⟩) hbw).trans e0,(hb.cell (p:=⟨b,off + k * 3 + 1,none⟩) hbw).trans e1,(hb.cell (p:=⟨b,off + k * 3 + 2,none⟩) hbw).trans e2⟩)
      clear e0 e1 e2
      go_upto_region 6 with fail
      go_cut [7,8] (fun s7 s8 W => Hid (∃ X,s7 = .pointer (some ⟨X,0,none⟩) ∧ s8 = .int .i64 er ∧ wr.heap.size ≤ X ∧ W.heap[X]? = some (.cells #[.int .i64 p2,.int .i64 f2] 53 (0,0)) ∧ Below wr.heap.size wr W))
      case first =>
        clear c0 c1 c2 c3 z0 z1 z2 z3
        go_region_held3 (fun w' => w'.cell? ⟨w.heap.size,0,none⟩ = some (.int .i64 p') ∧ w'.cell? ⟨w.heap.size,1,none⟩ = some (.int .i64 f') ∧ w'.cell? ⟨b,off + k * 3,none⟩ = some (.int .i64 ok) ∧ w'.cell? ⟨b,off + k * 3 + 1,none⟩ = some (.int .i64 on) ∧ w'.cell? ⟨b,off + k * 3 + 2,none⟩ = some (.int .i64 od)) (exact KS.out _ syn.bq) (first | (go_at_call 87;refine (HAp.out _).mono ?_;rintro x w2 ⟨rfl,hb2⟩;have hbA:Below wr.heap.size wr w2:=syn.bq;have hz2:=hbA.size;first | (have hca:w2.heap[wr.heap.size]? = some (.cells #[.int .i64 0,.int .i64 0] 53 (0,0)):=(hb2.block wr.heap.size (by simp)).trans (syn.heap_new wr.drew _);have hcc:=syn.cells2 hca;obtain ⟨⟨v0,v1⟩,vf⟩:=hcc;have HCB:=syn.hid hca;clear hca) | skip))
        all_goals
          go_wp2_with fail
          go_meet
          first | exact ⟨_,rfl,rfl,(by first | exact Nat.le_refl _ | assumption | omega),syn.set22 HCB.out _ _,syn.bq⟩ | exact ⟨_,rfl,rfl,(by first | exact Nat.le_refl _ | assumption | omega),syn.heap_new _ _,syn.bq⟩
      case rest =>
        obtain ⟨X,rfl,rfl,hX,hXb,hBX⟩:=hcut.out
        clear hcut
        obtain ⟨W3,rfl⟩:∃ W3:World,W3 = wc:=⟨_,rfl⟩
        have g0:=(hBX.cell (p:=⟨w.heap.size,0,none⟩) ha).trans c0
        have g1:=(hBX.cell (p:=⟨w.heap.size,1,none⟩) ha).trans c1
        have g2:=(hBX.cell (p:=⟨w.heap.size + 1,0,none⟩) hz).trans c2
        have g3:=(hBX.cell (p:=⟨w.heap.size + 1,1,none⟩) hz).trans c3
        have y0:=(hBX.frozen (p:=⟨w.heap.size,0,none⟩) ha).trans z0
        have y1:=(hBX.frozen (p:=⟨w.heap.size,1,none⟩) ha).trans z1
        have y2:=(hBX.frozen (p:=⟨w.heap.size + 1,0,none⟩) hz).trans z2
        have y3:=(hBX.frozen (p:=⟨w.heap.size + 1,1,none⟩) hz).trans z3
        obtain ⟨⟨x0,x1⟩,xf⟩:=syn.cells2 hXb
        have HBX:=syn.hid (HB.out.trans (hBX.mono hsz))
        have hz3:=hBX.size
        clear c0 c1 c2 c3 z0 z1 z2 z3 hXb hBX
        by_cases he:er = 0
        · subst he
          go_wp2
          refine ⟨⟨k + 1,p2,f2,by omega,by go_num,(allFrom_ok hd.out Hr.out HA.out),syn.bq,(by simp;omega),?_,?_,?_,?_,?_,?_,?_,?_⟩,by simp [intOf];omega⟩
          all_goals go_simp
        · have hne:(er != 0) = true:=by simpa using he
          have E:=syn.hid (allFrom_no hd.out Hr.out he HA.out)
          clear he
          go_wp2
          exact bodyPost_ret (v:=.tuple #[.agg #[.int .i64 0,.int .i64 0],.int .i64 er]) (by simp only [results,Tryz.results71];go_simp) rfl ⟨by rw [E.out];rfl,syn.bq⟩
    · have hk':k = l.length:=by omega
      have E:Hid (allFrom p f l = (p',f',0)):=by have:=HA.out;rw [hk',List.drop_length,allFrom] at this;exact this.symm
      have hil:¬ (k:Int) < (l.length:Int):=by omega
      go_wp2
      exact bodyPost_ret (v:=.tuple #[.agg #[.int .i64 p',.int .i64 f'],.int .i64 0]) (by simp only [results,Tryz.results71];go_simp) rfl ⟨by rw [E.out];rfl,syn.bq⟩
end Go.Proofs.YteaiemfhlpoieaaGreatDoor.clock
namespace Go.Proofs.YteaiemfhlpoieaaGreatDoor.syn
open Go.RowKit
set_option linter.unusedVariables false
set_option linter.unusedSimpArgs false
structure AD where
  src:Int
  ops:List (Int × Int × Int)
structure TD where
  node:Int
  per:Int
  ph:Int
  args:List AD
structure LD where
  per:Int
  ph:Int
  arg:AD
  dl:Int
structure NB where
  bud:Int
  nps:Nat
structure FD where
  ins:List (Int × Int)
  nods:List NB
  tasks:List TD
  tells:List LD
def ClkR (w:World) (b o:Nat) (c:Int × Int):Prop:=w.cell? ⟨b,o,none⟩ = some (.int .i64 c.1) ∧ w.cell? ⟨b,o + 1,none⟩ = some (.int .i64 c.2)
def OpR (w:World) (b o:Nat) (x:Int × Int × Int):Prop:=w.cell? ⟨b,o,none⟩ = some (.int .i64 x.1) ∧ w.cell? ⟨b,o + 1,none⟩ = some (.int .i64 x.2.1) ∧ w.cell? ⟨b,o + 2,none⟩ = some (.int .i64 x.2.2)
def ArgR (w:World) (b o:Nat) (a:AD):Prop:=w.cell? ⟨b,o,none⟩ = some (.int .i64 a.src) ∧ ∃ ad cap,w.cell? ⟨b,o + 1,none⟩ = some (.slice ad a.ops.length cap) ∧ Row OpR 3 w a.ops ad
def TskR (w:World) (b o:Nat) (t:TD):Prop:=w.cell? ⟨b,o,none⟩ = some (.int .i64 t.node) ∧ w.cell? ⟨b,o + 1,none⟩ = some (.int .i64 t.per) ∧ w.cell? ⟨b,o + 2,none⟩ = some (.int .i64 t.ph) ∧ ∃ ad cap,w.cell? ⟨b,o + 3,none⟩ = some (.slice ad t.args.length cap) ∧ Row ArgR 2 w t.args ad
def TelR (w:World) (b o:Nat) (t:LD):Prop:=w.cell? ⟨b,o,none⟩ = some (.int .i64 t.per) ∧ w.cell? ⟨b,o + 1,none⟩ = some (.int .i64 t.ph) ∧ w.cell? ⟨b,o + 2,none⟩ = some (.int .i64 t.arg.src) ∧ w.cell? ⟨b,o + 4,none⟩ = some (.int .i64 t.dl) ∧ ∃ ad cap,w.cell? ⟨b,o + 3,none⟩ = some (.slice ad t.arg.ops.length cap) ∧ Row OpR 3 w t.arg.ops ad
def NdR (w:World) (b o:Nat) (n:NB):Prop:=∃ (nm:ByteArray) (pa:Option Addr) (pc:Nat) (k:Int) (nm2:ByteArray) (n2 d2:Int) (ea:Option Addr) (el ec:Nat) (a2 a:Int),
  w.cell? ⟨b,o,none⟩ = some (.string nm) ∧ w.cell? ⟨b,o + 1,none⟩ = some (.slice pa n.nps pc) ∧ w.cell? ⟨b,o + 2,none⟩ = some (.int .i64 n.bud) ∧ w.cell? ⟨b,o + 3,none⟩ = some (.int .i64 k) ∧ w.cell? ⟨b,o + 4,none⟩ = some (.string nm2) ∧ w.cell? ⟨b,o + 5,none⟩ = some (.int .i64 n2) ∧
  w.cell? ⟨b,o + 6,none⟩ = some (.int .i64 d2) ∧ w.cell? ⟨b,o + 7,none⟩ = some (.slice ea el ec) ∧ w.cell? ⟨b,o + 8,none⟩ = some (.int .i64 a2) ∧ w.cell? ⟨b,o + 9,none⟩ = some (.int .i64 a)
theorem clkSta:Sta ClkR:=fun w w' b o x hb hlt h => ⟨(hb.cell (p:=⟨b,_,none⟩) hlt).trans h.1,(hb.cell (p:=⟨b,_,none⟩) hlt).trans h.2⟩
theorem opSta:Sta OpR:=fun w w' b o x hb hlt h => ⟨(hb.cell (p:=⟨b,_,none⟩) hlt).trans h.1,(hb.cell (p:=⟨b,_,none⟩) hlt).trans h.2.1,(hb.cell (p:=⟨b,_,none⟩) hlt).trans h.2.2⟩
theorem argSta:Sta ArgR:=fun w w' b o x hb hlt h => by
  obtain ⟨h0,ad,cap,h1,h2⟩:=h
  exact ⟨(hb.cell (p:=⟨b,_,none⟩) hlt).trans h0,ad,cap,(hb.cell (p:=⟨b,_,none⟩) hlt).trans h1,h2.below opSta hb⟩
theorem tskSta:Sta TskR:=fun w w' b o x hb hlt h => by
  obtain ⟨h0,h1,h2,ad,cap,h3,h4⟩:=h
  exact ⟨(hb.cell (p:=⟨b,_,none⟩) hlt).trans h0,(hb.cell (p:=⟨b,_,none⟩) hlt).trans h1,(hb.cell (p:=⟨b,_,none⟩) hlt).trans h2,ad,cap,(hb.cell (p:=⟨b,_,none⟩) hlt).trans h3,h4.below argSta hb⟩
theorem telSta:Sta TelR:=fun w w' b o x hb hlt h => by
  obtain ⟨h0,h1,h2,h3,ad,cap,h4,h5⟩:=h
  exact ⟨(hb.cell (p:=⟨b,_,none⟩) hlt).trans h0,(hb.cell (p:=⟨b,_,none⟩) hlt).trans h1,(hb.cell (p:=⟨b,_,none⟩) hlt).trans h2,(hb.cell (p:=⟨b,_,none⟩) hlt).trans h3,ad,cap,(hb.cell (p:=⟨b,_,none⟩) hlt).trans h4,h5.below opSta hb⟩
theorem ndSta:Sta NdR:=fun w w' b o x hb hlt h => by
  obtain ⟨nm,pa,pc,k,nm2,n2,d2,ea,el,ec,a2,a,h0,h1,h2,h3,h4,h5,h6,h7,h8,h9⟩:=h
  have hc:=fun o => hb.cell (p:=⟨b,o,none⟩) hlt
  exact ⟨nm,pa,pc,k,nm2,n2,d2,ea,el,ec,a2,a,(hc _).trans h0,(hc _).trans h1,(hc _).trans h2,(hc _).trans h3,(hc _).trans h4,(hc _).trans h5,(hc _).trans h6,(hc _).trans h7,(hc _).trans h8,(hc _).trans h9⟩
structure FAP (w:World) (f:FD) (ai an aT al:Option Addr):Prop where
  ins:Row ClkR 2 w f.ins ai
  nods:Row NdR 10 w f.nods an
  tasks:Row TskR 4 w f.tasks aT
  tells:Row TelR 5 w f.tells al
  lens:f.ins.length ≤ 1000 ∧ f.nods.length ≤ 1000 ∧ f.tasks.length ≤ 1000 ∧ f.tells.length ≤ 1000
  args:∀ t ∈ f.tasks,t.args.length ≤ 1000 ∧ ∀ a ∈ t.args,a.ops.length ≤ 1000 ∧ I64 a.src
  tops:∀ t ∈ f.tells,t.arg.ops.length ≤ 1000 ∧ I64 t.arg.src
theorem FAP.below {w w':World} {f:FD} {ai an aT al:Option Addr} (h:FAP w f ai an aT al) (hb:Below w.heap.size w w'):FAP w' f ai an aT al :=
  ⟨h.ins.below clkSta hb,h.nods.below ndSta hb,h.tasks.below tskSta hb,h.tells.below telSta hb,h.lens,h.args,h.tops⟩
def fv (f:FD) (ai an aT al:Option Addr) (ci cn ct cl:Nat):Value:=.agg #[.slice ai f.ins.length ci,.slice an f.nods.length cn,.slice aT f.tasks.length ct,.slice al f.tells.length cl]
def srcP (f:FD) (i:Int):Option (Int × Int):=if i < 0 then none else if i < (f.ins.length:Int) then f.ins[i.toNat]? else (f.tasks[(i - (f.ins.length:Int)).toNat]?).map (fun t => (t.per,t.ph))
def srcV (o:Option (Int × Int)):Value:=.tuple #[.agg #[.int .i64 (o.getD (0,0)).1,.int .i64 (o.getD (0,0)).2],.bool o.isSome]
theorem src_neg {f:FD} {i:Int} (h:i < 0):srcP f i = none:=if_pos h
theorem src_in {f:FD} {k:Nat} (h:k < f.ins.length):srcP f (k:Int) = some f.ins[k]:=by
  unfold srcP
  rw [if_neg oq,if_pos oq,Int.toNat_natCast,List.getElem?_eq_getElem h]
theorem src_task {f:FD} {k:Nat} (h:k < f.tasks.length):srcP f ((f.ins.length:Int) + (k:Int)) = some (f.tasks[k].per,f.tasks[k].ph):=by
  unfold srcP
  rw [if_neg oq,if_neg oq,show ((f.ins.length:Int) + (k:Int) - (f.ins.length:Int)).toNat = k by omega,List.getElem?_eq_getElem h]
  rfl
theorem src_far {f:FD} {i:Int} (h0:¬ i < 0) (h1:¬ i < (f.ins.length:Int)) (h2:¬ i - (f.ins.length:Int) < (f.tasks.length:Int)):srcP f i = none:=by
  unfold srcP
  rw [if_neg h0,if_neg h1,List.getElem?_eq_none oq]
  rfl
open Go.RowKit Go.Shelf
set_option maxRecDepth 100000 in
set_option maxHeartbeats 2000000 in
theorem source_any {w:World} (f:FD) (ai an aT al:Option Addr) (ci cn ct cl:Nat) (hf:FAP w f ai an aT al) (i:Int) (hi64:I64 i) :
    Calls Tryz.prog 22 #[fv f ai an aT al ci cn ct cl,.int .i64 i] w fun x w' => x = .returned (srcV (srcP f i)) ∧ Below w.heap.size w w':=by
  have hlens:=hf.lens
  have HF:=hid hf
  unfold I64 at hi64
  clear hf
  unfold fv
  obtain ⟨ans,hans⟩:∃ ans,srcP f i = ans:=⟨_,rfl⟩
  rw [hans]
  go_enter Tryz.func22,Tryz.ntmps22
  go_upto_region 1 with fail
  obtain ⟨W2,hW2⟩:∃ W2,(w.alloc (.cells #[.slice ai f.ins.length ci,.slice an f.nods.length cn,.slice aT f.tasks.length ct,.slice al f.tells.length cl] 37)).alloc (.cells #[.int .i64 0,.int .i64 0] 53) = W2:=⟨_,rfl⟩
  rw [hW2]
  have hB:Below w.heap.size w W2:=by rw [← hW2];exact bq
  have hq0:W2.heap[w.heap.size]? = some (.cells #[.slice ai f.ins.length ci,.slice an f.nods.length cn,.slice aT f.tasks.length ct,.slice al f.tells.length cl] 37 (0,0)):=by rw [← hW2];exact (Below.heap_alloc _ _ _ (by simp)).trans (heap_new w _)
  have hq1:W2.heap[w.heap.size + 1]? = some (.cells #[.int .i64 0,.int .i64 0] 53 (0,0)):=by rw [← hW2];simpa using heap_new (w.alloc (.cells #[.slice ai f.ins.length ci,.slice an f.nods.length cn,.slice aT f.tasks.length ct,.slice al f.tells.length cl] 37)) (.cells #[.int .i64 0,.int .i64 0] 53)
  obtain ⟨⟨x0,x1,x2,x3⟩,xf⟩:=cells4 hq0
  obtain ⟨⟨q0,q1⟩,qf⟩:=cells2 hq1
  have HB:=hid hB
  clear hW2 hB hq0 hq1
  by_cases h0:i < 0
  · obtain rfl:ans = none:=hans.symm.trans (src_neg h0)
    clear hans
    have h0d:¬ i ≥ 0:=by omega
    go_wp2
    exact bodyPost_ret (v:=srcV none) (by unfold srcV;simp only [results,Tryz.results22];go_simp) rfl ⟨rfl,bq⟩
  · have h0d:i ≥ 0:=by omega
    by_cases h1:i < (f.ins.length:Int)
    · obtain ⟨k,rfl⟩:∃ k:Nat,i = (k:Int):=⟨i.toNat,by omega⟩
      have hk:k < f.ins.length:=by omega
      obtain ⟨b,o,rfl,hb,hc0,hc1⟩:=HF.out.ins.at hk
      obtain ⟨⟨pp,ff⟩,hpf⟩:∃ c,f.ins[k] = c:=⟨_,rfl⟩
      obtain rfl:ans = some (pp,ff):=hans.symm.trans ((src_in hk).trans (congrArg some hpf))
      rw [hpf] at hc0 hc1
      simp only at hc0 hc1
      have y0:=(HB.out.cell (p:=⟨b,o + k * 2,none⟩) hb).trans hc0
      have y1:=(HB.out.cell (p:=⟨b,o + k * 2 + 1,none⟩) hb).trans hc1
      have hk0:(0:Int) ≤ (k:Int):=by omega
      clear hc0 hc1 hpf hans
      go_wp2
      exact bodyPost_ret (v:=srcV (some (pp,ff))) (by unfold srcV;simp only [Option.getD_some,Option.isSome_some];simp only [results,Tryz.results22];go_simp) rfl ⟨rfl,bq⟩
    · have h1d:i ≥ (f.ins.length:Int):=by omega
      by_cases h2:i - (f.ins.length:Int) < (f.tasks.length:Int)
      · obtain ⟨k,rfl⟩:∃ k:Nat,i = (f.ins.length:Int) + (k:Int):=⟨(i - (f.ins.length:Int)).toNat,by omega⟩
        have hk:k < f.tasks.length:=by omega
        obtain ⟨b,o,rfl,hb,_,hc0,hc1,_⟩:=HF.out.tasks.at hk
        obtain ⟨pp,hpp⟩:∃ c,f.tasks[k].per = c:=⟨_,rfl⟩
        obtain ⟨ff,hff⟩:∃ c,f.tasks[k].ph = c:=⟨_,rfl⟩
        obtain rfl:ans = some (pp,ff):=hans.symm.trans ((src_task hk).trans (by rw [hpp,hff]))
        rw [hpp] at hc0
        rw [hff] at hc1
        have y0:=(HB.out.cell (p:=⟨b,o + k * 4 + 1,none⟩) hb).trans hc0
        have y1:=(HB.out.cell (p:=⟨b,o + k * 4 + 2,none⟩) hb).trans hc1
        have hk0:(0:Int) ≤ (k:Int):=by omega
        have hk1:(k:Int) < (f.tasks.length:Int):=by omega
        have hw1:IntKind.i64.wrap ((f.ins.length:Int) + (k:Int) - (f.ins.length:Int)) = (k:Int):=by rw [show (f.ins.length:Int) + (k:Int) - (f.ins.length:Int) = (k:Int) by omega];exact IntWalk.i64_in _ oq
        have hw2:IntKind.i64.wrap ((f.ins.length:Int) + (f.tasks.length:Int)) = (f.ins.length:Int) + (f.tasks.length:Int):=IntWalk.i64_in _ oq
        have hw3:(f.ins.length:Int) + (k:Int) < (f.ins.length:Int) + (f.tasks.length:Int):=by omega
        clear hc0 hc1 hpp hff hans
        go_wp2
        exact bodyPost_ret (v:=srcV (some (pp,ff))) (by unfold srcV;simp only [Option.getD_some,Option.isSome_some];simp only [results,Tryz.results22];go_simp) rfl ⟨rfl,bq⟩
      · obtain rfl:ans = none:=hans.symm.trans (src_far h0 h1 h2)
        clear hans
        have hw1:IntKind.i64.wrap (i - (f.ins.length:Int)) = i - (f.ins.length:Int):=IntWalk.i64_in _ oq
        have hw2:IntKind.i64.wrap ((f.ins.length:Int) + (f.tasks.length:Int)) = (f.ins.length:Int) + (f.tasks.length:Int):=IntWalk.i64_in _ oq
        have hw3:¬ i < (f.ins.length:Int) + (f.tasks.length:Int):=by omega
        go_wp2
        exact bodyPost_ret (v:=srcV none) (by unfold srcV;simp only [results,Tryz.results22];go_simp) rfl ⟨rfl,bq⟩
set_option maxRecDepth 100000 in
set_option maxHeartbeats 2000000 in
theorem refSource_any {w:World} (f:FD) (ai an aT al:Option Addr) (ci cn ct cl:Nat) (hf:FAP w f ai an aT al) (i:Int) (hi64:I64 i) :
    Calls Tryz.prog 70 #[fv f ai an aT al ci cn ct cl,.int .i64 i] w fun x w' => x = .returned (srcV (srcP f i)) ∧ Below w.heap.size w w':=by
  have hlens:=hf.lens
  have HF:=hid hf
  unfold I64 at hi64
  clear hf
  unfold fv
  obtain ⟨ans,hans⟩:∃ ans,srcP f i = ans:=⟨_,rfl⟩
  rw [hans]
  go_enter Tryz.func70,Tryz.ntmps70
  go_upto_region 1 with fail
  obtain ⟨W2,hW2⟩:∃ W2,(w.alloc (.cells #[.slice ai f.ins.length ci,.slice an f.nods.length cn,.slice aT f.tasks.length ct,.slice al f.tells.length cl] 37)).alloc (.cells #[.int .i64 0,.int .i64 0] 53) = W2:=⟨_,rfl⟩
  rw [hW2]
  have hB:Below w.heap.size w W2:=by rw [← hW2];exact bq
  have hq0:W2.heap[w.heap.size]? = some (.cells #[.slice ai f.ins.length ci,.slice an f.nods.length cn,.slice aT f.tasks.length ct,.slice al f.tells.length cl] 37 (0,0)):=by rw [← hW2];exact (Below.heap_alloc _ _ _ (by simp)).trans (heap_new w _)
  have hq1:W2.heap[w.heap.size + 1]? = some (.cells #[.int .i64 0,.int .i64 0] 53 (0,0)):=by rw [← hW2];simpa using heap_new (w.alloc (.cells #[.slice ai f.ins.length ci,.slice an f.nods.length cn,.slice aT f.tasks.length ct,.slice al f.tells.length cl] 37)) (.cells #[.int .i64 0,.int .i64 0] 53)
  obtain ⟨⟨x0,x1,x2,x3⟩,xf⟩:=cells4 hq0
  obtain ⟨⟨q0,q1⟩,qf⟩:=cells2 hq1
  have HB:=hid hB
  clear hW2 hB hq0 hq1
  by_cases h0:i < 0
  · obtain rfl:ans = none:=hans.symm.trans (src_neg h0)
    clear hans
    have h0d:¬ i ≥ 0:=by omega
    go_wp2
    exact bodyPost_ret (v:=srcV none) (by unfold srcV;simp only [results,Tryz.results70];go_simp) rfl ⟨rfl,bq⟩
  · have h0d:i ≥ 0:=by omega
    by_cases h1:i < (f.ins.length:Int)
    · obtain ⟨k,rfl⟩:∃ k:Nat,i = (k:Int):=⟨i.toNat,by omega⟩
      have hk:k < f.ins.length:=by omega
      obtain ⟨b,o,rfl,hb,hc0,hc1⟩:=HF.out.ins.at hk
      obtain ⟨⟨pp,ff⟩,hpf⟩:∃ c,f.ins[k] = c:=⟨_,rfl⟩
      obtain rfl:ans = some (pp,ff):=hans.symm.trans ((src_in hk).trans (congrArg some hpf))
      rw [hpf] at hc0 hc1
      simp only at hc0 hc1
      have y0:=(HB.out.cell (p:=⟨b,o + k * 2,none⟩) hb).trans hc0
      have y1:=(HB.out.cell (p:=⟨b,o + k * 2 + 1,none⟩) hb).trans hc1
      have hk0:(0:Int) ≤ (k:Int):=by omega
      clear hc0 hc1 hpf hans
      go_wp2
      exact bodyPost_ret (v:=srcV (some (pp,ff))) (by unfold srcV;simp only [Option.getD_some,Option.isSome_some];simp only [results,Tryz.results70];go_simp) rfl ⟨rfl,bq⟩
    · have h1d:i ≥ (f.ins.length:Int):=by omega
      by_cases h2:i - (f.ins.length:Int) < (f.tasks.length:Int)
      · obtain ⟨k,rfl⟩:∃ k:Nat,i = (f.ins.length:Int) + (k:Int):=⟨(i - (f.ins.length:Int)).toNat,by omega⟩
        have hk:k < f.tasks.length:=by omega
        obtain ⟨b,o,rfl,hb,_,hc0,hc1,_⟩:=HF.out.tasks.at hk
        obtain ⟨pp,hpp⟩:∃ c,f.tasks[k].per = c:=⟨_,rfl⟩
        obtain ⟨ff,hff⟩:∃ c,f.tasks[k].ph = c:=⟨_,rfl⟩
        obtain rfl:ans = some (pp,ff):=hans.symm.trans ((src_task hk).trans (by rw [hpp,hff]))
        rw [hpp] at hc0
        rw [hff] at hc1
        have y0:=(HB.out.cell (p:=⟨b,o + k * 4 + 1,none⟩) hb).trans hc0
        have y1:=(HB.out.cell (p:=⟨b,o + k * 4 + 2,none⟩) hb).trans hc1
        have hk0:(0:Int) ≤ (k:Int):=by omega
        have hk1:(k:Int) < (f.tasks.length:Int):=by omega
        have hw1:IntKind.i64.wrap ((f.ins.length:Int) + (k:Int) - (f.ins.length:Int)) = (k:Int):=by rw [show (f.ins.length:Int) + (k:Int) - (f.ins.length:Int) = (k:Int) by omega];exact IntWalk.i64_in _ oq
        have hw2:IntKind.i64.wrap ((f.ins.length:Int) + (f.tasks.length:Int)) = (f.ins.length:Int) + (f.tasks.length:Int):=IntWalk.i64_in _ oq
        have hw3:(f.ins.length:Int) + (k:Int) < (f.ins.length:Int) + (f.tasks.length:Int):=by omega
        clear hc0 hc1 hpp hff hans
        go_wp2
        exact bodyPost_ret (v:=srcV (some (pp,ff))) (by unfold srcV;simp only [Option.getD_some,Option.isSome_some];simp only [results,Tryz.results70];go_simp) rfl ⟨rfl,bq⟩
      · obtain rfl:ans = none:=hans.symm.trans (src_far h0 h1 h2)
        clear hans
        have hw1:IntKind.i64.wrap (i - (f.ins.length:Int)) = i - (f.ins.length:Int):=IntWalk.i64_in _ oq
        have hw2:IntKind.i64.wrap ((f.ins.length:Int) + (f.tasks.length:Int)) = (f.ins.length:Int) + (f.tasks.length:Int):=IntWalk.i64_in _ oq
        have hw3:¬ i < (f.ins.length:Int) + (f.tasks.length:Int):=by omega
        go_wp2
        exact bodyPost_ret (v:=srcV none) (by unfold srcV;simp only [results,Tryz.results70];go_simp) rfl ⟨rfl,bq⟩
theorem ticks_any {w:World} (n:Int):Calls Tryz.prog 45 #[.int .i64 n] w fun x w' => x = .returned (.bool (decide (1 ≤ n ∧ n ≤ 1000))) ∧ w = w':=by
  by_cases h1:1 ≤ n
  · by_cases h2:n ≤ 1000
    · rw [decide_eq_true (And.intro h1 h2)]
      go_enter Tryz.func45,Tryz.ntmps45
      go_wp2
      go_ret
      exact ⟨rfl,rfl⟩
    · rw [decide_eq_false (fun h => h2 h.2)]
      go_enter Tryz.func45,Tryz.ntmps45
      go_wp2
      go_ret
      exact ⟨rfl,rfl⟩
  · rw [decide_eq_false (fun h => h1 h.1)]
    go_enter Tryz.func45,Tryz.ntmps45
    go_wp2
    go_ret
    exact ⟨rfl,rfl⟩
end Go.Proofs.YteaiemfhlpoieaaGreatDoor.syn
