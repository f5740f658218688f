/-
  Parts of the proof: Chk10, Chk11, Chk12, Ref4cD.
-/
import Derived.Shelf.Abstract
import Derived.Test.YteaiemfhlpoieaaGreatDoorQ10
import Derived.Deep.OwnRows
import Derived.Test.YteaiemfhlpoieaaGreatDoorQ03
namespace Go.Proofs.YteaiemfhlpoieaaGreatDoor.syn
open Go.RowKit Go.Shelf
set_option linter.unusedVariables false
set_option linter.unusedSimpArgs false
attribute [local go_sem] Oper.semAt_some
def okE (env:Env) (e:PE):Bool:=decide (e.k ≠ 2) || ckA env e.args
def callsOK (env:Env) (flows:List FL):Bool:=(itemsF flows).all (okE env)
set_option maxRecDepth 100000 in
set_option maxHeartbeats 4000000 in
theorem askCalls_any {w:World} (flows:List FL) (af:Option Addr) (cf mb:Nat) (L:List (ByteArray × Value)) (env:Env) (hr:Row FlC 8 w flows af) (hc1:flows.length ≤ cf) (hc2:cf ≤ 9223372036854775807)
    (hM:MapS w mb L) (hE:EnvIs L env) :
    Calls Tryz.prog 34 #[.map (some mb),.slice af flows.length cf] w fun x w' => AskAns (callsOK env flows) x ∧ Below w.heap.size w w':=by
  have HR:=hid hr
  have HM:=hid hM
  clear hr hM
  have HWI:=hid (fun w => within_any (w:=w) af flows.length cf)
  refine (callsIn_wide (n:=6)).1 ?_
  refine callsIn_of_wp_marks Tryz.func34 rfl trivial ?_ rfl
  simp only [Tryz.ntmps34,List.size_toArray,List.length_cons,List.length_nil,Nat.reduceAdd,Nat.reduceSub,Array.replicate_succ,Array.replicate_zero,List.push_toArray,List.append_toArray,List.nil_append,List.cons_append]
  gi_wp2_with (refine ⟨trivial,?_⟩;gi_at_call 55;refine (callsIn_wide.2 (HWI.out _)).mono ?_;rintro e w' ⟨rfl,rfl⟩)
  have bM:=(((Boxed.new w 88 (.map (some mb))).alloc (.cells #[.int .i64 0] 3)).alloc (.cells #[.int .i64 0] 31)).alloc (.cells #[.slice af flows.length cf] 24)
  have bA:=((Boxed.new (w.alloc (.cells #[.map (some mb)] 88)) 3 (.int .i64 0)).alloc (.cells #[.int .i64 0] 31)).alloc (.cells #[.slice af flows.length cf] 24)
  have bE:=(Boxed.new ((w.alloc (.cells #[.map (some mb)] 88)).alloc (.cells #[.int .i64 0] 3)) 31 (.int .i64 0)).alloc (.cells #[.slice af flows.length cf] 24)
  have bS:=Boxed.new (((w.alloc (.cells #[.map (some mb)] 88)).alloc (.cells #[.int .i64 0] 3)).alloc (.cells #[.int .i64 0] 31)) 24 (.slice af flows.length cf)
  simp only [World.size_alloc] at bA bE bS
  have hB0:Below w.heap.size w ((((w.alloc (.cells #[.map (some mb)] 88)).alloc (.cells #[.int .i64 0] 3)).alloc (.cells #[.int .i64 0] 31)).alloc (.cells #[.slice af flows.length cf] 24)):=bq
  have hsz:((((w.alloc (.cells #[.map (some mb)] 88)).alloc (.cells #[.int .i64 0] 3)).alloc (.cells #[.int .i64 0] 31)).alloc (.cells #[.slice af flows.length cf] 24)).heap.size = w.heap.size + 4:=by simp
  obtain ⟨W0,hW0⟩:∃ W0,(((w.alloc (.cells #[.map (some mb)] 88)).alloc (.cells #[.int .i64 0] 3)).alloc (.cells #[.int .i64 0] 31)).alloc (.cells #[.slice af flows.length cf] 24) = W0:=⟨_,rfl⟩
  try simp only [World.size_alloc]
  rw [hW0] at bM bA bE bS hB0 hsz ⊢
  clear hW0
  have hszw:w.heap.size ≤ W0.heap.size:=by omega
  refine wpIn_rangeFunc_ownH (encs:=fun x:VX w => #[.agg #[.int .i64 x.e.k,.string x.e.nm,.int .i64 x.e.n,.int .i64 x.e.d,.slice x.ad x.e.args.len x.cap,.int .i64 x.e.a]]) rfl oq (gf:=77) (lb:=#[.pointer (some ⟨w.heap.size + 1 + 1 + 1,0,none⟩)]) rfl trivial (enters_of Tryz.func77 (by kernel_rfl) rfl)
    (within_stops (W0:=w) Fence.wide rfl trivial trivial rfl _ (w.heap.size + 1 + 1 + 1) flows af cf HR.out hc1 hc2 W0 oq hB0 bS.cell) (fun h k => h.trans k) (fun W l o o' hl h hc _ => KC.putObj W l o o' oq h hc) (Below.refl _ _) (fun _ => rfl)
    (fun pre W => ((Boxed W w.heap.size 88 (.map (some mb)) ∧ Boxed W (w.heap.size + 1) 3 (.int .i64 0)) ∧ Boxed W (w.heap.size + 1 + 1) 31 (.int .i64 0)) ∧ Below w.heap.size w W ∧ (pre.map (·.e)).all (okE env) = true)
    (fun c pre W => ∃ a er,((Boxed W (w.heap.size + 1) 3 (.int .i64 a) ∧ Boxed W (w.heap.size + 1 + 1) 31 (.int .i64 er)) ∧ Below w.heap.size w W) ∧ (c = .ret ∧ er ≠ 0 ∧ (pre.map (·.e)).all (okE env) = false))
    (OwnFrom.and (OwnFrom.and (OwnFrom.and (Own.from (boxed_own _ _ _) _) (Own.from (boxed_own _ _ _) _)) (Own.from (boxed_own _ _ _) _)) (OwnFrom.and (ownFrom_below (Nat.le_refl _) hszw) (ownFrom_pure _ _)))
    (fun c s X Y row hs hg hrw => by
      obtain ⟨a,er,⟨⟨h1,h2⟩,h3⟩,h4⟩:=hs
      exact ⟨a,er,⟨⟨boxed_own _ _ (fun (_:Unit) => Value.int .i64 a) () X Y row h1 hg (fun r e => (hrw r e).2),boxed_own _ _ (fun (_:Unit) => Value.int .i64 er) () X Y row h2 hg (fun r e => (hrw r e).2)⟩,ownFrom_below (β:=Unit) (Nat.le_refl _) hszw () X Y row h3 hg hrw⟩,h4⟩)
    ⟨⟨⟨bM,bA⟩,bE⟩,hB0,rfl⟩
    (fun x a' W => ∃ Bx,w.heap.size + 1 + 1 < Bx ∧ W.heap[Bx]? = some (.cells #[.int .i64 x.e.k,.string x.e.nm,.int .i64 x.e.n,.int .i64 x.e.d,.slice x.ad x.e.args.len x.cap,.int .i64 x.e.a] 46 (0,0)) ∧
      a' = { tmps:=#[.map (some mb),.slice af flows.length cf,.pointer (some ⟨w.heap.size,0,none⟩),undef,.pointer (some ⟨w.heap.size + 1,0,none⟩),.pointer (some ⟨w.heap.size + 1 + 1,0,none⟩),.pointer (some ⟨Bx,0,none⟩),undef,undef,.slice af flows.length cf,
        .func (.func 77) #[] #[.pointer (some ⟨w.heap.size + 1 + 1 + 1,0,none⟩)],.agg #[.int .i64 x.e.k,.string x.e.nm,.int .i64 x.e.n,.int .i64 x.e.d,.slice x.ad x.e.args.len x.cap,.int .i64 x.e.a],undef,undef,undef,undef,undef,undef,undef,undef,undef,undef,undef,undef,undef],defers:=[] })
    (fun x a' _ X Y row hs hg hrw => by
      obtain ⟨Bx,h1,h2,h3⟩:=hs
      refine ⟨Bx,h1,(hg.block Bx (Array.getElem?_eq_some_iff.1 h2).1 (fun e => ?_)).trans h2,h3⟩
      obtain ⟨_,o,ho,hc⟩:=hrw Bx e.symm
      rw [h2] at ho;cases ho;cases hc)
    ?assign ?body ?done ?stop
  case assign =>
    rintro l pre x W K ⟨⟨⟨bM1,bA1⟩,bE1⟩,hB1,hall⟩ hK
    gi_wp2
    exact hK _ _ ((KeepsOthers.alloc _ _).from _) ((KC.refl _ W).alloc hB1.size _) ⟨⟨⟨bM1.alloc _,bA1.alloc _⟩,bE1.alloc _⟩,hB1.alloc hB1.size _,hall⟩ ⟨W.heap.size,bE1.lt,heap_new W _,rfl⟩
  case body =>
    rintro l pre ⟨⟨k1,nm1,n1,d1,args1,a1⟩,ad1,cap1,hok⟩ a' W hl ⟨r,hr⟩ ⟨⟨⟨bM1,bA1⟩,bE1⟩,hB1,hall⟩ ⟨Bx,hBx,hxb,rfl⟩ hlt
    simp only at hxb
    have cM:=bM1.cell
    obtain ⟨⟨x0,x1,x2,x3,x4,x5⟩,xf⟩:=cells6' hxb
    have hsW:=hB1.size
    by_cases hk2:k1 = 2
    · subst hk2
      have HC:=hid (askCall_any (w:=W) ⟨2,nm1,n1,d1,args1,a1⟩ ad1 cap1 mb L env (hok.below hB1) (HM.out.below hB1) hE)
      simp only at HC
      cases hck:ckA env args1 with
      | true =>
        rw [hck] at HC
        have hall2:((pre ++ [(⟨⟨2,nm1,n1,d1,args1,a1⟩,ad1,cap1,hok⟩:VX w)]).map (·.e)).all (okE env) = true:=by
          rw [List.map_append,List.all_append,hall];simp [okE,hck]
        gi_wp2_with (refine ⟨trivial,?_⟩;gi_at_call 56;refine (CallsIn.inRound l (callsIn_wide.2 HC.out)).mono ?_;rintro e w2 ⟨he,hb2⟩;obtain rfl:e = .returned (.tuple #[.int .i64 0,.int .i64 0]):=he)
        exact ⟨⟨hb2.size,fun k o _ hk _ => (hb2.block k (lt_of_block hk)).trans hk⟩,(KC.refl _ W).of_below hb2 hsW,⟨⟨⟨(hb2.block _ bM1.lt).trans bM1,(hb2.block _ bA1.lt).trans bA1⟩,(hb2.block _ bE1.lt).trans bE1⟩,hB1.trans (hb2.mono hsW),hall2⟩⟩
      | false =>
        rw [hck] at HC
        have hall2:((pre ++ [(⟨⟨2,nm1,n1,d1,args1,a1⟩,ad1,cap1,hok⟩:VX w)]).map (·.e)).all (okE env) = false:=by
          rw [List.map_append,List.all_append];simp [okE,hck]
        gi_wp2_with (refine ⟨trivial,?_⟩;gi_at_call 56;refine (CallsIn.inRound l (callsIn_wide.2 HC.out)).mono ?_;rintro e w2 ⟨⟨ab,eb,heb,rfl⟩,hb2⟩;have heb':(eb == 0) = false:=beq_eq_false_iff_ne.2 heb;have bA2:Boxed w2 (w.heap.size + 1) 3 (.int .i64 0):=(hb2.block _ bA1.lt).trans bA1;have bE2:Boxed w2 (w.heap.size + 1 + 1) 31 (.int .i64 0):=(hb2.block _ bE1.lt).trans bE1;have cA:=bA2.cell;have fA:=bA2.frozen;have cE:=bE2.cell;have fE:=bE2.frozen)
        exact ⟨(show KeepsFrom W0.heap.size W w2 from ⟨hb2.size,fun k o _ hk _ => (hb2.block k (lt_of_block hk)).trans hk⟩).trans (((KeepsOthers.setCell _ _ _).trans (KeepsOthers.setCell _ _ _)).from _),ab,eb,⟨⟨(bA2.set _).other oq _,(bE2.other oq _).set _⟩,((hB1.trans (hb2.mono hsW)).setCell (p:=⟨w.heap.size + 1,0,none⟩) (by simp) _).setCell (p:=⟨w.heap.size + 1 + 1,0,none⟩) (by simp;omega) _⟩,rfl,heb,hall2⟩
    · have hk2':(k1 == 2) = false:=beq_eq_false_iff_ne.2 hk2
      have hall2:((pre ++ [(⟨⟨k1,nm1,n1,d1,args1,a1⟩,ad1,cap1,hok⟩:VX w)]).map (·.e)).all (okE env) = true:=by
        rw [List.map_append,List.all_append,hall];simp [okE,hk2]
      gi_wp2
      exact ⟨KeepsFrom.refl _ _,KC.refl _ _,⟨⟨⟨bM1,bA1⟩,bE1⟩,hB1,hall2⟩⟩
  case done =>
    rintro D zs W hD hzs ⟨⟨⟨bM1,bA1⟩,bE1⟩,hB1,hall⟩ hK
    have h1:callsOK env flows = true:=by unfold callsOK;rw [← hzs];exact hall
    have cA:=bA1.cell
    have fA:=bA1.frozen
    have cE:=bE1.cell
    have fE:=bE1.frozen
    gi_wp2
    have hK2:((W.setCell ⟨w.heap.size + 1,0,none⟩ (.int .i64 0)).setCell ⟨w.heap.size + 1 + 1,0,none⟩ (.int .i64 0)).heap[D]? = some (.deferred (some [])):=((KeepsOthers.setCell _ _ _).trans (KeepsOthers.setCell _ _ _)).same D _ hK rfl
    refine ⟨by simp,.inl ⟨_,_,rfl,run_takeDeferred hK2,?_⟩⟩
    have bA3:=(((bA1.set (.int .i64 0)).other (show w.heap.size + 1 ≠ w.heap.size + 1 + 1 by omega) (.int .i64 0)).kept (grownBy_putObj' _ D (.deferred none)) (by intro e;injection e with e;omega)).cell
    have bE3:=(((bE1.other (show w.heap.size + 1 + 1 ≠ w.heap.size + 1 by omega) (.int .i64 0)).set (.int .i64 0)).kept (grownBy_putObj' _ D (.deferred none)) (by intro e;injection e with e;omega)).cell
    refine ⟨.tuple #[.int .i64 0,.int .i64 0],?_,?_,?_⟩
    · simp only [results,Tryz.results34];go_simp
    · unfold AskAns;rw [if_pos h1];rfl
    · exact ((hB1.setCell (p:=⟨w.heap.size + 1,0,none⟩) (by simp) _).setCell (p:=⟨w.heap.size + 1 + 1,0,none⟩) (by simp;omega) _).trans (KC.putObj (n₀:=w.heap.size) _ D _ _ oq hK2 rfl).below
  case stop =>
    rintro D c pre W hD hpre ⟨a,er,⟨⟨bA1,bE1⟩,hB1⟩,rfl,her,hall⟩ hK
    have h1:callsOK env flows = false:=by
      unfold callsOK
      obtain ⟨t,ht⟩:=hpre
      rw [← ht,List.all_append,hall];rfl
    have cA:=bA1.cell
    have fA:=bA1.frozen
    have cE:=bE1.cell
    have fE:=bE1.frozen
    gi_wp2
    refine ⟨by simp,.inl ⟨_,_,rfl,run_takeDeferred hK,?_⟩⟩
    have bA3:=(bA1.kept (grownBy_putObj' _ D (.deferred none)) (by intro e;injection e with e;omega)).cell
    have bE3:=(bE1.kept (grownBy_putObj' _ D (.deferred none)) (by intro e;injection e with e;omega)).cell
    refine ⟨.tuple #[.int .i64 a,.int .i64 er],?_,?_,?_⟩
    · simp only [results,Tryz.results34];go_simp
    · unfold AskAns;rw [if_neg (by rw [h1];decide)];exact ⟨a,er,her,rfl⟩
    · exact hB1.trans (KC.putObj (n₀:=w.heap.size) _ D _ _ oq hK rfl).below
open Go.RowKit
def inEnv:List IN → Env → Env
  | [],e => e
  | x :: l,e => inEnv l (upd e x.nm (x.per,x.ph))
def env0 (ins:List IN):Env:=inEnv ins (fun _ => none)
def clkAt (env:Env) (nm:ByteArray):Int × Int:=(env nm).getD (0,0)
def ClkRow (w:World) (v:Value) (l:List (Int × Int)):Prop :=
  ∃ b,v = .slice (some ⟨b,0,none⟩) l.length l.length ∧ b < w.heap.size ∧ ∀ i (h:i < l.length),w.cell? ⟨b,i * 2,none⟩ = some (.int .i64 l[i].1) ∧ w.cell? ⟨b,i * 2 + 1,none⟩ = some (.int .i64 l[i].2)
theorem drop_in {l:List IN} {i:Nat} (h:i < l.length):l.drop i = l[i] :: l.drop (i + 1):=by rw [List.drop_eq_getElem_cons h]
theorem blk_setA {w:World} {r:Nat} {arr:Array Value} {t:TypeId} (h:w.heap[r]? = some (.cells arr t (0,0))) (o:Nat) (u:Value) :
    (w.setCell ⟨r,o,none⟩ u).heap[r]? = some (.cells (arr.setIfInBounds o u) t (0,0)):=by
  have hlt:=lt_of_block h
  have h':w.heap[r] = .cells arr t (0,0):=by simpa [Array.getElem?_eq_getElem hlt] using h
  show (w.heap.modify r _)[r]? = _
  rw [Array.getElem?_eq_getElem (by simpa using hlt),Array.getElem_modify_self,h']
  rfl
theorem blk_cellA {w:World} {r:Nat} {arr:Array Value} {t:TypeId} (h:w.heap[r]? = some (.cells arr t (0,0))) (o:Nat):w.cell? ⟨r,o,none⟩ = arr[o]? ∧ w.frozen? ⟨r,o,none⟩ = false:=by
  constructor
  · simp [World.cell?,h]
  · simp [World.frozen?,h]
structure CW (w W wr:World) (mb:Nat):Prop where
  upon:Upon mb W wr
  size:w.heap.size < W.heap.size
  below:Below w.heap.size w W
  mb:w.heap.size < mb
theorem CW.low {w W wr:World} {mb:Nat} (h:CW w W wr mb):Below w.heap.size w wr:=h.below.trans (h.upon.below (Nat.le_of_lt h.size) (Nat.le_of_lt h.mb))
def L1Rel (w W:World) (mb:Nat) (ins:List IN) (v:Value) (wr:World):Prop :=
  ∃ (i:Nat) (env:Env) (L:List (ByteArray × Value)),v = .int .i64 (i:Int) ∧ i ≤ ins.length ∧ CW w W wr mb ∧ MapS wr mb L ∧ EnvIs L env ∧ inEnv (ins.drop i) env = env0 ins
def L3Rel (w W:World) (mb b:Nat) (env:Env) (L:List (ByteArray × Value)) (flows:List FL) (v:Value) (wr:World):Prop :=
  ∃ (i:Nat) (arr:Array Value),v = .int .i64 (i:Int) ∧ i ≤ flows.length ∧ Upon b W wr ∧ wr.heap[b]? = some (.cells arr 53 (0,0)) ∧ arr.size = flows.length * 2 ∧
    ∀ j (h:j < flows.length),j < i → arr[j * 2]? = some (.int .i64 (clkAt env flows[j].nm).1) ∧ arr[j * 2 + 1]? = some (.int .i64 (clkAt env flows[j].nm).2)
theorem InC.later {w wr:World} {b o:Nat} {f:IN} (h:InC w b o f) (hb:Below w.heap.size w wr) (hlt:b < w.heap.size):InC wr b o f:=inSta w wr b o f hb hlt h
theorem envNil:EnvIs [] (fun _ => none):=fun nm => rfl
theorem clockInfo:(Tryz.prog.info? 53).map (fun i => (i.zero,i.size,i.bytes)) = some (some (.agg #[.int .i64 0,.int .i64 0]),2,16):=by kernel_rfl
theorem make_clocks (n:Nat) (hn:n ≤ 1000) (w:World):(Instr.makeSlice 30 (.int .i64 (n:Int)) (.int .i64 (n:Int))).run Tryz.prog w = .ok (.slice (some ⟨w.heap.size,0,none⟩) n n) (w.alloc (.cells (madeCells #[.int .i64 0,.int .i64 0] (n * 2)) 53)):=by
  obtain ⟨i,hi,hzz⟩:=Option.map_eq_some_iff.1 clockInfo
  simp only [Prod.mk.injEq] at hzz
  obtain ⟨hz,hs,hb⟩:=hzz
  have hr:=run_make (P:=Tryz.prog) w 30 53 i _ Tryz.underlying30 hi hz .i64 .i64 n n oq (Int.le_refl _) (by rw [hb];omega) oq
  have hc:(Value.agg #[.int .i64 0,.int .i64 0]).cells = #[.int .i64 0,.int .i64 0]:=by first | rfl | simp [Value.cells]
  rw [hc,hs] at hr
  simpa using hr
theorem wpList_mk (w:World) {ops:Array Oper} {rest:List Oper} {o:Oper} {a:Act} {Q:Exit → Act → World → Prop} (hg:o.guard = none) (l c:Operand) (hop:o.op = Op.makeSlice 30 l c)
    (n:Nat) (hl:a.eval l = .int .i64 (n:Int)) (hc:a.eval c = .int .i64 (n:Int)) (hn:n ≤ 1000)
    (hK:wpList Tryz.prog ops Q rest (a.put o.dst (.slice (some ⟨w.heap.size,0,none⟩) n n)) (w.alloc (.cells (madeCells #[.int .i64 0,.int .i64 0] (n * 2)) 53))):wpList Tryz.prog ops Q (o :: rest) a w:=by
  refine wpList_plain hg fun K hK' => ?_
  have hrun:=make_clocks n hn w
  unfold Oper.wp
  simp [execOp,hop,hl,hc,hrun,Result.andThen]
  exact hK' _ _ hK
theorem made_size (n:Nat):(madeCells #[.int .i64 0,.int .i64 0] (n * 2)).size = n * 2:=size_madeCells _ _
def exE (k n d:Int) (nm:ByteArray) (len:Nat):Bool :=
  if k = 1 then nameOK nm && decide (len = 0) && decide (n = 0) && decide (d = 0)
  else if k = 2 then nameOK nm && decide (1 ≤ len) && decide (len ≤ 6) && decide (n = 0) && decide (d = 0)
  else if len ≠ 1 ∨ nm ≠ ⟨#[]⟩ ∨ (d ≠ 0 ∧ k ≠ 5) then false
  else if k = 3 ∨ k = 4 then inB n 1 100
  else if k = 5 then inB n 0 100 && inB d 1 100
  else if k = 6 ∨ k = 8 then inB n (-1000000000) 1000000000
  else decide (k = 7) && decide (n = 0)
def exR:PL → Bool
  | .nil => true
  | .cons k nm n d args _ tl => (exR args && exE k n d nm args.len) && exR tl
def exprOK (e:PE):Bool:=exR e.args && exE e.k e.n e.d e.nm e.args.len
def ExprSaid (e:PE):Prop:=∀ (w:World) (ad:Option Addr) (cap:Nat),AE w e ad cap →
  Calls Tryz.prog 28 #[ev e ad cap] w fun x w' => x = .returned (.bool (exprOK e)) ∧ Below w.heap.size w w'
def ExRel (w:World) (e:PE) (ad:Option Addr) (cap:Nat) (v3:Value) (wr:World):Prop :=
  ∃ (i:Nat) (rest:PL),v3 = .int .i64 (i:Int) ∧ Rest wr ad e.args rest i ∧ exR rest = exR e.args ∧
    wr.heap[w.heap.size]? = some (.cells #[.int .i64 e.k,.string e.nm,.int .i64 e.n,.int .i64 e.d,.slice ad e.args.len cap,.int .i64 e.a] 46 (0,0)) ∧ Below w.heap.size w wr
theorem ne_data {nm:ByteArray} (he:nm ≠ ⟨#[]⟩):nm.data.toList ≠ []:=by
  intro h;apply he
  obtain ⟨⟨l⟩⟩:=nm
  simp at h;subst h;rfl
theorem exE_len {k n d:Int} {nm:ByteArray} {len:Nat} (h1:k ≠ 1) (h2:k ≠ 2) (h:len ≠ 1):exE k n d nm len = false:=by
  unfold exE;rw [if_neg h1,if_neg h2,if_pos (Or.inl h)]
theorem exE_nm {k n d:Int} {nm:ByteArray} {len:Nat} (h1:k ≠ 1) (h2:k ≠ 2) (h:nm ≠ ⟨#[]⟩):exE k n d nm len = false:=by
  unfold exE;rw [if_neg h1,if_neg h2,if_pos (Or.inr (Or.inl h))]
end Go.Proofs.YteaiemfhlpoieaaGreatDoor.syn
