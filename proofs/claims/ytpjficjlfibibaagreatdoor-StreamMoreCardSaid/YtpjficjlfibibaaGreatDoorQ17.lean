/-
  Parts of the proof: Chk11, Chk12, Ref4c, ChkP.
-/
import Derived.Deep.OwnRows
import Derived.Test.YtpjficjlfibibaaGreatDoorQ16
import Derived.Deep.DeepCutAuto
import Derived.Deep.CutBlock
import Derived.Test.YtpjficjlfibibaaGreatDoorQ03
namespace Go.Proofs.YtpjficjlfibibaaGreatDoor.syn
open Go.RowKit
set_option linter.unusedVariables false
set_option linter.unusedSimpArgs false
def inEnv:List IN → Env → Env
 | [],e => e
 | x :: l,e => inEnv l (upd e x.nm (x.per,x.ph))
def env0 (ins:List IN):Env:=inEnv ins (fun _ => none)
def clkAt (env:Env) (nm:ByteArray):Int × Int:=(env nm).getD (0,0)
def ClkRow (w:World) (v:Value) (l:List (Int × Int)):Prop :=
 ∃ b,v = .slice (some ⟨b,0,none⟩) l.length l.length ∧ b < w.heap.size ∧ ∀ i (h:i < l.length),w.cell? ⟨b,i * 2,none⟩ = some (.int .i64 l[i].1) ∧ w.cell? ⟨b,i * 2 + 1,none⟩ = some (.int .i64 l[i].2)
theorem drop_in {l:List IN} {i:Nat} (h:i < l.length):l.drop i = l[i] :: l.drop (i + 1):=by rw [List.drop_eq_getElem_cons h]
theorem blk_setA {w:World} {r:Nat} {arr:Array Value} {t:TypeId} (h:w.heap[r]? = some (.cells arr t (0,0))) (o:Nat) (u:Value) :
  (w.setCell ⟨r,o,none⟩ u).heap[r]? = some (.cells (arr.setIfInBounds o u) t (0,0)):=by
 have hlt:=lt_of_block h
 have h':w.heap[r] = .cells arr t (0,0):=by simpa [Array.getElem?_eq_getElem hlt] using h
 show (w.heap.modify r _)[r]? = _
 rw [Array.getElem?_eq_getElem (by simpa using hlt),Array.getElem_modify_self,h']
 rfl
theorem blk_cellA {w:World} {r:Nat} {arr:Array Value} {t:TypeId} (h:w.heap[r]? = some (.cells arr t (0,0))) (o:Nat):w.cell? ⟨r,o,none⟩ = arr[o]? ∧ w.frozen? ⟨r,o,none⟩ = false:=by
 constructor
 ·simp [World.cell?,h]
 ·simp [World.frozen?,h]
structure CW (w W wr:World) (mb:Nat):Prop where
 upon:Upon mb W wr
 size:w.heap.size < W.heap.size
 below:Below w.heap.size w W
 mb:w.heap.size < mb
theorem CW.low {w W wr:World} {mb:Nat} (h:CW w W wr mb):Below w.heap.size w wr:=h.below.trans (h.upon.below (Nat.le_of_lt h.size) (Nat.le_of_lt h.mb))
def L1Rel (w W:World) (mb:Nat) (ins:List IN) (v:Value) (wr:World):Prop :=
 ∃ (i:Nat) (env:Env) (L:List (ByteArray × Value)),v = .int .i64 (i:Int) ∧ i ≤ ins.length ∧ CW w W wr mb ∧ MapS wr mb L ∧ EnvIs L env ∧ inEnv (ins.drop i) env = env0 ins
def L3Rel (w W:World) (mb b:Nat) (env:Env) (L:List (ByteArray × Value)) (flows:List FL) (v:Value) (wr:World):Prop :=
 ∃ (i:Nat) (arr:Array Value),v = .int .i64 (i:Int) ∧ i ≤ flows.length ∧ Upon b W wr ∧ wr.heap[b]? = some (.cells arr 49 (0,0)) ∧ arr.size = flows.length * 2 ∧
  ∀ j (h:j < flows.length),j < i → arr[j * 2]? = some (.int .i64 (clkAt env flows[j].nm).1) ∧ arr[j * 2 + 1]? = some (.int .i64 (clkAt env flows[j].nm).2)
theorem InC.later {w wr:World} {b o:Nat} {f:IN} (h:InC w b o f) (hb:Below w.heap.size w wr) (hlt:b < w.heap.size):InC wr b o f:=inSta w wr b o f hb hlt h
theorem envNil:EnvIs [] (fun _ => none):=fun nm => rfl
theorem clockInfo:(Tryz.prog.info? 49).map (fun i => (i.zero,i.size,i.bytes)) = some (some (.agg #[.int .i64 0,.int .i64 0]),2,16):=by kernel_rfl
theorem make_clocks (n:Nat) (hn:n ≤ 1000) (w:World):(Instr.makeSlice 32 (.int .i64 (n:Int)) (.int .i64 (n:Int))).run Tryz.prog w = .ok (.slice (some ⟨w.heap.size,0,none⟩) n n) (w.alloc (.cells (madeCells #[.int .i64 0,.int .i64 0] (n * 2)) 49)):=by
 obtain ⟨i,hi,hzz⟩:=Option.map_eq_some_iff.1 clockInfo
 simp only [Prod.mk.injEq] at hzz
 obtain ⟨hz,hs,hb⟩:=hzz
 have hr:=run_make (P:=Tryz.prog) w 32 49 i _ Tryz.underlying32 hi hz .i64 .i64 n n oq (Int.le_refl _) (by rw [hb];omega) oq
 have hc:(Value.agg #[.int .i64 0,.int .i64 0]).cells = #[.int .i64 0,.int .i64 0]:=by first | rfl | simp [Value.cells]
 rw [hc,hs] at hr
 simpa using hr
theorem wpList_mk (w:World) {ops:Array Oper} {rest:List Oper} {o:Oper} {a:Act} {Q:Exit → Act → World → Prop} (hg:o.guard = none) (l c:Operand) (hop:o.op = Op.makeSlice 32 l c)
  (n:Nat) (hl:a.eval l = .int .i64 (n:Int)) (hc:a.eval c = .int .i64 (n:Int)) (hn:n ≤ 1000)
  (hK:wpList Tryz.prog ops Q rest (a.put o.dst (.slice (some ⟨w.heap.size,0,none⟩) n n)) (w.alloc (.cells (madeCells #[.int .i64 0,.int .i64 0] (n * 2)) 49))):wpList Tryz.prog ops Q (o :: rest) a w:=by
 refine wpList_plain hg fun K hK' => ?_
 have hrun:=make_clocks n hn w
 unfold Oper.wp
 simp [execOp,hop,hl,hc,hrun,Result.andThen]
 exact hK' _ _ hK
theorem made_size (n:Nat):(madeCells #[.int .i64 0,.int .i64 0] (n * 2)).size = n * 2:=size_madeCells _ _
def exE (k n d:Int) (nm:ByteArray) (len:Nat):Bool :=
 if k = 1 then nameOK nm && decide (len = 0) && decide (n = 0) && decide (d = 0)
 else if k = 2 then nameOK nm && decide (1 ≤ len) && decide (len ≤ 6) && decide (n = 0) && decide (d = 0)
 else if len ≠ 1 ∨ nm ≠ ⟨#[]⟩ ∨ (d ≠ 0 ∧ k ≠ 5) then false
 else if k = 3 ∨ k = 4 then inB n 1 100
 else if k = 5 then inB n 0 100 && inB d 1 100
 else if k = 6 ∨ k = 8 then inB n (-1000000000) 1000000000
 else decide (k = 7) && decide (n = 0)
def exR:PL → Bool
 | .nil => true
 | .cons k nm n d args _ tl => (exR args && exE k n d nm args.len) && exR tl
def exprOK (e:PE):Bool:=exR e.args && exE e.k e.n e.d e.nm e.args.len
def ExprSaid (e:PE):Prop:=∀ (w:World) (ad:Option Addr) (cap:Nat),AE w e ad cap →
 Calls Tryz.prog 39 #[ev e ad cap] w fun x w' => x = .returned (.bool (exprOK e)) ∧ Below w.heap.size w w'
def ExRel (w:World) (e:PE) (ad:Option Addr) (cap:Nat) (v3:Value) (wr:World):Prop :=
 ∃ (i:Nat) (rest:PL),v3 = .int .i64 (i:Int) ∧ Rest wr ad e.args rest i ∧ exR rest = exR e.args ∧
  wr.heap[w.heap.size]? = some (.cells #[.int .i64 e.k,.string e.nm,.int .i64 e.n,.int .i64 e.d,.slice ad e.args.len cap,.int .i64 e.a] 95 (0,0)) ∧ Below w.heap.size w wr
theorem ne_data {nm:ByteArray} (he:nm ≠ ⟨#[]⟩):nm.data.toList ≠ []:=by
 intro h;apply he
 obtain ⟨⟨l⟩⟩:=nm
 simp at h;subst h;rfl
theorem exE_len {k n d:Int} {nm:ByteArray} {len:Nat} (h1:k ≠ 1) (h2:k ≠ 2) (h:len ≠ 1):exE k n d nm len = false:=by
 unfold exE;rw [if_neg h1,if_neg h2,if_pos (Or.inl h)]
theorem exE_nm {k n d:Int} {nm:ByteArray} {len:Nat} (h1:k ≠ 1) (h2:k ≠ 2) (h:nm ≠ ⟨#[]⟩):exE k n d nm len = false:=by
 unfold exE;rw [if_neg h1,if_neg h2,if_pos (Or.inr (Or.inl h))]
set_option maxRecDepth 100000 in
set_option maxHeartbeats 4000000 in
theorem expr_step (e:PE) (ih:∀ e':PE,e'.args.sz < e.args.sz → ExprSaid e'):ExprSaid e:=by
 intro w ad cap hae
 obtain ⟨k,nm,n,d,args,a⟩:=e
 have hlen:=hae.len
 have hnm:=hae.nums.2.2.2.2
 simp only at hlen hnm
 have HAE:=hid hae
 have HIH:=hid ih
 clear hae ih
 unfold ev
 simp only
 obtain ⟨fin,hfin⟩:∃ fin,exprOK ⟨k,nm,n,d,args,a⟩ = fin:=⟨_,rfl⟩
 rw [hfin]
 have HF:=hid (show (exR args && exE k n d nm args.len) = fin from hfin)
 clear hfin
 go_enter Tryz.func39,Tryz.ntmps39
 go_wp2
 go_loopw [3] (fun v3 wr => Hid (ExRel w ⟨k,nm,n,d,args,a⟩ ad cap v3 wr)) (fun i _ => args.len - (intOf i).toNat)
 case atStart => exact ⟨0,args,rfl,(Rest.start HAE.out.args).below bq,rfl,heap_new w _,bq⟩
 case round =>
  obtain ⟨i,rest,rfl,hrest,hsz,hbox,hbel⟩:=hrel.out
  clear hrel
  obtain ⟨⟨x0,x1,x2,x3,x4,x5⟩,xf⟩:=cells6' hbox
  have HBOX:=hid hbox
  have HBEL:=hid hbel
  have hil:=hrest.1
  simp only at hil
  have hbl:=lt_of_block hbox
  have hsB:=hbel.size
  have HR:=hid hrest
  clear hbox hbel hrest
  cases rest with
  | cons k1 nm1 n1 d1 args1 a1 tl =>
   have HSZ:=hid hsz
   clear hsz
   have hil':(i:Int) < (args.len:Int):=by simp only [PL.len] at hil;omega
   obtain ⟨b,o,rfl,hb,h0,h1,h2,h3,h5,hn,⟨ad1,cap1,h4,hcap1,hcm1,hd1⟩,ht⟩:=HR.out.2.2.resolve_left (by intro h;cases h)
   have hsub:=HR.out.2.1
   simp only [PL.sz] at hsub
   have HC:=hid (HIH.out ⟨k1,nm1,n1,d1,args1,a1⟩ (by show args1.sz < args.sz;omega) wr ad1 cap1 ⟨hn,⟨hcap1,hcm1⟩,hd1⟩)
   unfold ev at HC
   simp only at HC
   cases hbb:exprOK ⟨k1,nm1,n1,d1,args1,a1⟩ with
   | true =>
    rw [hbb] at HC
    have HS2:=hid (show exR tl = exR args from by
     have h:=HSZ.out
     rw [exR,show (exR args1 && exE k1 n1 d1 nm1 args1.len) = true from hbb,Bool.true_and] at h
     exact h)
    clear hbb ht hn hd1
    go_wp2_with (go_at_call 39;refine HC.out.mono ?_;rintro e w2 ⟨rfl,hb2⟩)
    go_roundw
    case rel => exact ⟨i + 1,tl,by go_num,HR.out.tail.below hb2,HS2.out,(hb2.block _ hbl).trans HBOX.out,bq⟩
    case measure => simp [intOf];omega
   | false =>
    rw [hbb] at HC
    have HS2:=hid (show exR args = false from by
     have h:=HSZ.out
     rw [exR,show (exR args1 && exE k1 n1 d1 nm1 args1.len) = false from hbb,Bool.false_and] at h
     exact h.symm)
    clear hbb ht hn hd1
    go_wp2_with (go_at_call 39;refine HC.out.mono ?_;rintro e w2 ⟨rfl,hb2⟩)
    go_ret
    exact ⟨ret_bool (by rw [← HF.out,HS2.out];rfl),bq⟩
  | nil =>
   obtain rfl:i = args.len:=by simp only [PL.len] at hil;omega
   have HSZ:=hid (show true = exR args from hsz)
   have HRI:=hid (fun w => right_any nm w hnm)
   have HN1:=hid (fun w => number_ref n 1 100 w)
   have HN2:=hid (fun w => number_ref n 0 100 w)
   have HN3:=hid (fun w => number_ref n (-1000000000) 1000000000 w)
   have HD1:=hid (fun w => number_ref d 1 100 w)
   clear hsz hil
   obtain ⟨wo,rfl⟩:∃ wo:World,wo = wr:=⟨_,rfl⟩
   obtain ⟨pl,hpl⟩:∃ pl,decide (n = 0 ∧ d = 0) = pl:=⟨_,rfl⟩
   go_upto_region 6 with fail
   go_cut [4] (fun s4 W => Hid (s4 = .bool pl ∧ W = wo))
   case first =>
    by_cases hn0:n = 0
    ·by_cases hd0:d = 0
     ·obtain rfl:pl = true:=hpl.symm.trans (decide_eq_true ⟨hn0,hd0⟩)
      subst hn0
      subst hd0
      go_wp2_with fail
      go_meet
      exact hid ⟨rfl,rfl⟩
     ·obtain rfl:pl = false:=hpl.symm.trans (decide_eq_false (fun h => hd0 h.2))
      have hd1:(d == 0) = false:=beq_eq_false_iff_ne.2 hd0
      subst hn0
      go_wp2_with fail
      go_meet
      exact hid ⟨rfl,rfl⟩
    ·obtain rfl:pl = false:=hpl.symm.trans (decide_eq_false (fun h => hn0 h.1))
     have hn1:(n == 0) = false:=beq_eq_false_iff_ne.2 hn0
     go_wp2_with fail
     go_meet
     exact hid ⟨rfl,rfl⟩
   case rest =>
    obtain ⟨rfl,rfl⟩:=hcut.out
    clear hcut
    have HPL:=hid hpl
    clear hpl
    by_cases hk1:k = 1
    ·subst hk1
     cases hno:nameOK nm <;> by_cases hl0:args.len = 0
     all_goals (rw [hno] at HRI;first | have hl1:((args.len:Int) == 0) = true:=(by rw [beq_iff_eq];omega) | have hl1:((args.len:Int) == 0) = false:=(by rw [beq_eq_false_iff_ne];omega))
     all_goals (have HL:=hid hl0;clear hl0;go_wp2_with (first | (go_at_call 34;refine (HRI.out _).mono ?_;rintro e w2 ⟨rfl,hb2⟩;obtain ⟨hc2,hf2⟩:=bcell hb2;have HB2:=hid hb2;clear hb2) | (go_at_call 35;(with_reducible refine (HN2.out _).mono ?_);rintro e w2 ⟨rfl,rfl⟩) | (go_at_call 35;(with_reducible refine (HN3.out _).mono ?_);rintro e w2 ⟨rfl,rfl⟩) | (go_at_call 35;(with_reducible refine (HN1.out _).mono ?_);rintro e w2 ⟨rfl,rfl⟩) | (go_at_call 35;(with_reducible refine (HD1.out _).mono ?_);rintro e w2 ⟨rfl,rfl⟩));all_goals (first | (exfalso;have hl_:=HL.out;omega) | (go_ret;exact ⟨ret_bool (by rw [← HF.out,← HSZ.out];first | (rw [← HPL.out];simp [exE,hno,HL.out];done) | simp [exE,hno,HL.out]),bq⟩)))
    ·have hk1':(k == 1) = false:=beq_eq_false_iff_ne.2 hk1
     by_cases hk2:k = 2
     ·subst hk2
      cases hno:nameOK nm <;> by_cases hl0:1 ≤ args.len <;> by_cases hl6:args.len ≤ 6
      all_goals (rw [hno] at HRI;have HL:=hid (And.intro hl0 hl6);first | (have hl1:(1:Int) ≤ (args.len:Int):=oq) | (have hl1:(args.len:Int) < 1:=oq;have hl3:decide ((1:Int) ≤ (args.len:Int)) = false:=(by simpa using hl1)))
      all_goals (first | (have hl2:(args.len:Int) ≤ 6:=oq) | (have hl2:(6:Int) < (args.len:Int):=oq;have hl4:decide ((args.len:Int) ≤ 6) = false:=(by simpa using hl2)))
      all_goals (clear hl0 hl6;go_wp2_with (first | (go_at_call 34;refine (HRI.out _).mono ?_;rintro e w2 ⟨rfl,hb2⟩;obtain ⟨hc2,hf2⟩:=bcell hb2;have HB2:=hid hb2;clear hb2) | (go_at_call 35;(with_reducible refine (HN2.out _).mono ?_);rintro e w2 ⟨rfl,rfl⟩) | (go_at_call 35;(with_reducible refine (HN3.out _).mono ?_);rintro e w2 ⟨rfl,rfl⟩) | (go_at_call 35;(with_reducible refine (HN1.out _).mono ?_);rintro e w2 ⟨rfl,rfl⟩) | (go_at_call 35;(with_reducible refine (HD1.out _).mono ?_);rintro e w2 ⟨rfl,rfl⟩));all_goals (first | (exfalso;have hl_:=HL.out;omega) | (go_ret;exact ⟨ret_bool (by rw [← HF.out,← HSZ.out];first | (rw [← HPL.out];simp [exE,hno,HL.out.1,HL.out.2];done) | simp [exE,hno,HL.out.1,HL.out.2]),bq⟩)))
     ·have hk2':(k == 2) = false:=beq_eq_false_iff_ne.2 hk2
      by_cases hl0:args.len = 1
      ·have hl1:((args.len:Int) == 1) = true:=by rw [beq_iff_eq];omega
       have HL:=hid hl0
       clear hl0
       by_cases he:nm = ⟨#[]⟩
       ·subst he
        have fin1:∀ b:Bool,(if k = 3 ∨ k = 4 then inB n 1 100 else if k = 5 then inB n 0 100 && inB d 1 100 else if k = 6 ∨ k = 8 then inB n (-1000000000) 1000000000 else decide (k = 7) && decide (n = 0)) = b → ¬ (d ≠ 0 ∧ k ≠ 5) → b = fin:=fun b hb hd => by
         have hc:¬ (args.len ≠ 1 ∨ (⟨#[]⟩:ByteArray) ≠ ⟨#[]⟩ ∨ (d ≠ 0 ∧ k ≠ 5)):=fun h => by
          rcases h with h | h | h
          ·exact h HL.out
          ·exact h rfl
          ·exact hd h
         rw [← HF.out,← HSZ.out,Bool.true_and]
         unfold exE
         rw [if_neg hk1,if_neg hk2,if_neg hc]
         exact hb.symm
        have FIN:=hid fin1
        clear fin1
        by_cases hk5:k = 5
        ·subst hk5
         cases hib:inB n 0 100 <;> by_cases hd0:d = 0
         all_goals (rw [hib] at HN2;first | have hd1:(d == 0) = false:=beq_eq_false_iff_ne.2 hd0 | subst hd0)
         all_goals (go_wp2_with (first | (go_at_call 34;refine (HRI.out _).mono ?_;rintro e w2 ⟨rfl,hb2⟩;obtain ⟨hc2,hf2⟩:=bcell hb2;have HB2:=hid hb2;clear hb2) | (go_at_call 35;(with_reducible refine (HN2.out _).mono ?_);rintro e w2 ⟨rfl,rfl⟩) | (go_at_call 35;(with_reducible refine (HN3.out _).mono ?_);rintro e w2 ⟨rfl,rfl⟩) | (go_at_call 35;(with_reducible refine (HN1.out _).mono ?_);rintro e w2 ⟨rfl,rfl⟩) | (go_at_call 35;(with_reducible refine (HD1.out _).mono ?_);rintro e w2 ⟨rfl,rfl⟩));all_goals (first | (exfalso;have hl_:=HL.out;omega) | (go_ret;exact ⟨ret_bool (FIN.out _ (by simp [hib]) (by simp)),bq⟩)))
        ·have hk5':(k == 5) = false:=beq_eq_false_iff_ne.2 hk5
         by_cases hd0:d = 0
         ·subst hd0
          by_cases hk3:k = 3
          ·subst hk3
           go_wp2_with (first | (go_at_call 34;refine (HRI.out _).mono ?_;rintro e w2 ⟨rfl,hb2⟩;obtain ⟨hc2,hf2⟩:=bcell hb2;have HB2:=hid hb2;clear hb2) | (go_at_call 35;(with_reducible refine (HN2.out _).mono ?_);rintro e w2 ⟨rfl,rfl⟩) | (go_at_call 35;(with_reducible refine (HN3.out _).mono ?_);rintro e w2 ⟨rfl,rfl⟩) | (go_at_call 35;(with_reducible refine (HN1.out _).mono ?_);rintro e w2 ⟨rfl,rfl⟩) | (go_at_call 35;(with_reducible refine (HD1.out _).mono ?_);rintro e w2 ⟨rfl,rfl⟩))
           all_goals (first | (exfalso;have hl_:=HL.out;omega) | (go_ret;exact ⟨ret_bool (FIN.out _ (by simp) (by simp)),bq⟩))
          ·have hk3':(k == 3) = false:=beq_eq_false_iff_ne.2 hk3
           by_cases hk4:k = 4
           ·subst hk4
            go_wp2_with (first | (go_at_call 34;refine (HRI.out _).mono ?_;rintro e w2 ⟨rfl,hb2⟩;obtain ⟨hc2,hf2⟩:=bcell hb2;have HB2:=hid hb2;clear hb2) | (go_at_call 35;(with_reducible refine (HN2.out _).mono ?_);rintro e w2 ⟨rfl,rfl⟩) | (go_at_call 35;(with_reducible refine (HN3.out _).mono ?_);rintro e w2 ⟨rfl,rfl⟩) | (go_at_call 35;(with_reducible refine (HN1.out _).mono ?_);rintro e w2 ⟨rfl,rfl⟩) | (go_at_call 35;(with_reducible refine (HD1.out _).mono ?_);rintro e w2 ⟨rfl,rfl⟩))
            all_goals (first | (exfalso;have hl_:=HL.out;omega) | (go_ret;exact ⟨ret_bool (FIN.out _ (by simp) (by simp)),bq⟩))
           ·have hk4':(k == 4) = false:=beq_eq_false_iff_ne.2 hk4
            by_cases hk6:k = 6
            ·subst hk6
             go_wp2_with (first | (go_at_call 34;refine (HRI.out _).mono ?_;rintro e w2 ⟨rfl,hb2⟩;obtain ⟨hc2,hf2⟩:=bcell hb2;have HB2:=hid hb2;clear hb2) | (go_at_call 35;(with_reducible refine (HN2.out _).mono ?_);rintro e w2 ⟨rfl,rfl⟩) | (go_at_call 35;(with_reducible refine (HN3.out _).mono ?_);rintro e w2 ⟨rfl,rfl⟩) | (go_at_call 35;(with_reducible refine (HN1.out _).mono ?_);rintro e w2 ⟨rfl,rfl⟩) | (go_at_call 35;(with_reducible refine (HD1.out _).mono ?_);rintro e w2 ⟨rfl,rfl⟩))
             all_goals (first | (exfalso;have hl_:=HL.out;omega) | (go_ret;exact ⟨ret_bool (FIN.out _ (by simp) (by simp)),bq⟩))
            ·have hk6':(k == 6) = false:=beq_eq_false_iff_ne.2 hk6
             by_cases hk8:k = 8
             ·subst hk8
              go_wp2_with (first | (go_at_call 34;refine (HRI.out _).mono ?_;rintro e w2 ⟨rfl,hb2⟩;obtain ⟨hc2,hf2⟩:=bcell hb2;have HB2:=hid hb2;clear hb2) | (go_at_call 35;(with_reducible refine (HN2.out _).mono ?_);rintro e w2 ⟨rfl,rfl⟩) | (go_at_call 35;(with_reducible refine (HN3.out _).mono ?_);rintro e w2 ⟨rfl,rfl⟩) | (go_at_call 35;(with_reducible refine (HN1.out _).mono ?_);rintro e w2 ⟨rfl,rfl⟩) | (go_at_call 35;(with_reducible refine (HD1.out _).mono ?_);rintro e w2 ⟨rfl,rfl⟩))
              all_goals (first | (exfalso;have hl_:=HL.out;omega) | (go_ret;exact ⟨ret_bool (FIN.out _ (by simp) (by simp)),bq⟩))
             ·have hk8':(k == 8) = false:=beq_eq_false_iff_ne.2 hk8
              by_cases hk7:k = 7 <;> by_cases hn0:n = 0
              all_goals (first | have hk7':(k == 7) = false:=beq_eq_false_iff_ne.2 hk7 | subst hk7)
              all_goals (first | have hn1:(n == 0) = false:=beq_eq_false_iff_ne.2 hn0 | subst hn0)
              all_goals (go_wp2_with (first | (go_at_call 34;refine (HRI.out _).mono ?_;rintro e w2 ⟨rfl,hb2⟩;obtain ⟨hc2,hf2⟩:=bcell hb2;have HB2:=hid hb2;clear hb2) | (go_at_call 35;(with_reducible refine (HN2.out _).mono ?_);rintro e w2 ⟨rfl,rfl⟩) | (go_at_call 35;(with_reducible refine (HN3.out _).mono ?_);rintro e w2 ⟨rfl,rfl⟩) | (go_at_call 35;(with_reducible refine (HN1.out _).mono ?_);rintro e w2 ⟨rfl,rfl⟩) | (go_at_call 35;(with_reducible refine (HD1.out _).mono ?_);rintro e w2 ⟨rfl,rfl⟩));all_goals (first | (exfalso;have hl_:=HL.out;omega) | (exfalso;rename_i hx;have hx_:=eq_of_beq hx;omega) | (go_ret;exact ⟨ret_bool (FIN.out _ (by simp [*]) (by simp)),bq⟩)))
         ·have hd1:(d == 0) = false:=beq_eq_false_iff_ne.2 hd0
          have hd2:(d != 0) = true:=bne_iff_ne.2 hd0
          have hk52:(k != 5) = true:=bne_iff_ne.2 hk5
          go_wp2_with (first | (go_at_call 34;refine (HRI.out _).mono ?_;rintro e w2 ⟨rfl,hb2⟩;obtain ⟨hc2,hf2⟩:=bcell hb2;have HB2:=hid hb2;clear hb2) | (go_at_call 35;(with_reducible refine (HN2.out _).mono ?_);rintro e w2 ⟨rfl,rfl⟩) | (go_at_call 35;(with_reducible refine (HN3.out _).mono ?_);rintro e w2 ⟨rfl,rfl⟩) | (go_at_call 35;(with_reducible refine (HN1.out _).mono ?_);rintro e w2 ⟨rfl,rfl⟩) | (go_at_call 35;(with_reducible refine (HD1.out _).mono ?_);rintro e w2 ⟨rfl,rfl⟩))
          all_goals (first | (exfalso;have hl_:=HL.out;omega) | (go_ret;exact ⟨ret_bool (by rw [← HF.out,← HSZ.out];simp [exE,hk1,hk2,hd0,hk5]),bq⟩))
       ·have he0:nm.data.toList ≠ []:=ne_data he
        have he1:nm.toList.isEmpty = false:=by rw [Lib.toList_data];simpa using he0
        have he2:¬ nm.toList = []:=by rw [Lib.toList_data];exact he0
        have HE:=hid he
        clear he he0
        go_wp2_with (first | (go_at_call 34;refine (HRI.out _).mono ?_;rintro e w2 ⟨rfl,hb2⟩;obtain ⟨hc2,hf2⟩:=bcell hb2;have HB2:=hid hb2;clear hb2) | (go_at_call 35;(with_reducible refine (HN2.out _).mono ?_);rintro e w2 ⟨rfl,rfl⟩) | (go_at_call 35;(with_reducible refine (HN3.out _).mono ?_);rintro e w2 ⟨rfl,rfl⟩) | (go_at_call 35;(with_reducible refine (HN1.out _).mono ?_);rintro e w2 ⟨rfl,rfl⟩) | (go_at_call 35;(with_reducible refine (HD1.out _).mono ?_);rintro e w2 ⟨rfl,rfl⟩))
        all_goals (first | (exfalso;have hl_:=HL.out;omega) | (go_ret;exact ⟨ret_bool (by rw [← HF.out,← HSZ.out];rw [exE_nm hk1 hk2 HE.out];rfl),bq⟩))
      ·have hl1:((args.len:Int) == 1) = false:=by rw [beq_eq_false_iff_ne];omega
       have HL:=hid hl0
       clear hl0
       go_wp2_with (first | (go_at_call 34;refine (HRI.out _).mono ?_;rintro e w2 ⟨rfl,hb2⟩;obtain ⟨hc2,hf2⟩:=bcell hb2;have HB2:=hid hb2;clear hb2) | (go_at_call 35;(with_reducible refine (HN2.out _).mono ?_);rintro e w2 ⟨rfl,rfl⟩) | (go_at_call 35;(with_reducible refine (HN3.out _).mono ?_);rintro e w2 ⟨rfl,rfl⟩) | (go_at_call 35;(with_reducible refine (HN1.out _).mono ?_);rintro e w2 ⟨rfl,rfl⟩) | (go_at_call 35;(with_reducible refine (HD1.out _).mono ?_);rintro e w2 ⟨rfl,rfl⟩))
       all_goals (first | (exfalso;have hl_:=HL.out;omega) | (go_ret;exact ⟨ret_bool (by rw [← HF.out,← HSZ.out];rw [exE_len hk1 hk2 HL.out];rfl),bq⟩))
theorem expr_ref (e:PE):ExprSaid e:=by
 suffices h:∀ (N:Nat) (e:PE),e.args.sz < N → ExprSaid e from h _ e (Nat.lt_succ_self _)
 intro N
 induction N with
 | zero => intro e h;omega
 | succ N ih => intro e h;exact expr_step e (fun e' h' => ih e' oq)
theorem szL_sz:∀ (l:PL) (n most:Int),1 ≤ n → n ≤ most + 1 → szL l n most ≤ most → szL l n most = n + (l.sz:Int):=by
 intro l
 induction l with
 | nil => intro n most h1 h2 h3;simp only [szL,PL.sz];omega
 | cons k nm n' d args a tl ih1 ih2 =>
  intro n most h1 h2 h3
  rw [szL] at h3 ⊢
  by_cases h:n ≤ most
  ·rw [if_pos h] at h3 ⊢
   have b1:=szL_bd args 1 (most - n) oq oq
   have b2:=szL_bd tl (n + szL args 1 (most - n)) most oq oq
   have e1:=ih1 1 (most - n) oq oq oq
   have e2:=ih2 (n + szL args 1 (most - n)) most oq oq h3
   rw [e2,e1]
   simp only [PL.sz];omega
  ·rw [if_neg h] at h3;omega
end Go.Proofs.YtpjficjlfibibaaGreatDoor.syn
