/-
  Parts of the proof: Rgt3, Rgt4, OrdP.
-/
import Derived.Deep.QuietTactic
import Derived.Test.YtpjficjlfibibaaGreatDoorQ28
import Derived.Lib.SlicesCompact
import Derived.Test.YtpjficjlfibibaaGreatDoorQ11
namespace Go.Proofs.YtpjficjlfibibaaGreatDoor.syn
open Go.RowKit Go.Shelf
set_option linter.unusedVariables false
set_option linter.unusedSimpArgs false
def taskP (f:FD) (t:TD):Bool:=match (if t.node < 0 then none else f.nods[t.node.toNat]?) with
 | none => false
 | some n => decide (t.args.length ≠ 0) && (decide (t.args.length = n.nps) && t.args.all (fun a => fitsP f a t.per t.ph))
theorem all_takeR {α:Type} {f:α → Bool} {l:List α} {j:Nat} (h:j < l.length):(l.take (j + 1)).all f = ((l.take j).all f && f l[j]):=by
 rw [List.take_succ_eq_append_getElem h,List.all_append]
 simp only [List.all_cons,List.all_nil,Bool.and_true]
theorem task_none {f:FD} {t:TD} (h:t.node < 0 ∨ (f.nods.length:Int) ≤ t.node):taskP f t = false:=by
 unfold taskP
 rcases h with h | h
 ·rw [if_pos h]
 ·by_cases h0:t.node < 0
  ·rw [if_pos h0]
  ·rw [if_neg h0,List.getElem?_eq_none oq]
theorem task_some {f:FD} {t:TD} {k:Nat} (hk:k < f.nods.length) (h:t.node = (k:Int)):taskP f t = (decide (t.args.length ≠ 0) && (decide (t.args.length = f.nods[k].nps) && t.args.all (fun a => fitsP f a t.per t.ph))):=by
 unfold taskP
 rw [h,if_neg oq,Int.toNat_natCast,List.getElem?_eq_getElem hk]
set_option maxRecDepth 100000 in
set_option maxHeartbeats 4000000 in
theorem rightTask_any {w:World} (f:FD) (ai an aT al:Option Addr) (ci cn ct cl:Nat) (hf:FAP w f ai an aT al) (t:TD) (ad:Option Addr) (cap:Nat) (hr:Row ArgR 2 w t.args ad) (hl:t.args.length ≤ 1000) (ha:∀ a ∈ t.args,a.ops.length ≤ 1000 ∧ I64 a.src) :
  Calls Tryz.prog 69 #[fv f ai an aT al ci cn ct cl,.agg #[.int .i64 t.node,.int .i64 t.per,.int .i64 t.ph,.slice ad t.args.length cap]] w fun x w' => x = .returned (.bool (taskP f t)) ∧ Below w.heap.size w w':=by
 have hlens:=hf.lens
 have HCO:=hid (fun (w':World) (hb:Below w.heap.size w w') (a:AD) ad2 cap2 (hra:Row OpR 3 w' a.ops ad2) (h1:a.ops.length ≤ 1000 ∧ I64 a.src) => comes_any (w:=w') f ai an aT al ci cn ct cl (hf.below hb) a ad2 cap2 t.per t.ph h1.2 hra h1.1)
 have HND:=hid hf.nods
 have HR:=hid hr
 have HA:=hid ha
 obtain ⟨ans,hans⟩:∃ ans,taskP f t = ans:=⟨_,rfl⟩
 rw [hans]
 obtain ⟨nd,hnd⟩:∃ nd,t.node = nd:=⟨_,rfl⟩
 have HND2:=hid hnd
 rw [hnd]
 clear hf hr ha hnd
 unfold fv at *
 go_enter Tryz.func69,Tryz.ntmps69
 go_upto_region 1 with fail
 obtain ⟨W2,hW2⟩:∃ W2,(w.alloc (.cells #[.slice ai f.ins.length ci,.slice an f.nods.length cn,.slice aT f.tasks.length ct,.slice al f.tells.length cl] 36)).alloc (.cells #[.int .i64 nd,.int .i64 t.per,.int .i64 t.ph,.slice ad t.args.length cap] 100) = W2:=⟨_,rfl⟩
 rw [hW2]
 have hB:Below w.heap.size w W2:=by rw [← hW2];exact bq
 have hs2:w.heap.size + 1 < W2.heap.size:=by rw [← hW2];simp
 have hq0:W2.heap[w.heap.size]? = some (.cells #[.slice ai f.ins.length ci,.slice an f.nods.length cn,.slice aT f.tasks.length ct,.slice al f.tells.length cl] 36 (0,0)):=by rw [← hW2];exact (Below.heap_alloc _ _ _ (by simp)).trans (heap_new w _)
 have hq1:W2.heap[w.heap.size + 1]? = some (.cells #[.int .i64 nd,.int .i64 t.per,.int .i64 t.ph,.slice ad t.args.length cap] 100 (0,0)):=by rw [← hW2];simpa using heap_new (w.alloc (.cells #[.slice ai f.ins.length ci,.slice an f.nods.length cn,.slice aT f.tasks.length ct,.slice al f.tells.length cl] 36)) (.cells #[.int .i64 nd,.int .i64 t.per,.int .i64 t.ph,.slice ad t.args.length cap] 100)
 obtain ⟨⟨x0,x1,x2,x3⟩,xf⟩:=cells4 hq0
 obtain ⟨⟨q0,q1,q2,q3⟩,qf⟩:=cells4 hq1
 have HB:=hid hB
 have HQ0:=hid hq0
 have HQ1:=hid hq1
 have hl0:w.heap.size < W2.heap.size:=by omega
 clear hW2 hB hq0 hq1
 by_cases h0:nd < 0
 ·obtain rfl:ans = false:=hans.symm.trans (task_none (.inl (by rw [HND2.out];exact h0)))
  clear hans
  go_wp2
  exact bodyPost_ret (v:=.bool false) (by simp only [results,Tryz.results69];go_simp) rfl ⟨rfl,bq⟩
 ·by_cases h1:(f.nods.length:Int) ≤ nd
  ·obtain rfl:ans = false:=hans.symm.trans (task_none (.inr (by rw [HND2.out];exact h1)))
   have h1d:nd ≥ (f.nods.length:Int):=h1
   clear hans
   go_wp2
   exact bodyPost_ret (v:=.bool false) (by simp only [results,Tryz.results69];go_simp) rfl ⟨rfl,bq⟩
  ·have h1d:¬ nd ≥ (f.nods.length:Int):=h1
   obtain ⟨k,rfl⟩:∃ k:Nat,nd = (k:Int):=⟨nd.toNat,by omega⟩
   have hk:k < f.nods.length:=by omega
   have hk0:(0:Int) ≤ (k:Int):=by omega
   have hk1:(k:Int) < (f.nods.length:Int):=by omega
   rw [task_some hk HND2.out] at hans
   obtain ⟨b,o,rfl,hb,nm,pa,pc,k9,nm2,n2,d2,ea,el,ec,a2,a9,_,y1,_⟩:=HND.out.at hk
   obtain ⟨np,hnp⟩:∃ np,f.nods[k].nps = np:=⟨_,rfl⟩
   rw [hnp] at y1 hans
   have y2:=(HB.out.cell (p:=⟨b,o + k * 10 + 1,none⟩) hb).trans y1
   clear y1 hnp
   by_cases h2:t.args.length = 0
   ·obtain rfl:ans = false:=by rw [← hans,decide_eq_false (fun h => h h2),Bool.false_and]
    have h2d:((t.args.length:Int) == 0) = true:=by rw [h2];rfl
    have h2e:(t.args.length:Int) = 0:=by omega
    clear hans
    go_wp2
    go_quiet (fail)
    go_wp2
    exact bodyPost_ret (v:=.bool false) (by simp only [results,Tryz.results69];go_simp) rfl ⟨rfl,bq⟩
   ·rw [decide_eq_true h2,Bool.true_and] at hans
    have h2d:((t.args.length:Int) == 0) = false:=beq_eq_false_iff_ne.2 oq
    have h2e:¬ (t.args.length:Int) = 0:=by omega
    by_cases h3:t.args.length = np
    ·rw [decide_eq_true h3,Bool.true_and] at hans
     subst h3
     have h3d:((t.args.length:Int) != (t.args.length:Int)) = false:=by simp
     have HANS:=hid hans
     clear hans
     go_wp2
     go_quiet (fail)
     go_wp2
     go_loopw [39] (fun s39 wr => Hid (∃ i:Nat,s39 = .int .i64 (i:Int) ∧ i ≤ t.args.length ∧ (t.args.take i).all (fun a => fitsP f a t.per t.ph) = true ∧ Below W2.heap.size W2 wr)) (fun s39 _ => t.args.length - (intOf s39).toNat)
     case atStart => exact ⟨0,rfl,Nat.zero_le _,by simp,bq⟩
     case round =>
      obtain ⟨i,rfl,hi,hall,hbw⟩:=hrel.out
      clear hrel x0 x1 x2 x3 xf q0 q1 q2 q3 qf y2
      have hzw:=hbw.size
      have HBW:=hid hbw
      have HALL:=hid hall
      have HWW:=hid (HB.out.trans (hbw.mono oq))
      obtain ⟨⟨x0,x1,x2,x3⟩,xf⟩:=cells4 ((hbw.block _ hl0).trans HQ0.out)
      obtain ⟨⟨q0,q1,q2,q3⟩,qf⟩:=cells4 ((hbw.block _ hs2).trans HQ1.out)
      have hj0:w.heap.size < wr.heap.size:=by omega
      have hj1:w.heap.size + 1 < wr.heap.size:=by omega
      clear hall hbw
      by_cases hlt:i < t.args.length
      ·have hil:(i:Int) < (t.args.length:Int):=by omega
       have hi0:(0:Int) ≤ (i:Int):=by omega
       obtain ⟨bb,oo,rfl,hbb0,g0,ad2,cap2,g1,hro⟩:=HR.out.at hlt
       have hA:=HA.out _ (List.getElem_mem hlt)
       obtain ⟨⟨src,ops⟩,hai⟩:∃ a,t.args[i] = a:=⟨_,rfl⟩
       rw [hai] at g0 g1 hro hA
       simp only at g0 g1 hro hA
       have y0:=(HWW.out.cell (p:=⟨bb,oo + i * 2,none⟩) hbb0).trans g0
       have y1:=(HWW.out.cell (p:=⟨bb,oo + i * 2 + 1,none⟩) hbb0).trans g1
       have hHC:=fun (w':World) (hb:Below w.heap.size w w') => HCO.out w' hb ⟨src,ops⟩ ad2 cap2 (hro.below opSta hb) hA
       have HAI:=hid hai
       have hkl:=all_takeR (f:=fun a => fitsP f a t.per t.ph) hlt
       rw [hai,HALL.out,Bool.true_and] at hkl
       cases hfit:fitsP f ⟨src,ops⟩ t.per t.ph with
       | true =>
        rw [hfit] at hHC hkl
        have HC:=hid hHC
        have HKL:=hid hkl
        clear g0 g1 hro hA hai hHC hfit hkl
        go_wp2_with (go_at_call 70;refine (HC.out _ bq).mono ?_;rintro x w6 ⟨rfl,hb6⟩)
        exact ⟨hid ⟨i + 1,by go_num,hlt,HKL.out,bq⟩,by simp [intOf];omega⟩
       | false =>
        rw [hfit] at hHC
        have HC:=hid hHC
        obtain rfl:ans = false:=by
         rw [← HANS.out]
         refine Bool.eq_false_iff.2 (fun h => ?_)
         have:=List.all_eq_true.1 h _ (List.getElem_mem hlt)
         rw [hai,hfit] at this
         cases this
        clear g0 g1 hro hA hai hHC hfit hkl HANS
        go_wp2_with (go_at_call 70;refine (HC.out _ bq).mono ?_;rintro x w6 ⟨rfl,hb6⟩)
        exact bodyPost_ret (v:=.bool false) (by simp only [results,Tryz.results69];go_simp) rfl ⟨rfl,bq⟩
      ·have hil:¬ (i:Int) < (t.args.length:Int):=by omega
       obtain rfl:ans = true:=by
        rw [← HANS.out,← HALL.out,List.take_of_length_le oq]
       clear HANS
       go_wp2
       exact bodyPost_ret (v:=.bool true) (by simp only [results,Tryz.results69];go_simp) rfl ⟨rfl,bq⟩
    ·obtain rfl:ans = false:=by rw [← hans,decide_eq_false h3,Bool.false_and]
     have h3d:((t.args.length:Int) != (np:Int)) = true:=bne_iff_ne.2 oq
     clear hans
     go_wp2
     go_quiet (fail)
     go_wp2
     exact bodyPost_ret (v:=.bool false) (by simp only [results,Tryz.results69];go_simp) rfl ⟨rfl,bq⟩
def tickB (n:Int):Bool:=decide (1 ≤ n ∧ n ≤ 1000)
def telP (f:FD) (t:LD):Bool:=tickB t.dl && fitsP f t.arg t.per t.ph
def rightP (f:FD):Bool:=f.ins.all (fun c => clock.rightB c.1 c.2) && (f.nods.all (fun n => tickB n.bud) && (f.tasks.all (taskP f) && (f.tells.all (telP f) && decide (f.tasks.length ≤ 30))))
theorem rp_ins {f:FD} (h:f.ins.all (fun c => clock.rightB c.1 c.2) = false):rightP f = false:=by unfold rightP;rw [h];rfl
theorem rp_nods {f:FD} (h:f.nods.all (fun n => tickB n.bud) = false):rightP f = false:=by unfold rightP;rw [h,Bool.false_and,Bool.and_false]
theorem rp_tasks {f:FD} (h:f.tasks.all (taskP f) = false):rightP f = false:=by unfold rightP;rw [h,Bool.false_and,Bool.and_false,Bool.and_false]
theorem rp_tells {f:FD} (h:f.tells.all (telP f) = false):rightP f = false:=by unfold rightP;rw [h,Bool.false_and,Bool.and_false,Bool.and_false,Bool.and_false]
theorem rp_end {f:FD} (h1:f.ins.all (fun c => clock.rightB c.1 c.2) = true) (h2:f.nods.all (fun n => tickB n.bud) = true) (h3:f.tasks.all (taskP f) = true) (h4:f.tells.all (telP f) = true):rightP f = decide (f.tasks.length ≤ 30):=by
 unfold rightP;rw [h1,h2,h3,h4,Bool.true_and,Bool.true_and,Bool.true_and,Bool.true_and]
theorem all_no {α:Type} {p:α → Bool} {l:List α} {i:Nat} (hi:i < l.length) {x:α} (hx:l[i] = x) (h:p x = false):l.all p = false:=by
 refine Bool.eq_false_iff.2 (fun h2 => ?_)
 have:=List.all_eq_true.1 h2 _ (List.getElem_mem hi)
 rw [hx,h] at this
 cases this
theorem all_more {α:Type} {p:α → Bool} {l:List α} {i:Nat} (hi:i < l.length) {x:α} (hx:l[i] = x) (h:p x = true) (ht:(l.take i).all p = true):(l.take (i + 1)).all p = true:=by
 rw [all_takeR hi,ht,hx,h];rfl
theorem clkRight_any (p q:Int) (w:World):Calls Tryz.prog 24 #[.agg #[.int .i64 p,.int .i64 q]] w fun e w' => e = .returned (.bool (clock.rightB p q)) ∧ Below w.heap.size w w':=by
 by_cases h:1 ≤ p ∧ p ≤ 2000 ∧ 0 ≤ q ∧ q ≤ 2000
 ·rw [clock.right_yes h];exact clock.right_true p q w h
 ·rw [clock.right_no h];exact clock.right_false p q w h
set_option maxRecDepth 100000 in
set_option maxHeartbeats 4000000 in
theorem flatRight_any {w:World} (f:FD) (ai an aT al:Option Addr) (ci cn ct cl:Nat) (hf:FAP w f ai an aT al) :
  Calls Tryz.prog 27 #[fv f ai an aT al ci cn ct cl] w fun x w' => x = .returned (.bool (rightP f)) ∧ Below w.heap.size w w':=by
 have hlens:=hf.lens
 have HCO:=hid (fun (w':World) (hb:Below w.heap.size w w') (a:AD) ad2 cap2 cp cf (hra:Row OpR 3 w' a.ops ad2) (h1:a.ops.length ≤ 1000 ∧ I64 a.src) => comes_any (w:=w') f ai an aT al ci cn ct cl (hf.below hb) a ad2 cap2 cp cf h1.2 hra h1.1)
 have HRT:=hid (fun (w':World) (hb:Below w.heap.size w w') (t:TD) ad2 cap2 (hr:Row ArgR 2 w' t.args ad2) (ha:t.args.length ≤ 1000 ∧ ∀ a ∈ t.args,a.ops.length ≤ 1000 ∧ I64 a.src) => rightTask_any (w:=w') f ai an aT al ci cn ct cl (hf.below hb) t ad2 cap2 hr ha.1 ha.2)
 have HF:=hid hf
 obtain ⟨ans,hans⟩:∃ ans,rightP f = ans:=⟨_,rfl⟩
 rw [hans]
 have HANS:=hid hans
 clear hf hans
 unfold fv at *
 go_enter Tryz.func27,Tryz.ntmps27
 go_upto_region 1 with fail
 obtain ⟨W1,hW1⟩:∃ W1,w.alloc (.cells #[.slice ai f.ins.length ci,.slice an f.nods.length cn,.slice aT f.tasks.length ct,.slice al f.tells.length cl] 36) = W1:=⟨_,rfl⟩
 rw [hW1]
 have hB:Below w.heap.size w W1:=by rw [← hW1];exact bq
 have hq0:W1.heap[w.heap.size]? = some (.cells #[.slice ai f.ins.length ci,.slice an f.nods.length cn,.slice aT f.tasks.length ct,.slice al f.tells.length cl] 36 (0,0)):=by rw [← hW1];exact heap_new w _
 have hl0:=lt_of_block hq0
 obtain ⟨⟨x0,x1,x2,x3⟩,xf⟩:=cells4 hq0
 have HB:=hid hB
 have HQ0:=hid hq0
 clear hW1 hB hq0
 have HST:=hid (Below.refl W1.heap.size W1)
 go_wp2
 go_loopw [14] (fun s wr => Hid (∃ i:Nat,s = .int .i64 (i:Int) ∧ i ≤ f.ins.length ∧ (f.ins.take i).all (fun c => clock.rightB c.1 c.2) = true ∧ Below W1.heap.size W1 wr)) (fun s _ => f.ins.length - (intOf s).toNat)
 case atStart => exact ⟨0,rfl,Nat.zero_le _,by simp,HST.out⟩
 case round =>
  obtain ⟨i,rfl,hi1,hall,hbw⟩:=hrel.out
  clear hrel x0 x1 x2 x3 xf
  have hzw:=hbw.size
  have HBW:=hid hbw
  have HALL:=hid hall
  have HWW:=hid (HB.out.trans (hbw.mono oq))
  obtain ⟨⟨x0,x1,x2,x3⟩,xf⟩:=cells4 ((hbw.block _ hl0).trans HQ0.out)
  have hj0:w.heap.size < wr.heap.size:=by omega
  clear hall hbw
  by_cases hlt:i < f.ins.length
  ·have hil:(i:Int) < (f.ins.length:Int):=by omega
   have hi0:(0:Int) ≤ (i:Int):=by omega
   obtain ⟨bb,oo,rfl,hbb0,g0,g1⟩:=HF.out.ins.at hlt
   obtain ⟨⟨cp,cf⟩,hai⟩:∃ a,f.ins[i] = a:=⟨_,rfl⟩
   rw [hai] at g0 g1
   simp only at g0 g1
   have y0:=(HWW.out.cell (p:=⟨bb,oo + i * 2,none⟩) hbb0).trans g0
   have y1:=(HWW.out.cell (p:=⟨bb,oo + i * 2 + 1,none⟩) hbb0).trans g1
   have HAI:=hid hai
   have HC:=hid (fun w' => clkRight_any cp cf w')
   cases hfit:clock.rightB cp cf with
   | true =>
    rw [hfit] at HC
    have HK:=hid (all_more (p:=(fun c => clock.rightB c.1 c.2)) hlt hai hfit HALL.out)
    clear g0 g1 hai hfit
    go_wp2_with (go_at_call 24;refine (HC.out _).mono ?_;rintro x w6 ⟨rfl,hb6⟩)
    exact ⟨hid ⟨i + 1,by go_num,hlt,HK.out,bq⟩,by simp [intOf];omega⟩
   | false =>
    rw [hfit] at HC
    obtain rfl:ans = false:=HANS.out.symm.trans (rp_ins (all_no (p:=(fun c => clock.rightB c.1 c.2)) hlt hai hfit))
    clear g0 g1 hai hfit HANS
    go_wp2_with (go_at_call 24;refine (HC.out _).mono ?_;rintro x w6 ⟨rfl,hb6⟩)
    exact bodyPost_ret (v:=.bool false) (by simp only [results,Tryz.results27];go_simp) rfl ⟨rfl,bq⟩
  ·have hil:¬ (i:Int) < (f.ins.length:Int):=by omega
   have HE1:=hid (show f.ins.all (fun c => clock.rightB c.1 c.2) = true by rw [← HALL.out,List.take_of_length_le oq])
   obtain ⟨W2,rfl⟩:∃ W2:World,W2 = wr:=⟨_,rfl⟩
   have HST1:=hid HBW.out
   clear HBW HALL HWW
   go_wp2
   go_loopw [25] (fun s wr => Hid (∃ i:Nat,s = .int .i64 (i:Int) ∧ i ≤ f.nods.length ∧ (f.nods.take i).all (fun n => tickB n.bud) = true ∧ Below W1.heap.size W1 wr)) (fun s _ => f.nods.length - (intOf s).toNat)
   case atStart => exact ⟨0,rfl,Nat.zero_le _,by simp,HST1.out⟩
   case round =>
    obtain ⟨i,rfl,hi2,hall,hbw⟩:=hrel.out
    clear hrel x0 x1 x2 x3 xf
    have hzw:=hbw.size
    have HBW:=hid hbw
    have HALL:=hid hall
    have HWW:=hid (HB.out.trans (hbw.mono oq))
    obtain ⟨⟨x0,x1,x2,x3⟩,xf⟩:=cells4 ((hbw.block _ hl0).trans HQ0.out)
    have hj0:w.heap.size < wr.heap.size:=by omega
    clear hall hbw
    by_cases hlt:i < f.nods.length
    ·have hil:(i:Int) < (f.nods.length:Int):=by omega
     have hi0:(0:Int) ≤ (i:Int):=by omega
     obtain ⟨bb,oo,rfl,hbb0,nm,pa,pc,k9,nm2,n2,d2,ea,el,ec,a2,a9,g0,g1,g2,g3,g4,g5,g6,g7,g8,g9⟩:=HF.out.nods.at hlt
     obtain ⟨⟨bud,np⟩,hai⟩:∃ a,f.nods[i] = a:=⟨_,rfl⟩
     rw [hai] at g1 g2
     simp only at g1 g2
     have y0:=(HWW.out.cell (p:=⟨bb,oo + i * 10,none⟩) hbb0).trans g0
     have y1:=(HWW.out.cell (p:=⟨bb,oo + i * 10 + 1,none⟩) hbb0).trans g1
     have y2:=(HWW.out.cell (p:=⟨bb,oo + i * 10 + 2,none⟩) hbb0).trans g2
     have y3:=(HWW.out.cell (p:=⟨bb,oo + i * 10 + 3,none⟩) hbb0).trans g3
     have y4:=(HWW.out.cell (p:=⟨bb,oo + i * 10 + 4,none⟩) hbb0).trans g4
     have y5:=(HWW.out.cell (p:=⟨bb,oo + i * 10 + 5,none⟩) hbb0).trans g5
     have y6:=(HWW.out.cell (p:=⟨bb,oo + i * 10 + 6,none⟩) hbb0).trans g6
     have y7:=(HWW.out.cell (p:=⟨bb,oo + i * 10 + 7,none⟩) hbb0).trans g7
     have y8:=(HWW.out.cell (p:=⟨bb,oo + i * 10 + 8,none⟩) hbb0).trans g8
     have y9:=(HWW.out.cell (p:=⟨bb,oo + i * 10 + 9,none⟩) hbb0).trans g9
     have HAI:=hid hai
     have HC:=hid (fun w' => ticks_any (w:=w') bud)
     cases hfit:tickB bud with
     | true =>
      rw [show decide (1 ≤ bud ∧ bud ≤ 1000) = true from hfit] at HC
      have HK:=hid (all_more (p:=(fun n => tickB n.bud)) hlt hai hfit HALL.out)
      clear g0 g1 g2 g3 g4 g5 g6 g7 g8 g9 hai hfit
      go_wp2_with (go_at_call 68;refine (HC.out _).mono ?_;rintro x w6 ⟨rfl,rfl⟩)
      exact ⟨hid ⟨i + 1,by go_num,hlt,HK.out,bq⟩,by simp [intOf];omega⟩
     | false =>
      rw [show decide (1 ≤ bud ∧ bud ≤ 1000) = false from hfit] at HC
      obtain rfl:ans = false:=HANS.out.symm.trans (rp_nods (all_no (p:=(fun n => tickB n.bud)) hlt hai hfit))
      clear g0 g1 g2 g3 g4 g5 g6 g7 g8 g9 hai hfit HANS
      go_wp2_with (go_at_call 68;refine (HC.out _).mono ?_;rintro x w6 ⟨rfl,rfl⟩)
      exact bodyPost_ret (v:=.bool false) (by simp only [results,Tryz.results27];go_simp) rfl ⟨rfl,bq⟩
    ·have hil:¬ (i:Int) < (f.nods.length:Int):=by omega
     have HE2:=hid (show f.nods.all (fun n => tickB n.bud) = true by rw [← HALL.out,List.take_of_length_le oq])
     obtain ⟨W3,rfl⟩:∃ W3:World,W3 = wr:=⟨_,rfl⟩
     have HST2:=hid HBW.out
     clear HBW HALL HWW
     go_wp2
     go_loopw [37] (fun s wr => Hid (∃ i:Nat,s = .int .i64 (i:Int) ∧ i ≤ f.tasks.length ∧ (f.tasks.take i).all (taskP f) = true ∧ Below W1.heap.size W1 wr)) (fun s _ => f.tasks.length - (intOf s).toNat)
     case atStart => exact ⟨0,rfl,Nat.zero_le _,by simp,HST2.out⟩
     case round =>
      obtain ⟨i,rfl,hi3,hall,hbw⟩:=hrel.out
      clear hrel x0 x1 x2 x3 xf
      have hzw:=hbw.size
      have HBW:=hid hbw
      have HALL:=hid hall
      have HWW:=hid (HB.out.trans (hbw.mono oq))
      obtain ⟨⟨x0,x1,x2,x3⟩,xf⟩:=cells4 ((hbw.block _ hl0).trans HQ0.out)
      have hj0:w.heap.size < wr.heap.size:=by omega
      clear hall hbw
      by_cases hlt:i < f.tasks.length
      ·have hil:(i:Int) < (f.tasks.length:Int):=by omega
       have hi0:(0:Int) ≤ (i:Int):=by omega
       obtain ⟨bb,oo,rfl,hbb0,g0,g1,g2,ad2,cap2,g3,hro⟩:=HF.out.tasks.at hlt
       have hA:=HF.out.args _ (List.getElem_mem hlt)
       obtain ⟨⟨nd,per,ph,args⟩,hai⟩:∃ a,f.tasks[i] = a:=⟨_,rfl⟩
       rw [hai] at g0 g1 g2 g3 hro hA
       simp only at g0 g1 g2 g3 hro hA
       have y0:=(HWW.out.cell (p:=⟨bb,oo + i * 4,none⟩) hbb0).trans g0
       have y1:=(HWW.out.cell (p:=⟨bb,oo + i * 4 + 1,none⟩) hbb0).trans g1
       have y2:=(HWW.out.cell (p:=⟨bb,oo + i * 4 + 2,none⟩) hbb0).trans g2
       have y3:=(HWW.out.cell (p:=⟨bb,oo + i * 4 + 3,none⟩) hbb0).trans g3
       have HAI:=hid hai
       have hHC:=fun (w':World) (hb:Below w.heap.size w w') => HRT.out w' hb ⟨nd,per,ph,args⟩ ad2 cap2 (hro.below argSta hb) hA
       cases hfit:taskP f ⟨nd,per,ph,args⟩ with
       | true =>
        rw [hfit] at hHC
        have HC:=hid hHC
        have HK:=hid (all_more (p:=(taskP f)) hlt hai hfit HALL.out)
        clear g0 g1 g2 g3 hro hA hai hfit hHC
        go_wp2_with (go_at_call 69;refine (HC.out _ bq).mono ?_;rintro x w6 ⟨rfl,hb6⟩)
        exact ⟨hid ⟨i + 1,by go_num,hlt,HK.out,bq⟩,by simp [intOf];omega⟩
       | false =>
        rw [hfit] at hHC
        have HC:=hid hHC
        obtain rfl:ans = false:=HANS.out.symm.trans (rp_tasks (all_no (p:=(taskP f)) hlt hai hfit))
        clear g0 g1 g2 g3 hro hA hai hfit hHC HANS
        go_wp2_with (go_at_call 69;refine (HC.out _ bq).mono ?_;rintro x w6 ⟨rfl,hb6⟩)
        exact bodyPost_ret (v:=.bool false) (by simp only [results,Tryz.results27];go_simp) rfl ⟨rfl,bq⟩
      ·have hil:¬ (i:Int) < (f.tasks.length:Int):=by omega
       have HE3:=hid (show f.tasks.all (taskP f) = true by rw [← HALL.out,List.take_of_length_le oq])
       obtain ⟨W4,rfl⟩:∃ W4:World,W4 = wr:=⟨_,rfl⟩
       have HST3:=hid HBW.out
       clear HBW HALL HWW
       go_wp2
       go_loopw [49] (fun s wr => Hid (∃ i:Nat,s = .int .i64 (i:Int) ∧ i ≤ f.tells.length ∧ (f.tells.take i).all (telP f) = true ∧ Below W1.heap.size W1 wr)) (fun s _ => f.tells.length - (intOf s).toNat)
       case atStart => exact ⟨0,rfl,Nat.zero_le _,by simp,HST3.out⟩
       case round =>
        obtain ⟨i,rfl,hi4,hall,hbw⟩:=hrel.out
        clear hrel x0 x1 x2 x3 xf
        have hzw:=hbw.size
        have HBW:=hid hbw
        have HALL:=hid hall
        have HWW:=hid (HB.out.trans (hbw.mono oq))
        obtain ⟨⟨x0,x1,x2,x3⟩,xf⟩:=cells4 ((hbw.block _ hl0).trans HQ0.out)
        have hj0:w.heap.size < wr.heap.size:=by omega
        clear hall hbw
        by_cases hlt:i < f.tells.length
        ·have hil:(i:Int) < (f.tells.length:Int):=by omega
         have hi0:(0:Int) ≤ (i:Int):=by omega
         obtain ⟨bb,oo,rfl,hbb0,g0,g1,g2,g4,ad2,cap2,g3,hro⟩:=HF.out.tells.at hlt
         have hA:=HF.out.tops _ (List.getElem_mem hlt)
         obtain ⟨⟨per,ph,⟨src,ops⟩,dl⟩,hai⟩:∃ a,f.tells[i] = a:=⟨_,rfl⟩
         rw [hai] at g0 g1 g2 g3 g4 hro hA
         simp only at g0 g1 g2 g3 g4 hro hA
         have y0:=(HWW.out.cell (p:=⟨bb,oo + i * 5,none⟩) hbb0).trans g0
         have y1:=(HWW.out.cell (p:=⟨bb,oo + i * 5 + 1,none⟩) hbb0).trans g1
         have y2:=(HWW.out.cell (p:=⟨bb,oo + i * 5 + 2,none⟩) hbb0).trans g2
         have y3:=(HWW.out.cell (p:=⟨bb,oo + i * 5 + 3,none⟩) hbb0).trans g3
         have y4:=(HWW.out.cell (p:=⟨bb,oo + i * 5 + 4,none⟩) hbb0).trans g4
         have HAI:=hid hai
         have hHC:=fun (w':World) (hb:Below w.heap.size w w') => HCO.out w' hb ⟨src,ops⟩ ad2 cap2 per ph (hro.below opSta hb) hA
         have HT:=hid (fun w' => ticks_any (w:=w') dl)
         cases htk:tickB dl with
         | false =>
          rw [show decide (1 ≤ dl ∧ dl ≤ 1000) = false from htk] at HT
          obtain rfl:ans = false:=HANS.out.symm.trans (rp_tells (all_no (p:=(telP f)) hlt hai (by unfold telP;rw [htk];rfl)))
          clear g0 g1 g2 g3 g4 hro hA hai htk hHC HANS
          go_wp2_with (go_at_call 68;refine (HT.out _).mono ?_;rintro x w5 ⟨rfl,rfl⟩)
          exact bodyPost_ret (v:=.bool false) (by simp only [results,Tryz.results27];go_simp) rfl ⟨rfl,bq⟩
         | true =>
          rw [show decide (1 ≤ dl ∧ dl ≤ 1000) = true from htk] at HT
          cases hfit:fitsP f ⟨src,ops⟩ per ph with
          | true =>
           rw [hfit] at hHC
           have HC:=hid hHC
           have HK:=hid (all_more (p:=(telP f)) hlt hai (by unfold telP;rw [htk];exact hfit) HALL.out)
           clear g0 g1 g2 g3 g4 hro hA hai htk hHC hfit
           go_wp2_with (first | (go_at_call 68;refine (HT.out _).mono ?_;rintro x w5 ⟨rfl,rfl⟩) | (go_at_call 70;refine (HC.out _ bq).mono ?_;rintro x w6 ⟨rfl,hb6⟩))
           exact ⟨hid ⟨i + 1,by go_num,hlt,HK.out,bq⟩,by simp [intOf];omega⟩
          | false =>
           rw [hfit] at hHC
           have HC:=hid hHC
           obtain rfl:ans = false:=HANS.out.symm.trans (rp_tells (all_no (p:=(telP f)) hlt hai (by unfold telP;rw [htk];exact hfit)))
           clear g0 g1 g2 g3 g4 hro hA hai htk hHC hfit HANS
           go_wp2_with (first | (go_at_call 68;refine (HT.out _).mono ?_;rintro x w5 ⟨rfl,rfl⟩) | (go_at_call 70;refine (HC.out _ bq).mono ?_;rintro x w6 ⟨rfl,hb6⟩))
           exact bodyPost_ret (v:=.bool false) (by simp only [results,Tryz.results27];go_simp) rfl ⟨rfl,bq⟩
        ·have hil:¬ (i:Int) < (f.tells.length:Int):=by omega
         have HE4:=hid (show f.tells.all (telP f) = true by rw [← HALL.out,List.take_of_length_le oq])
         have hend:=HANS.out.symm.trans (rp_end HE1.out HE2.out HE3.out HE4.out)
         by_cases h30:f.tasks.length ≤ 30
         ·have h30d:(f.tasks.length:Int) ≤ 30:=by omega
          obtain rfl:ans = true:=by rw [hend,decide_eq_true h30]
          clear hend HANS
          go_wp2
          exact bodyPost_ret (v:=.bool true) (by simp only [results,Tryz.results27];go_simp) rfl ⟨rfl,bq⟩
         ·have h30d:¬ (f.tasks.length:Int) ≤ 30:=by omega
          obtain rfl:ans = false:=by rw [hend,decide_eq_false h30]
          clear hend HANS
          go_wp2
          exact bodyPost_ret (v:=.bool false) (by simp only [results,Tryz.results27];go_simp) rfl ⟨rfl,bq⟩
open Go.RowKit
def swp (l:List Int) (i j:Nat):List Int:=(l.set i (l.getD j 0)).set j (l.getD i 0)
theorem swp_len (l:List Int) (i j:Nat):(swp l i j).length = l.length:=by simp [swp]
theorem getD_mem0 {l:List Int} {i:Nat} (h:i < l.length):l.getD i 0 ∈ l:=by rw [List.getD_eq_getElem?_getD,List.getElem?_eq_getElem h];exact List.getElem_mem h
theorem mem_set_of {α:Type} {l:List α} {i:Nat} {a x:α} (h:x ∈ l.set i a):x ∈ l ∨ x = a:=by
 rcases List.mem_or_eq_of_mem_set h with h | h
 ·exact .inl h
 ·exact .inr h
theorem swp_all {Q:Int → Prop} {l:List Int} {i j:Nat} (hi:i < l.length) (hj:j < l.length) (h:∀ x ∈ l,Q x):∀ x ∈ swp l i j,Q x:=by
 intro x hx
 unfold swp at hx
 rcases mem_set_of hx with hx | hx
 ·rcases mem_set_of hx with hx | hx
  ·exact h x hx
  ·rw [hx];exact h _ (getD_mem0 hj)
 ·rw [hx];exact h _ (getD_mem0 hi)
def upP:Nat → List Int → Nat → List Int
 | 0,l,_ => l
 | n + 1,l,j => if (j - 1) / 2 = j then l else if l.getD j 0 < l.getD ((j - 1) / 2) 0 then upP n (swp l ((j - 1) / 2) j) ((j - 1) / 2) else l
theorem upP_len:∀ (n:Nat) (l:List Int) (j:Nat),(upP n l j).length = l.length:=by
 intro n
 induction n with
 | zero => intro l j;rfl
 | succ n ih =>
  intro l j
  rw [upP]
  split
  ·rfl
  ·split
   ·rw [ih,swp_len]
   ·rfl
theorem upP_all {Q:Int → Prop}:∀ (n:Nat) (l:List Int) (j:Nat),j < l.length → (∀ x ∈ l,Q x) → ∀ x ∈ upP n l j,Q x:=by
 intro n
 induction n with
 | zero => intro l j _ h;exact h
 | succ n ih =>
  intro l j hj h
  rw [upP]
  split
  ·exact h
  ·split
   ·refine ih _ _ (by rw [swp_len];omega) (swp_all oq hj h)
   ·exact h
def kidP (l:List Int) (i n:Nat):Nat:=if 2 * i + 2 < n ∧ l.getD (2 * i + 2) 0 < l.getD (2 * i + 1) 0 then 2 * i + 2 else 2 * i + 1
def downP:Nat → List Int → Nat → Nat → List Int
 | 0,l,_,_ => l
 | k + 1,l,i,n => if n ≤ 2 * i + 1 then l else if l.getD (kidP l i n) 0 < l.getD i 0 then downP k (swp l i (kidP l i n)) (kidP l i n) n else l
theorem kid_lt {l:List Int} {i n:Nat} (h:¬ n ≤ 2 * i + 1):kidP l i n < n ∧ i < kidP l i n:=by
 unfold kidP
 split <;> omega
theorem downP_len:∀ (k:Nat) (l:List Int) (i n:Nat),(downP k l i n).length = l.length:=by
 intro k
 induction k with
 | zero => intro l i n;rfl
 | succ k ih =>
  intro l i n
  rw [downP]
  split
  ·rfl
  ·split
   ·rw [ih,swp_len]
   ·rfl
theorem downP_all {Q:Int → Prop}:∀ (k:Nat) (l:List Int) (i n:Nat),n ≤ l.length → (∀ x ∈ l,Q x) → ∀ x ∈ downP k l i n,Q x:=by
 intro k
 induction k with
 | zero => intro l i n _ h;exact h
 | succ k ih =>
  intro l i n hn h
  rw [downP]
  split
  ·exact h
  ·rename_i h1
   have h2:=kid_lt (l:=l) h1
   split
   ·exact ih _ _ _ (by rw [swp_len];exact hn) (swp_all oq oq h)
   ·exact h
def pushP (l:List Int) (x:Int):List Int:=upP (l.length + 1) (l ++ [x]) l.length
def sinkP (l:List Int):List Int:=downP l.length (swp l 0 (l.length - 1)) 0 (l.length - 1)
def popP (l:List Int):Int × List Int:=((sinkP l).getD (l.length - 1) 0,(sinkP l).take (l.length - 1))
theorem pushP_len (l:List Int) (x:Int):(pushP l x).length = l.length + 1:=by unfold pushP;rw [upP_len];simp
theorem sinkP_len (l:List Int):(sinkP l).length = l.length:=by unfold sinkP;rw [downP_len,swp_len]
theorem popP_len (l:List Int):(popP l).2.length = l.length - 1:=by unfold popP;rw [List.length_take,sinkP_len];omega
theorem pushP_all {Q:Int → Prop} {l:List Int} {x:Int} (h:∀ y ∈ l,Q y) (hx:Q x):∀ y ∈ pushP l x,Q y:=by
 unfold pushP
 refine upP_all _ _ _ (by simp) ?_
 intro y hy
 rcases List.mem_append.1 hy with hy | hy
 ·exact h y hy
 ·rw [List.mem_singleton.1 hy];exact hx
theorem sinkP_all {Q:Int → Prop} {l:List Int} (hl:l ≠ []) (h:∀ y ∈ l,Q y):∀ y ∈ sinkP l,Q y:=by
 have h0:0 < l.length:=by cases l with
  | nil => exact absurd rfl hl
  | cons _ _ => simp
 unfold sinkP
 exact downP_all _ _ _ _ (by rw [swp_len];omega) (swp_all h0 oq h)
theorem popP_all {Q:Int → Prop} {l:List Int} (hl:l ≠ []) (h:∀ y ∈ l,Q y):Q (popP l).1 ∧ ∀ y ∈ (popP l).2,Q y:=by
 have h0:0 < l.length:=by cases l with
  | nil => exact absurd rfl hl
  | cons _ _ => simp
 have h1:=sinkP_all hl h
 exact ⟨h1 _ (getD_mem0 (by rw [sinkP_len];omega)),fun y hy => h1 y (List.mem_of_mem_take hy)⟩
def delayB (o:Int × Int × Int):Bool:=decide (o.1 = 6 ∨ (o.1 = 5 ∧ ¬ o.2.1 = 0))
def tskP (f:FD) (i:Int):Option Int:=if (srcP f i).isSome = true ∧ (f.ins.length:Int) ≤ i then some (i - (f.ins.length:Int)) else none
def hangA (f:FD) (a:AD):Option Int:=if a.ops.any delayB = true then none else tskP f a.src
def metP (f:FD) (t:TD):List Int:=t.args.filterMap (hangA f)
def hangsP (f:FD) (t:TD):List Int:=Lib.compact ((metP f t).mergeSort (fun x y => decide (x ≤ y)))
theorem src_some {f:FD} {i:Int} (h:(srcP f i).isSome = true) (h2:(f.ins.length:Int) ≤ i):i - (f.ins.length:Int) < (f.tasks.length:Int):=by
 by_cases h3:i - (f.ins.length:Int) < (f.tasks.length:Int)
 ·exact h3
 ·rw [src_far oq oq h3] at h
  cases h
theorem tsk_in {f:FD} {i x:Int} (h:tskP f i = some x):0 ≤ x ∧ x < (f.tasks.length:Int):=by
 unfold tskP at h
 split at h
 ·rename_i h1
  cases h
  exact ⟨by omega,src_some h1.1 h1.2⟩
 ·cases h
theorem met_in {f:FD} {t:TD}:∀ x ∈ metP f t,0 ≤ x ∧ x < (f.tasks.length:Int):=by
 intro x hx
 obtain ⟨a,_,ha⟩:=List.mem_filterMap.1 hx
 unfold hangA at ha
 split at ha
 ·cases ha
 ·exact tsk_in ha
structure WS where
 q:List Int
 many:List Int
 rd:List (List Int)
def addR (t:Nat) (r:List (List Int)) (x:Int):List (List Int):=r.set x.toNat (r.getD x.toNat [] ++ [(t:Int)])
def newStep (f:FD) (s:WS) (t:Nat):WS:=match f.tasks[t]? with
 | none => s
 | some d => ⟨if hangsP f d = [] then pushP s.q (t:Int) else s.q,s.many.set t ((hangsP f d).length:Int),(hangsP f d).foldl (addR t) s.rd⟩
def newP (f:FD):WS:=(List.range f.tasks.length).foldl (newStep f) ⟨[],List.replicate f.tasks.length 0,List.replicate f.tasks.length []⟩
def readStep (s:WS) (r:Int):WS:=⟨if s.many.getD r.toNat 0 - 1 = 0 then pushP s.q r else s.q,s.many.set r.toNat (s.many.getD r.toNat 0 - 1),s.rd⟩
def ordNext (s:WS):Int × WS:=((popP s.q).1,(s.rd.getD (popP s.q).1.toNat []).foldl readStep ⟨(popP s.q).2,s.many,s.rd⟩)
def ofLoop:Nat → WS → List Int → List Int
 | 0,_,l => l
 | n + 1,s,l => if s.q = [] then l else ofLoop n (ordNext s).2 (l ++ [(ordNext s).1])
def muW (s:WS):Nat:=s.q.length + s.many.countP (fun x => decide (0 < x))
def ofP (f:FD):Option (List Int):=if (ofLoop (muW (newP f)) (newP f) []).length < f.tasks.length then none else some (ofLoop (muW (newP f)) (newP f) [])
structure WOk (T:Nat) (s:WS):Prop where
 q:∀ x ∈ s.q,0 ≤ x ∧ x < (T:Int)
 many:s.many.length = T
 rd:s.rd.length = T
 rds:∀ r ∈ s.rd,∀ x ∈ r,0 ≤ x ∧ x < (T:Int)
theorem countP_set {l:List Int} {i:Nat} {x:Int} {p:Int → Bool} (h:i < l.length):(l.set i x).countP p + (if p (l.getD i 0) = true then 1 else 0) = l.countP p + (if p x = true then 1 else 0):=by
 induction l generalizing i with
 | nil => simp at h
 | cons a l ih =>
  cases i with
  | zero =>
   simp only [List.set_cons_zero,List.countP_cons,List.getD_cons_zero]
   omega
  | succ i =>
   have:=ih (i:=i) (by simpa using h)
   simp only [List.set_cons_succ,List.countP_cons,List.getD_cons_succ]
   omega
theorem read_mu (s:WS) (r:Int):muW (readStep s r) ≤ muW s:=by
 unfold muW readStep
 simp only
 by_cases hr:r.toNat < s.many.length
 ·have h:=countP_set (x:=s.many.getD r.toNat 0 - 1) (p:=fun x => decide (0 < x)) hr
  generalize s.many.getD r.toNat 0 = m at h ⊢
  simp only [decide_eq_true_eq] at h
  by_cases hm:m - 1 = 0
  ·rw [if_pos hm,pushP_len]
   rw [if_pos oq,if_neg oq] at h
   omega
  ·rw [if_neg hm]
   by_cases h1:0 < m
   ·rw [if_pos h1,if_pos oq] at h
    omega
   ·rw [if_neg h1,if_neg oq] at h
    omega
 ·have h0:s.many.getD r.toNat 0 = 0:=by rw [List.getD_eq_getElem?_getD,List.getElem?_eq_none oq];rfl
  rw [h0,if_neg oq,List.set_eq_of_length_le oq]
  exact Nat.le_refl _
theorem reads_mu:∀ (l:List Int) (s:WS),muW (l.foldl readStep s) ≤ muW s
 | [],s => Nat.le_refl _
 | r :: l,s => Nat.le_trans (reads_mu l (readStep s r)) (read_mu s r)
theorem next_mu {s:WS} (h:s.q ≠ []):muW (ordNext s).2 + 1 ≤ muW s:=by
 have h1:=reads_mu (s.rd.getD (popP s.q).1.toNat []) ⟨(popP s.q).2,s.many,s.rd⟩
 have h2:=popP_len s.q
 have h3:0 < s.q.length:=by cases hq:s.q with
  | nil => exact absurd hq h
  | cons _ _ => simp
 unfold ordNext
 simp only
 unfold muW at h1 ⊢
 simp only at h1 ⊢
 omega
theorem ofLoop_more:∀ (n:Nat) (s:WS) (l:List Int),muW s ≤ n → ofLoop (n + 1) s l = ofLoop n s l:=by
 intro n
 induction n with
 | zero =>
  intro s l h
  have:s.q = []:=by cases hq:s.q with
   | nil => rfl
   | cons a b => unfold muW at h;rw [hq] at h;simp at h
  (conv => lhs;rw [ofLoop,if_pos this]);rfl
 | succ n ih =>
  intro s l h
  conv => lhs;rw [ofLoop]
  conv => rhs;rw [ofLoop]
  split
  ·rfl
  ·rename_i hq
   have:=next_mu hq
   exact ih _ _ oq
theorem ofLoop_step {s:WS} (l:List Int) (h:s.q ≠ []):ofLoop (muW s) s l = ofLoop (muW (ordNext s).2) (ordNext s).2 (l ++ [(ordNext s).1]):=by
 have h1:=next_mu h
 have key:∀ d n,n = muW (ordNext s).2 + d → ofLoop n (ordNext s).2 (l ++ [(ordNext s).1]) = ofLoop (muW (ordNext s).2) (ordNext s).2 (l ++ [(ordNext s).1]):=by
  intro d
  induction d with
  | zero => intro n hn;rw [hn];rfl
  | succ d ih =>
   intro n hn
   rw [show n = (muW (ordNext s).2 + d) + 1 by omega,ofLoop_more _ _ _ oq]
   exact ih _ rfl
 obtain ⟨m,hm⟩:∃ m,muW s = m + 1:=⟨muW s - 1,by omega⟩
 rw [hm,ofLoop,if_neg h]
 exact key (m - muW (ordNext s).2) m oq
theorem ofLoop_end {s:WS} (n:Nat) (l:List Int) (h:s.q = []):ofLoop n s l = l:=by
 cases n with
 | zero => rfl
 | succ n => rw [ofLoop,if_pos h]
theorem rd_in {T:Nat} {s:WS} (h:WOk T s) (i:Nat):∀ x ∈ s.rd.getD i [],0 ≤ x ∧ x < (T:Int):=by
 intro x hx
 by_cases hi:i < s.rd.length
 ·rw [List.getD_eq_getElem?_getD,List.getElem?_eq_getElem hi] at hx
  exact h.rds _ (List.getElem_mem hi) x hx
 ·rw [List.getD_eq_getElem?_getD,List.getElem?_eq_none oq] at hx
  cases hx
theorem WOk.read {T:Nat} {s:WS} (h:WOk T s) {r:Int} (hr:0 ≤ r ∧ r < (T:Int)):WOk T (readStep s r):=by
 refine ⟨?_,by simp [readStep,h.many],h.rd,h.rds⟩
 unfold readStep
 simp only
 split
 ·exact pushP_all h.q hr
 ·exact h.q
theorem WOk.reads {T:Nat}:∀ (l:List Int) (s:WS),WOk T s → (∀ x ∈ l,0 ≤ x ∧ x < (T:Int)) → WOk T (l.foldl readStep s)
 | [],s,h,_ => h
 | r :: l,s,h,hl => WOk.reads l _ (h.read (hl r (by simp))) (fun x hx => hl x (by simp [hx]))
theorem WOk.next {T:Nat} {s:WS} (h:WOk T s) (hq:s.q ≠ []):(0 ≤ (ordNext s).1 ∧ (ordNext s).1 < (T:Int)) ∧ WOk T (ordNext s).2:=by
 have h1:=popP_all hq h.q
 exact ⟨h1.1,WOk.reads _ _ ⟨h1.2,h.many,h.rd,h.rds⟩ (rd_in h _)⟩
theorem compact_mem {d:Array Int} {m:Nat} (hm:m ≤ d.size):∀ x ∈ Lib.compactUpTo d m,x ∈ d.toList:=by
 intro x hx
 unfold Lib.compactUpTo at hx
 obtain ⟨j,hj,rfl⟩:=List.mem_map.1 hx
 have hj2:=List.mem_range.1 (List.mem_filter.1 hj).1
 have hj3:j < d.size:=by omega
 simp only [getElem!_pos d j hj3]
 simp
theorem hangs_in {f:FD} {t:TD}:∀ x ∈ hangsP f t,0 ≤ x ∧ x < (f.tasks.length:Int):=by
 intro x hx
 have h1:=compact_mem (Nat.le_of_eq (by simp)) x hx
 exact met_in x (List.mem_mergeSort.1 h1)
theorem compact_len (q:List Int):(Lib.compact q).length ≤ q.length:=by
 unfold Lib.compact Lib.compactUpTo
 rw [List.length_map]
 exact Nat.le_trans (List.length_filter_le _ _) (by simp)
theorem WOk.addR {T:Nat} {t:Nat} (ht:t < T) {r:List (List Int)} {x:Int} (hl:r.length = T) (h:∀ s ∈ r,∀ y ∈ s,0 ≤ y ∧ y < (T:Int)):(addR t r x).length = T ∧ ∀ s ∈ addR t r x,∀ y ∈ s,0 ≤ y ∧ y < (T:Int):=by
 refine ⟨by simp [syn.addR,hl],?_⟩
 intro s hs y hy
 unfold syn.addR at hs
 rcases mem_set_of hs with hs | rfl
 ·exact h s hs y hy
 ·rcases List.mem_append.1 hy with hy | hy
  ·by_cases hi:x.toNat < r.length
   ·rw [List.getD_eq_getElem?_getD,List.getElem?_eq_getElem hi] at hy
    exact h _ (List.getElem_mem hi) y hy
   ·rw [List.getD_eq_getElem?_getD,List.getElem?_eq_none oq] at hy
    cases hy
  ·rw [List.mem_singleton.1 hy]
   omega
theorem WOk.addRs {T:Nat} {t:Nat} (ht:t < T):∀ (l:List Int) (r:List (List Int)),r.length = T → (∀ s ∈ r,∀ y ∈ s,0 ≤ y ∧ y < (T:Int)) → (l.foldl (syn.addR t) r).length = T ∧ ∀ s ∈ l.foldl (syn.addR t) r,∀ y ∈ s,0 ≤ y ∧ y < (T:Int)
 | [],r,h1,h2 => ⟨h1,h2⟩
 | x :: l,r,h1,h2 => by
  obtain ⟨h3,h4⟩:=WOk.addR (x:=x) ht h1 h2
  exact WOk.addRs ht l _ h3 h4
theorem WOk.newS {f:FD} {s:WS} {t:Nat} (ht:t < f.tasks.length) (h:WOk f.tasks.length s):WOk f.tasks.length (newStep f s t):=by
 unfold newStep
 rw [List.getElem?_eq_getElem ht]
 simp only
 obtain ⟨h1,h2⟩:=WOk.addRs ht (hangsP f f.tasks[t]) s.rd h.rd h.rds
 refine ⟨?_,by simp [h.many],h1,h2⟩
 simp only
 split
 ·exact pushP_all h.q oq
 ·exact h.q
def newN (f:FD) (n:Nat):WS:=(List.range n).foldl (newStep f) ⟨[],List.replicate f.tasks.length 0,List.replicate f.tasks.length []⟩
theorem newN_succ (f:FD) (n:Nat):newN f (n + 1) = newStep f (newN f n) n:=by
 unfold newN
 rw [List.range_succ,List.foldl_append]
 rfl
theorem newN_ok (f:FD):∀ n,n ≤ f.tasks.length → WOk f.tasks.length (newN f n)
 | 0,_ => ⟨by simp [newN],by simp [newN],by simp [newN],by
   intro r hr x hx
   have:=List.eq_of_mem_replicate (show r ∈ List.replicate f.tasks.length [] from hr)
   subst this
   cases hx⟩
 | n + 1,h => by
  rw [newN_succ]
  exact WOk.newS oq (newN_ok f n oq)
theorem newStep_at {f:FD} {s:WS} {t:Nat} {d:TD} (h:f.tasks[t]? = some d):newStep f s t = ⟨if hangsP f d = [] then pushP s.q (t:Int) else s.q,s.many.set t ((hangsP f d).length:Int),(hangsP f d).foldl (addR t) s.rd⟩:=by
 unfold newStep
 rw [h]
theorem newN_qlen (f:FD):∀ n,(newN f n).q.length ≤ n
 | 0 => by simp [newN]
 | n + 1 => by
  have ih:=newN_qlen f n
  rw [newN_succ]
  cases h:f.tasks[n]? with
  | none => unfold newStep;rw [h];simp only;omega
  | some d =>
   rw [newStep_at h]
   simp only
   split
   ·rw [pushP_len];omega
   ·omega
end Go.Proofs.YtpjficjlfibibaaGreatDoor.syn
