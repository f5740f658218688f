/-
  Parts of the proof: Rgt4.
-/
import Derived.Test.YteaiemfhlpoieaaGreatDoorQ36
namespace Go.Proofs.YteaiemfhlpoieaaGreatDoor.syn
open Go.RowKit Go.Shelf
set_option linter.unusedVariables false
set_option linter.unusedSimpArgs false
def tickB (n:Int):Bool:=decide (1 ≤ n ∧ n ≤ 1000)
def telP (f:FD) (t:LD):Bool:=tickB t.dl && fitsP f t.arg t.per t.ph
def rightP (f:FD):Bool:=f.ins.all (fun c => clock.rightB c.1 c.2) && (f.nods.all (fun n => tickB n.bud) && (f.tasks.all (taskP f) && (f.tells.all (telP f) && decide (f.tasks.length ≤ 30))))
theorem rp_ins {f:FD} (h:f.ins.all (fun c => clock.rightB c.1 c.2) = false):rightP f = false:=by unfold rightP;rw [h];rfl
theorem rp_nods {f:FD} (h:f.nods.all (fun n => tickB n.bud) = false):rightP f = false:=by unfold rightP;rw [h,Bool.false_and,Bool.and_false]
theorem rp_tasks {f:FD} (h:f.tasks.all (taskP f) = false):rightP f = false:=by unfold rightP;rw [h,Bool.false_and,Bool.and_false,Bool.and_false]
theorem rp_tells {f:FD} (h:f.tells.all (telP f) = false):rightP f = false:=by unfold rightP;rw [h,Bool.false_and,Bool.and_false,Bool.and_false,Bool.and_false]
theorem rp_end {f:FD} (h1:f.ins.all (fun c => clock.rightB c.1 c.2) = true) (h2:f.nods.all (fun n => tickB n.bud) = true) (h3:f.tasks.all (taskP f) = true) (h4:f.tells.all (telP f) = true):rightP f = decide (f.tasks.length ≤ 30):=by
  unfold rightP;rw [h1,h2,h3,h4,Bool.true_and,Bool.true_and,Bool.true_and,Bool.true_and]
theorem all_no {α:Type} {p:α → Bool} {l:List α} {i:Nat} (hi:i < l.length) {x:α} (hx:l[i] = x) (h:p x = false):l.all p = false:=by
  refine Bool.eq_false_iff.2 (fun h2 => ?_)
  have:=List.all_eq_true.1 h2 _ (List.getElem_mem hi)
  rw [hx,h] at this
  cases this
theorem all_more {α:Type} {p:α → Bool} {l:List α} {i:Nat} (hi:i < l.length) {x:α} (hx:l[i] = x) (h:p x = true) (ht:(l.take i).all p = true):(l.take (i + 1)).all p = true:=by
  rw [all_take hi,ht,hx,h];rfl
theorem clkRight_any (p q:Int) (w:World):Calls Tryz.prog 44 #[.agg #[.int .i64 p,.int .i64 q]] w fun e w' => e = .returned (.bool (clock.rightB p q)) ∧ Below w.heap.size w w':=by
  by_cases h:1 ≤ p ∧ p ≤ 2000 ∧ 0 ≤ q ∧ q ≤ 2000
  · rw [clock.right_yes h];exact clock.right_true p q w h
  · rw [clock.right_no h];exact clock.right_false p q w h
set_option maxRecDepth 100000 in
set_option maxHeartbeats 4000000 in
theorem flatRight_any {w:World} (f:FD) (ai an aT al:Option Addr) (ci cn ct cl:Nat) (hf:FAP w f ai an aT al) :
    Calls Tryz.prog 21 #[fv f ai an aT al ci cn ct cl] w fun x w' => x = .returned (.bool (rightP f)) ∧ Below w.heap.size w w':=by
  have hlens:=hf.lens
  have HCO:=hid (fun (w':World) (hb:Below w.heap.size w w') (a:AD) ad2 cap2 cp cf (hra:Row OpR 3 w' a.ops ad2) (h1:a.ops.length ≤ 1000 ∧ I64 a.src) => comes_any (w:=w') f ai an aT al ci cn ct cl (hf.below hb) a ad2 cap2 cp cf h1.2 hra h1.1)
  have HRT:=hid (fun (w':World) (hb:Below w.heap.size w w') (t:TD) ad2 cap2 (hr:Row ArgR 2 w' t.args ad2) (ha:t.args.length ≤ 1000 ∧ ∀ a ∈ t.args,a.ops.length ≤ 1000 ∧ I64 a.src) => rightTask_any (w:=w') f ai an aT al ci cn ct cl (hf.below hb) t ad2 cap2 hr ha.1 ha.2)
  have HF:=hid hf
  obtain ⟨ans,hans⟩:∃ ans,rightP f = ans:=⟨_,rfl⟩
  rw [hans]
  have HANS:=hid hans
  clear hf hans
  unfold fv at *
  go_enter Tryz.func21,Tryz.ntmps21
  go_upto_region 1 with fail
  obtain ⟨W1,hW1⟩:∃ W1,w.alloc (.cells #[.slice ai f.ins.length ci,.slice an f.nods.length cn,.slice aT f.tasks.length ct,.slice al f.tells.length cl] 37) = W1:=⟨_,rfl⟩
  rw [hW1]
  have hB:Below w.heap.size w W1:=by rw [← hW1];exact bq
  have hq0:W1.heap[w.heap.size]? = some (.cells #[.slice ai f.ins.length ci,.slice an f.nods.length cn,.slice aT f.tasks.length ct,.slice al f.tells.length cl] 37 (0,0)):=by rw [← hW1];exact heap_new w _
  have hl0:=lt_of_block hq0
  obtain ⟨⟨x0,x1,x2,x3⟩,xf⟩:=cells4 hq0
  have HB:=hid hB
  have HQ0:=hid hq0
  clear hW1 hB hq0
  have HST:=hid (Below.refl W1.heap.size W1)
  go_wp2
  go_loopw [14] (fun s wr => Hid (∃ i:Nat,s = .int .i64 (i:Int) ∧ i ≤ f.ins.length ∧ (f.ins.take i).all (fun c => clock.rightB c.1 c.2) = true ∧ Below W1.heap.size W1 wr)) (fun s _ => f.ins.length - (intOf s).toNat)
  case atStart => exact ⟨0,rfl,Nat.zero_le _,by simp,HST.out⟩
  case round =>
    obtain ⟨i,rfl,hi1,hall,hbw⟩:=hrel.out
    clear hrel x0 x1 x2 x3 xf
    have hzw:=hbw.size
    have HBW:=hid hbw
    have HALL:=hid hall
    have HWW:=hid (HB.out.trans (hbw.mono oq))
    obtain ⟨⟨x0,x1,x2,x3⟩,xf⟩:=cells4 ((hbw.block _ hl0).trans HQ0.out)
    have hj0:w.heap.size < wr.heap.size:=by omega
    clear hall hbw
    by_cases hlt:i < f.ins.length
    · have hil:(i:Int) < (f.ins.length:Int):=by omega
      have hi0:(0:Int) ≤ (i:Int):=by omega
      obtain ⟨bb,oo,rfl,hbb0,g0,g1⟩:=HF.out.ins.at hlt
      obtain ⟨⟨cp,cf⟩,hai⟩:∃ a,f.ins[i] = a:=⟨_,rfl⟩
      rw [hai] at g0 g1
      simp only at g0 g1
      have y0:=(HWW.out.cell (p:=⟨bb,oo + i * 2,none⟩) hbb0).trans g0
      have y1:=(HWW.out.cell (p:=⟨bb,oo + i * 2 + 1,none⟩) hbb0).trans g1
      have HAI:=hid hai
      have HC:=hid (fun w' => clkRight_any cp cf w')
      cases hfit:clock.rightB cp cf with
      | true =>
        rw [hfit] at HC
        have HK:=hid (all_more (p:=(fun c => clock.rightB c.1 c.2)) hlt hai hfit HALL.out)
        clear g0 g1 hai hfit
        go_wp2_with (go_at_call 44;refine (HC.out _).mono ?_;rintro x w6 ⟨rfl,hb6⟩)
        exact ⟨hid ⟨i + 1,by go_num,hlt,HK.out,bq⟩,by simp [intOf];omega⟩
      | false =>
        rw [hfit] at HC
        obtain rfl:ans = false:=HANS.out.symm.trans (rp_ins (all_no (p:=(fun c => clock.rightB c.1 c.2)) hlt hai hfit))
        clear g0 g1 hai hfit HANS
        go_wp2_with (go_at_call 44;refine (HC.out _).mono ?_;rintro x w6 ⟨rfl,hb6⟩)
        exact bodyPost_ret (v:=.bool false) (by simp only [results,Tryz.results21];go_simp) rfl ⟨rfl,bq⟩
    · have hil:¬ (i:Int) < (f.ins.length:Int):=by omega
      have HE1:=hid (show f.ins.all (fun c => clock.rightB c.1 c.2) = true by rw [← HALL.out,List.take_of_length_le oq])
      obtain ⟨W2,rfl⟩:∃ W2:World,W2 = wr:=⟨_,rfl⟩
      have HST1:=hid HBW.out
      clear HBW HALL HWW
      go_wp2
      go_loopw [25] (fun s wr => Hid (∃ i:Nat,s = .int .i64 (i:Int) ∧ i ≤ f.nods.length ∧ (f.nods.take i).all (fun n => tickB n.bud) = true ∧ Below W1.heap.size W1 wr)) (fun s _ => f.nods.length - (intOf s).toNat)
      case atStart => exact ⟨0,rfl,Nat.zero_le _,by simp,HST1.out⟩
      case round =>
        obtain ⟨i,rfl,hi2,hall,hbw⟩:=hrel.out
        clear hrel x0 x1 x2 x3 xf
        have hzw:=hbw.size
        have HBW:=hid hbw
        have HALL:=hid hall
        have HWW:=hid (HB.out.trans (hbw.mono oq))
        obtain ⟨⟨x0,x1,x2,x3⟩,xf⟩:=cells4 ((hbw.block _ hl0).trans HQ0.out)
        have hj0:w.heap.size < wr.heap.size:=by omega
        clear hall hbw
        by_cases hlt:i < f.nods.length
        · have hil:(i:Int) < (f.nods.length:Int):=by omega
          have hi0:(0:Int) ≤ (i:Int):=by omega
          obtain ⟨bb,oo,rfl,hbb0,nm,pa,pc,k9,nm2,n2,d2,ea,el,ec,a2,a9,g0,g1,g2,g3,g4,g5,g6,g7,g8,g9⟩:=HF.out.nods.at hlt
          obtain ⟨⟨bud,np⟩,hai⟩:∃ a,f.nods[i] = a:=⟨_,rfl⟩
          rw [hai] at g1 g2
          simp only at g1 g2
          have y0:=(HWW.out.cell (p:=⟨bb,oo + i * 10,none⟩) hbb0).trans g0
          have y1:=(HWW.out.cell (p:=⟨bb,oo + i * 10 + 1,none⟩) hbb0).trans g1
          have y2:=(HWW.out.cell (p:=⟨bb,oo + i * 10 + 2,none⟩) hbb0).trans g2
          have y3:=(HWW.out.cell (p:=⟨bb,oo + i * 10 + 3,none⟩) hbb0).trans g3
          have y4:=(HWW.out.cell (p:=⟨bb,oo + i * 10 + 4,none⟩) hbb0).trans g4
          have y5:=(HWW.out.cell (p:=⟨bb,oo + i * 10 + 5,none⟩) hbb0).trans g5
          have y6:=(HWW.out.cell (p:=⟨bb,oo + i * 10 + 6,none⟩) hbb0).trans g6
          have y7:=(HWW.out.cell (p:=⟨bb,oo + i * 10 + 7,none⟩) hbb0).trans g7
          have y8:=(HWW.out.cell (p:=⟨bb,oo + i * 10 + 8,none⟩) hbb0).trans g8
          have y9:=(HWW.out.cell (p:=⟨bb,oo + i * 10 + 9,none⟩) hbb0).trans g9
          have HAI:=hid hai
          have HC:=hid (fun w' => ticks_any (w:=w') bud)
          cases hfit:tickB bud with
          | true =>
            rw [show decide (1 ≤ bud ∧ bud ≤ 1000) = true from hfit] at HC
            have HK:=hid (all_more (p:=(fun n => tickB n.bud)) hlt hai hfit HALL.out)
            clear g0 g1 g2 g3 g4 g5 g6 g7 g8 g9 hai hfit
            go_wp2_with (go_at_call 45;refine (HC.out _).mono ?_;rintro x w6 ⟨rfl,rfl⟩)
            exact ⟨hid ⟨i + 1,by go_num,hlt,HK.out,bq⟩,by simp [intOf];omega⟩
          | false =>
            rw [show decide (1 ≤ bud ∧ bud ≤ 1000) = false from hfit] at HC
            obtain rfl:ans = false:=HANS.out.symm.trans (rp_nods (all_no (p:=(fun n => tickB n.bud)) hlt hai hfit))
            clear g0 g1 g2 g3 g4 g5 g6 g7 g8 g9 hai hfit HANS
            go_wp2_with (go_at_call 45;refine (HC.out _).mono ?_;rintro x w6 ⟨rfl,rfl⟩)
            exact bodyPost_ret (v:=.bool false) (by simp only [results,Tryz.results21];go_simp) rfl ⟨rfl,bq⟩
        · have hil:¬ (i:Int) < (f.nods.length:Int):=by omega
          have HE2:=hid (show f.nods.all (fun n => tickB n.bud) = true by rw [← HALL.out,List.take_of_length_le oq])
          obtain ⟨W3,rfl⟩:∃ W3:World,W3 = wr:=⟨_,rfl⟩
          have HST2:=hid HBW.out
          clear HBW HALL HWW
          go_wp2
          go_loopw [37] (fun s wr => Hid (∃ i:Nat,s = .int .i64 (i:Int) ∧ i ≤ f.tasks.length ∧ (f.tasks.take i).all (taskP f) = true ∧ Below W1.heap.size W1 wr)) (fun s _ => f.tasks.length - (intOf s).toNat)
          case atStart => exact ⟨0,rfl,Nat.zero_le _,by simp,HST2.out⟩
          case round =>
            obtain ⟨i,rfl,hi3,hall,hbw⟩:=hrel.out
            clear hrel x0 x1 x2 x3 xf
            have hzw:=hbw.size
            have HBW:=hid hbw
            have HALL:=hid hall
            have HWW:=hid (HB.out.trans (hbw.mono oq))
            obtain ⟨⟨x0,x1,x2,x3⟩,xf⟩:=cells4 ((hbw.block _ hl0).trans HQ0.out)
            have hj0:w.heap.size < wr.heap.size:=by omega
            clear hall hbw
            by_cases hlt:i < f.tasks.length
            · have hil:(i:Int) < (f.tasks.length:Int):=by omega
              have hi0:(0:Int) ≤ (i:Int):=by omega
              obtain ⟨bb,oo,rfl,hbb0,g0,g1,g2,ad2,cap2,g3,hro⟩:=HF.out.tasks.at hlt
              have hA:=HF.out.args _ (List.getElem_mem hlt)
              obtain ⟨⟨nd,per,ph,args⟩,hai⟩:∃ a,f.tasks[i] = a:=⟨_,rfl⟩
              rw [hai] at g0 g1 g2 g3 hro hA
              simp only at g0 g1 g2 g3 hro hA
              have y0:=(HWW.out.cell (p:=⟨bb,oo + i * 4,none⟩) hbb0).trans g0
              have y1:=(HWW.out.cell (p:=⟨bb,oo + i * 4 + 1,none⟩) hbb0).trans g1
              have y2:=(HWW.out.cell (p:=⟨bb,oo + i * 4 + 2,none⟩) hbb0).trans g2
              have y3:=(HWW.out.cell (p:=⟨bb,oo + i * 4 + 3,none⟩) hbb0).trans g3
              have HAI:=hid hai
              have hHC:=fun (w':World) (hb:Below w.heap.size w w') => HRT.out w' hb ⟨nd,per,ph,args⟩ ad2 cap2 (hro.below argSta hb) hA
              cases hfit:taskP f ⟨nd,per,ph,args⟩ with
              | true =>
                rw [hfit] at hHC
                have HC:=hid hHC
                have HK:=hid (all_more (p:=(taskP f)) hlt hai hfit HALL.out)
                clear g0 g1 g2 g3 hro hA hai hfit hHC
                go_wp2_with (go_at_call 46;refine (HC.out _ bq).mono ?_;rintro x w6 ⟨rfl,hb6⟩)
                exact ⟨hid ⟨i + 1,by go_num,hlt,HK.out,bq⟩,by simp [intOf];omega⟩
              | false =>
                rw [hfit] at hHC
                have HC:=hid hHC
                obtain rfl:ans = false:=HANS.out.symm.trans (rp_tasks (all_no (p:=(taskP f)) hlt hai hfit))
                clear g0 g1 g2 g3 hro hA hai hfit hHC HANS
                go_wp2_with (go_at_call 46;refine (HC.out _ bq).mono ?_;rintro x w6 ⟨rfl,hb6⟩)
                exact bodyPost_ret (v:=.bool false) (by simp only [results,Tryz.results21];go_simp) rfl ⟨rfl,bq⟩
            · have hil:¬ (i:Int) < (f.tasks.length:Int):=by omega
              have HE3:=hid (show f.tasks.all (taskP f) = true by rw [← HALL.out,List.take_of_length_le oq])
              obtain ⟨W4,rfl⟩:∃ W4:World,W4 = wr:=⟨_,rfl⟩
              have HST3:=hid HBW.out
              clear HBW HALL HWW
              go_wp2
              go_loopw [49] (fun s wr => Hid (∃ i:Nat,s = .int .i64 (i:Int) ∧ i ≤ f.tells.length ∧ (f.tells.take i).all (telP f) = true ∧ Below W1.heap.size W1 wr)) (fun s _ => f.tells.length - (intOf s).toNat)
              case atStart => exact ⟨0,rfl,Nat.zero_le _,by simp,HST3.out⟩
              case round =>
                obtain ⟨i,rfl,hi4,hall,hbw⟩:=hrel.out
                clear hrel x0 x1 x2 x3 xf
                have hzw:=hbw.size
                have HBW:=hid hbw
                have HALL:=hid hall
                have HWW:=hid (HB.out.trans (hbw.mono oq))
                obtain ⟨⟨x0,x1,x2,x3⟩,xf⟩:=cells4 ((hbw.block _ hl0).trans HQ0.out)
                have hj0:w.heap.size < wr.heap.size:=by omega
                clear hall hbw
                by_cases hlt:i < f.tells.length
                · have hil:(i:Int) < (f.tells.length:Int):=by omega
                  have hi0:(0:Int) ≤ (i:Int):=by omega
                  obtain ⟨bb,oo,rfl,hbb0,g0,g1,g2,g4,ad2,cap2,g3,hro⟩:=HF.out.tells.at hlt
                  have hA:=HF.out.tops _ (List.getElem_mem hlt)
                  obtain ⟨⟨per,ph,⟨src,ops⟩,dl⟩,hai⟩:∃ a,f.tells[i] = a:=⟨_,rfl⟩
                  rw [hai] at g0 g1 g2 g3 g4 hro hA
                  simp only at g0 g1 g2 g3 g4 hro hA
                  have y0:=(HWW.out.cell (p:=⟨bb,oo + i * 5,none⟩) hbb0).trans g0
                  have y1:=(HWW.out.cell (p:=⟨bb,oo + i * 5 + 1,none⟩) hbb0).trans g1
                  have y2:=(HWW.out.cell (p:=⟨bb,oo + i * 5 + 2,none⟩) hbb0).trans g2
                  have y3:=(HWW.out.cell (p:=⟨bb,oo + i * 5 + 3,none⟩) hbb0).trans g3
                  have y4:=(HWW.out.cell (p:=⟨bb,oo + i * 5 + 4,none⟩) hbb0).trans g4
                  have HAI:=hid hai
                  have hHC:=fun (w':World) (hb:Below w.heap.size w w') => HCO.out w' hb ⟨src,ops⟩ ad2 cap2 per ph (hro.below opSta hb) hA
                  have HT:=hid (fun w' => ticks_any (w:=w') dl)
                  cases htk:tickB dl with
                  | false =>
                    rw [show decide (1 ≤ dl ∧ dl ≤ 1000) = false from htk] at HT
                    obtain rfl:ans = false:=HANS.out.symm.trans (rp_tells (all_no (p:=(telP f)) hlt hai (by unfold telP;rw [htk];rfl)))
                    clear g0 g1 g2 g3 g4 hro hA hai htk hHC HANS
                    go_wp2_with (go_at_call 45;refine (HT.out _).mono ?_;rintro x w5 ⟨rfl,rfl⟩)
                    exact bodyPost_ret (v:=.bool false) (by simp only [results,Tryz.results21];go_simp) rfl ⟨rfl,bq⟩
                  | true =>
                    rw [show decide (1 ≤ dl ∧ dl ≤ 1000) = true from htk] at HT
                    cases hfit:fitsP f ⟨src,ops⟩ per ph with
                    | true =>
                      rw [hfit] at hHC
                      have HC:=hid hHC
                      have HK:=hid (all_more (p:=(telP f)) hlt hai (by unfold telP;rw [htk];exact hfit) HALL.out)
                      clear g0 g1 g2 g3 g4 hro hA hai htk hHC hfit
                      go_wp2_with (first | (go_at_call 45;refine (HT.out _).mono ?_;rintro x w5 ⟨rfl,rfl⟩) | (go_at_call 47;refine (HC.out _ bq).mono ?_;rintro x w6 ⟨rfl,hb6⟩))
                      exact ⟨hid ⟨i + 1,by go_num,hlt,HK.out,bq⟩,by simp [intOf];omega⟩
                    | false =>
                      rw [hfit] at hHC
                      have HC:=hid hHC
                      obtain rfl:ans = false:=HANS.out.symm.trans (rp_tells (all_no (p:=(telP f)) hlt hai (by unfold telP;rw [htk];exact hfit)))
                      clear g0 g1 g2 g3 g4 hro hA hai htk hHC hfit HANS
                      go_wp2_with (first | (go_at_call 45;refine (HT.out _).mono ?_;rintro x w5 ⟨rfl,rfl⟩) | (go_at_call 47;refine (HC.out _ bq).mono ?_;rintro x w6 ⟨rfl,hb6⟩))
                      exact bodyPost_ret (v:=.bool false) (by simp only [results,Tryz.results21];go_simp) rfl ⟨rfl,bq⟩
                · have hil:¬ (i:Int) < (f.tells.length:Int):=by omega
                  have HE4:=hid (show f.tells.all (telP f) = true by rw [← HALL.out,List.take_of_length_le oq])
                  have hend:=HANS.out.symm.trans (rp_end HE1.out HE2.out HE3.out HE4.out)
                  by_cases h30:f.tasks.length ≤ 30
                  · have h30d:(f.tasks.length:Int) ≤ 30:=by omega
                    obtain rfl:ans = true:=by rw [hend,decide_eq_true h30]
                    clear hend HANS
                    go_wp2
                    exact bodyPost_ret (v:=.bool true) (by simp only [results,Tryz.results21];go_simp) rfl ⟨rfl,bq⟩
                  · have h30d:¬ (f.tasks.length:Int) ≤ 30:=by omega
                    obtain rfl:ans = false:=by rw [hend,decide_eq_false h30]
                    clear hend HANS
                    go_wp2
                    exact bodyPost_ret (v:=.bool false) (by simp only [results,Tryz.results21];go_simp) rfl ⟨rfl,bq⟩
end Go.Proofs.YteaiemfhlpoieaaGreatDoor.syn
