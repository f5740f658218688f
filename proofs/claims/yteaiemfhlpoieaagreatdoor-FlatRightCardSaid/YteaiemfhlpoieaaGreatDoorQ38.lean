/-
  Parts of the proof: Rgt5, Rgt6, Rgt7, Rgt8.
-/
import Derived.StillTailTactics
import Derived.Test.YteaiemfhlpoieaaGreatDoorQ37
namespace Go.Proofs.YteaiemfhlpoieaaGreatDoor.syn
open Go.RowKit Go.Shelf
set_option linter.unusedVariables false
set_option linter.unusedSimpArgs false
theorem rp_many {f:FD} (h:¬ f.tasks.length ≤ 30):rightP f = false:=by unfold rightP;rw [decide_eq_false h,Bool.and_false,Bool.and_false,Bool.and_false,Bool.and_false]
set_option maxRecDepth 100000 in
set_option maxHeartbeats 4000000 in
theorem refRightF_any {w:World} (f:FD) (ai an aT al:Option Addr) (ci cn ct cl:Nat) (hf:FAP w f ai an aT al) :
    Calls Tryz.prog 12 #[fv f ai an aT al ci cn ct cl] w fun x w' => x = .returned (.bool (rightP f)) ∧ Below w.heap.size w w':=by
  have hlens:=hf.lens
  have HCO:=hid (fun (w':World) (hb:Below w.heap.size w w') (a:AD) ad2 cap2 cp cf (hra:Row OpR 3 w' a.ops ad2) (h1:a.ops.length ≤ 1000 ∧ I64 a.src) => refFits_any (w:=w') f ai an aT al ci cn ct cl (hf.below hb) a ad2 cap2 cp cf h1.2 hra h1.1)
  have HF:=hid hf
  obtain ⟨ans,hans⟩:∃ ans,rightP f = ans:=⟨_,rfl⟩
  rw [hans]
  have HANS:=hid hans
  clear hf hans
  unfold fv at *
  go_enter Tryz.func12,Tryz.ntmps12
  go_upto_region 1 with fail
  obtain ⟨W1,hW1⟩:∃ W1,w.alloc (.cells #[.slice ai f.ins.length ci,.slice an f.nods.length cn,.slice aT f.tasks.length ct,.slice al f.tells.length cl] 37) = W1:=⟨_,rfl⟩
  rw [hW1]
  have hB:Below w.heap.size w W1:=by rw [← hW1];exact bq
  have hq0:W1.heap[w.heap.size]? = some (.cells #[.slice ai f.ins.length ci,.slice an f.nods.length cn,.slice aT f.tasks.length ct,.slice al f.tells.length cl] 37 (0,0)):=by rw [← hW1];exact heap_new w _
  have hl0:=lt_of_block hq0
  obtain ⟨⟨x0,x1,x2,x3⟩,xf⟩:=cells4 hq0
  have HB:=hid hB
  have HQ0:=hid hq0
  clear hW1 hB hq0
  have HST:=hid (Below.refl W1.heap.size W1)
  by_cases h30:f.tasks.length ≤ 30
  · have h30d:¬ (f.tasks.length:Int) > 30:=by omega
    go_wp2
    go_loopw [3] (fun s wr => Hid (∃ i:Nat,s = .int .i64 (i:Int) ∧ i ≤ f.ins.length ∧ (f.ins.take i).all (fun c => clock.rightB c.1 c.2) = true ∧ Below W1.heap.size W1 wr)) (fun s _ => f.ins.length - (intOf s).toNat)
    case atStart => exact ⟨0,rfl,Nat.zero_le _,by simp,HST.out⟩
    case round =>
      obtain ⟨i,rfl,hi1,hall,hbw⟩:=hrel.out
      clear hrel x0 x1 x2 x3 xf
      have hzw:=hbw.size
      have HBW:=hid hbw
      have HALL:=hid hall
      have HWW:=hid (HB.out.trans (hbw.mono oq))
      obtain ⟨⟨x0,x1,x2,x3⟩,xf⟩:=cells4 ((hbw.block _ hl0).trans HQ0.out)
      have hj0:w.heap.size < wr.heap.size:=by omega
      clear hall hbw
      by_cases hlt:i < f.ins.length
      · have hil:(i:Int) < (f.ins.length:Int):=by omega
        have hi0:(0:Int) ≤ (i:Int):=by omega
        obtain ⟨bb,oo,rfl,hbb0,g0,g1⟩:=HF.out.ins.at hlt
        obtain ⟨⟨cp,cf⟩,hai⟩:∃ a,f.ins[i] = a:=⟨_,rfl⟩
        rw [hai] at g0 g1
        simp only at g0 g1
        have y0:=(HWW.out.cell (p:=⟨bb,oo + i * 2,none⟩) hbb0).trans g0
        have y1:=(HWW.out.cell (p:=⟨bb,oo + i * 2 + 1,none⟩) hbb0).trans g1
        have HAI:=hid hai
        have HC:=hid (fun w' => clock.refRight_any cp cf w')
        cases hfit:clock.rightB cp cf with
        | true =>
          rw [hfit] at HC
          have HK:=hid (all_more (p:=(fun c => clock.rightB c.1 c.2)) hlt hai hfit HALL.out)
          clear g0 g1 hai hfit
          go_wp2_with (go_at_call 42;refine (HC.out _).mono ?_;rintro x w6 ⟨rfl,hb6⟩)
          exact ⟨hid ⟨i + 1,by go_num,hlt,HK.out,bq⟩,by simp [intOf];omega⟩
        | false =>
          rw [hfit] at HC
          obtain rfl:ans = false:=HANS.out.symm.trans (rp_ins (all_no (p:=(fun c => clock.rightB c.1 c.2)) hlt hai hfit))
          clear g0 g1 hai hfit HANS
          go_wp2_with (go_at_call 42;refine (HC.out _).mono ?_;rintro x w6 ⟨rfl,hb6⟩)
          exact bodyPost_ret (v:=.bool false) (by simp only [results,Tryz.results12];go_simp) rfl ⟨rfl,bq⟩
      · have hil:¬ (i:Int) < (f.ins.length:Int):=by omega
        have HE1:=hid (show f.ins.all (fun c => clock.rightB c.1 c.2) = true by rw [← HALL.out,List.take_of_length_le oq])
        obtain ⟨W2,rfl⟩:∃ W2:World,W2 = wr:=⟨_,rfl⟩
        have HST1:=hid HBW.out
        clear HBW HALL HWW
        go_wp2
        go_loopw [4] (fun s wr => Hid (∃ i:Nat,s = .int .i64 (i:Int) ∧ i ≤ f.nods.length ∧ (f.nods.take i).all (fun n => tickB n.bud) = true ∧ Below W1.heap.size W1 wr)) (fun s _ => f.nods.length - (intOf s).toNat)
        case atStart => exact ⟨0,rfl,Nat.zero_le _,by simp,HST1.out⟩
        case round =>
          obtain ⟨i,rfl,hi2,hall,hbw⟩:=hrel.out
          clear hrel x0 x1 x2 x3 xf
          have hzw:=hbw.size
          have HBW:=hid hbw
          have HALL:=hid hall
          have HWW:=hid (HB.out.trans (hbw.mono oq))
          obtain ⟨⟨x0,x1,x2,x3⟩,xf⟩:=cells4 ((hbw.block _ hl0).trans HQ0.out)
          have hj0:w.heap.size < wr.heap.size:=by omega
          clear hall hbw
          by_cases hlt:i < f.nods.length
          · have hil:(i:Int) < (f.nods.length:Int):=by omega
            have hi0:(0:Int) ≤ (i:Int):=by omega
            obtain ⟨bb,oo,rfl,hbb0,nm,pa,pc,k9,nm2,n2,d2,ea,el,ec,a2,a9,g0,g1,g2,g3,g4,g5,g6,g7,g8,g9⟩:=HF.out.nods.at hlt
            obtain ⟨⟨bud,np⟩,hai⟩:∃ a,f.nods[i] = a:=⟨_,rfl⟩
            rw [hai] at g1 g2
            simp only at g1 g2
            have y0:=(HWW.out.cell (p:=⟨bb,oo + i * 10,none⟩) hbb0).trans g0
            have y1:=(HWW.out.cell (p:=⟨bb,oo + i * 10 + 1,none⟩) hbb0).trans g1
            have y2:=(HWW.out.cell (p:=⟨bb,oo + i * 10 + 2,none⟩) hbb0).trans g2
            have y3:=(HWW.out.cell (p:=⟨bb,oo + i * 10 + 3,none⟩) hbb0).trans g3
            have y4:=(HWW.out.cell (p:=⟨bb,oo + i * 10 + 4,none⟩) hbb0).trans g4
            have y5:=(HWW.out.cell (p:=⟨bb,oo + i * 10 + 5,none⟩) hbb0).trans g5
            have y6:=(HWW.out.cell (p:=⟨bb,oo + i * 10 + 6,none⟩) hbb0).trans g6
            have y7:=(HWW.out.cell (p:=⟨bb,oo + i * 10 + 7,none⟩) hbb0).trans g7
            have y8:=(HWW.out.cell (p:=⟨bb,oo + i * 10 + 8,none⟩) hbb0).trans g8
            have y9:=(HWW.out.cell (p:=⟨bb,oo + i * 10 + 9,none⟩) hbb0).trans g9
            have HAI:=hid hai
            by_cases hb1:bud < 1
            · have hfit:tickB bud = false:=decide_eq_false (fun h => by omega)
              obtain rfl:ans = false:=HANS.out.symm.trans (rp_nods (all_no (p:=(fun n => tickB n.bud)) hlt hai hfit))
              clear g0 g1 g2 g3 g4 g5 g6 g7 g8 g9 hai HANS
              go_wp2
              exact bodyPost_ret (v:=.bool false) (by simp only [results,Tryz.results12];go_simp) rfl ⟨rfl,bq⟩
            · by_cases hb2:bud > 1000
              · have hfit:tickB bud = false:=decide_eq_false (fun h => by omega)
                obtain rfl:ans = false:=HANS.out.symm.trans (rp_nods (all_no (p:=(fun n => tickB n.bud)) hlt hai hfit))
                clear g0 g1 g2 g3 g4 g5 g6 g7 g8 g9 hai HANS
                go_wp2
                exact bodyPost_ret (v:=.bool false) (by simp only [results,Tryz.results12];go_simp) rfl ⟨rfl,bq⟩
              · have hfit:tickB bud = true:=decide_eq_true oq
                have HK:=hid (all_more (p:=(fun n => tickB n.bud)) hlt hai hfit HALL.out)
                clear g0 g1 g2 g3 g4 g5 g6 g7 g8 g9 hai hfit
                go_wp2
                exact ⟨hid ⟨i + 1,by go_num,hlt,HK.out,bq⟩,by simp [intOf];omega⟩
          · have hil:¬ (i:Int) < (f.nods.length:Int):=by omega
            have HE2:=hid (show f.nods.all (fun n => tickB n.bud) = true by rw [← HALL.out,List.take_of_length_le oq])
            obtain ⟨W3,rfl⟩:∃ W3:World,W3 = wr:=⟨_,rfl⟩
            have HST2:=hid HBW.out
            clear HBW HALL HWW
            go_wp2
            go_loopw [5] (fun s wr => Hid (∃ i:Nat,s = .int .i64 (i:Int) ∧ i ≤ f.tasks.length ∧ (f.tasks.take i).all (taskP f) = true ∧ Below W1.heap.size W1 wr)) (fun s _ => f.tasks.length - (intOf s).toNat)
            case atStart => exact ⟨0,rfl,Nat.zero_le _,by simp,HST2.out⟩
            case round =>
              obtain ⟨i,rfl,hi3,hall,hbw⟩:=hrel.out
              clear hrel x0 x1 x2 x3 xf
              have hzw:=hbw.size
              have HBW:=hid hbw
              have HALL:=hid hall
              have HWW:=hid (HB.out.trans (hbw.mono oq))
              obtain ⟨⟨x0,x1,x2,x3⟩,xf⟩:=cells4 ((hbw.block _ hl0).trans HQ0.out)
              have hj0:w.heap.size < wr.heap.size:=by omega
              clear hall hbw
              by_cases hlt:i < f.tasks.length
              · have hil:(i:Int) < (f.tasks.length:Int):=by omega
                have hi0:(0:Int) ≤ (i:Int):=by omega
                obtain ⟨bb,oo,rfl,hbb0,g0,g1,g2,ad2,cap2,g3,hro⟩:=HF.out.tasks.at hlt
                have hA:=HF.out.args _ (List.getElem_mem hlt)
                obtain ⟨⟨nd,per,ph,args⟩,hai⟩:∃ a,f.tasks[i] = a:=⟨_,rfl⟩
                rw [hai] at g0 g1 g2 g3 hro hA
                simp only at g0 g1 g2 g3 hro hA
                have y0:=(HWW.out.cell (p:=⟨bb,oo + i * 4,none⟩) hbb0).trans g0
                have y1:=(HWW.out.cell (p:=⟨bb,oo + i * 4 + 1,none⟩) hbb0).trans g1
                have y2:=(HWW.out.cell (p:=⟨bb,oo + i * 4 + 2,none⟩) hbb0).trans g2
                have y3:=(HWW.out.cell (p:=⟨bb,oo + i * 4 + 3,none⟩) hbb0).trans g3
                have HAI:=hid hai
                have hzz:wr.heap.size ≤ wr.heap.size:=Nat.le_refl _
                obtain ⟨fa,hfa⟩:∃ fa,taskP f ⟨nd,per,ph,args⟩ = fa:=⟨_,rfl⟩
                have HFA:=hid hfa
                have HRO:=hid hro
                have HAA:=hid hA
                have HGG:=hid (And.intro hro hA)
                go_upto_region 17 with fail
                obtain ⟨W9,hW9⟩:∃ W9,wr.alloc (.cells #[.int .i64 nd,.int .i64 per,.int .i64 ph,.slice ad2 args.length cap2] 56) = W9:=⟨_,rfl⟩
                rw [hW9]
                have hb9:Below wr.heap.size wr W9:=by rw [← hW9];exact (Below.refl _ _).alloc (Nat.le_refl _) _
                have bx9:W9.heap[wr.heap.size]? = some (.cells #[.int .i64 nd,.int .i64 per,.int .i64 ph,.slice ad2 args.length cap2] 56 (0,0)):=by rw [← hW9];exact heap_new wr _
                have ho9:=lt_of_block bx9
                have HBW9:=hid (HBW.out.trans (hb9.mono hzw))
                have HB9:=hid (HWW.out.trans (hb9.mono oq))
                have HX9:=hid bx9
                clear hW9 hb9 y0 y1 y2 y3 x0 x1 x2 x3 xf g0 g1 g2 g3 hro hA
                obtain ⟨⟨x0,x1,x2,x3⟩,xf⟩:=cells4 ((HBW9.out.block _ hl0).trans HQ0.out)
                obtain ⟨⟨t0,t1,t2,t3⟩,tf⟩:=cells4 bx9
                clear bx9
                by_cases hn0:nd < 0
                · have hfit:=task_none (f:=f) (t:=⟨nd,per,ph,args⟩) (.inl hn0)
                  obtain rfl:ans = false:=HANS.out.symm.trans (rp_tasks (all_no (p:=(taskP f)) hlt hai hfit))
                  clear hai hfa HANS hfit
                  go_quiet (fail)
                  go_wp2
                  exact bodyPost_ret (v:=.bool false) (by simp only [results,Tryz.results12];go_simp) rfl ⟨rfl,bq⟩
                · by_cases hn1:(f.nods.length:Int) ≤ nd
                  · have hfit:=task_none (f:=f) (t:=⟨nd,per,ph,args⟩) (.inr hn1)
                    have hn1d:nd ≥ (f.nods.length:Int):=hn1
                    obtain rfl:ans = false:=HANS.out.symm.trans (rp_tasks (all_no (p:=(taskP f)) hlt hai hfit))
                    clear hai hfa HANS hfit
                    go_quiet (fail)
                    go_wp2
                    exact bodyPost_ret (v:=.bool false) (by simp only [results,Tryz.results12];go_simp) rfl ⟨rfl,bq⟩
                  · have hn1d:¬ nd ≥ (f.nods.length:Int):=hn1
                    obtain ⟨k,rfl⟩:∃ k:Nat,nd = (k:Int):=⟨nd.toNat,by omega⟩
                    have hk:k < f.nods.length:=by omega
                    have hk0:(0:Int) ≤ (k:Int):=by omega
                    have hk1:(k:Int) < (f.nods.length:Int):=by omega
                    have hts:=task_some (f:=f) (t:=⟨(k:Int),per,ph,args⟩) hk rfl
                    simp only at hts
                    obtain ⟨nb,no,rfl,hnb,nm_,pa_,pc_,k9_,nm2_,n2_,d2_,ea_,el_,ec_,a2_,a9_,_,ny1,_⟩:=HF.out.nods.at hk
                    obtain ⟨np,hnp⟩:∃ np,f.nods[k].nps = np:=⟨_,rfl⟩
                    rw [hnp] at ny1 hts
                    have ny2:=(HB9.out.cell (p:=⟨nb,no + k * 10 + 1,none⟩) hnb).trans ny1
                    clear ny1 hnp
                    by_cases h2:args.length = 0
                    · have hfit:taskP f ⟨(k:Int),per,ph,args⟩ = false:=by rw [hts,decide_eq_false (fun h => h h2),Bool.false_and]
                      obtain rfl:ans = false:=HANS.out.symm.trans (rp_tasks (all_no (p:=(taskP f)) hlt hai hfit))
                      obtain rfl:args = []:=List.eq_nil_of_length_eq_zero h2
                      simp only [List.length_nil] at t3
                      clear hai hfa HANS hfit hts h2
                      go_quiet (fail)
                      go_wp2
                      exact bodyPost_ret (v:=.bool false) (by simp only [results,Tryz.results12];go_simp) rfl ⟨rfl,bq⟩
                    · rw [decide_eq_true h2,Bool.true_and] at hts
                      have h2d:((args.length:Int) == 0) = false:=beq_eq_false_iff_ne.2 oq
                      have h2e:¬ (args.length:Int) = 0:=by omega
                      by_cases h3:args.length = np
                      · subst h3
                        rw [decide_eq_true rfl,Bool.true_and] at hts
                        have h3d:((args.length:Int) != (args.length:Int)) = false:=by simp
                        have HTS:=hid hts
                        have HNO:=hid (fun (h:args.all (fun a => fitsP f a per ph) = false) => HANS.out.symm.trans (rp_tasks (all_no (p:=(taskP f)) hlt hai (hts.trans h))))
                        have HYES:=hid (fun (h:args.all (fun a => fitsP f a per ph) = true) => all_more (p:=(taskP f)) hlt hai (hts.trans h) HALL.out)
                        clear hai hfa hts
                        go_quiet (fail)
                        go_wp2
                        obtain ⟨wo,rfl⟩:∃ wo:World,wo = wr:=⟨_,rfl⟩
                        go_loopw [7] (fun s7 W => Hid (∃ j:Nat,s7 = .int .i64 (j:Int) ∧ j ≤ args.length ∧ (args.take j).all (fun a => fitsP f a per ph) = true ∧ Below W9.heap.size W9 W)) (fun s7 _ => args.length - (intOf s7).toNat)
                        case atStart => exact ⟨0,rfl,Nat.zero_le _,by simp,bq⟩
                        case round =>
                          obtain ⟨j,rfl,hj,hallj,hbj⟩:=hrel.out
                          clear hrel x0 x1 x2 x3 xf t0 t1 t2 t3 tf ny2
                          have hzj:=hbj.size
                          have HBJ:=hid hbj
                          have HALLJ:=hid hallj
                          have HW10:=hid (HB9.out.trans (hbj.mono HB9.out.size))
                          have HBW10:=hid (HBW9.out.trans (hbj.mono HBW9.out.size))
                          obtain ⟨⟨x0,x1,x2,x3⟩,xf⟩:=cells4 ((HBW10.out.block _ hl0).trans HQ0.out)
                          obtain ⟨⟨t0,t1,t2,t3⟩,tf⟩:=cells4 ((hbj.block _ ho9).trans HX9.out)
                          clear hallj hbj
                          by_cases hltj:j < args.length
                          · have hjl:(j:Int) < (args.length:Int):=by omega
                            have hal:args.length ≤ 1000:=HAA.out.1
                            have hj00:(0:Int) ≤ (j:Int):=by omega
                            obtain ⟨ab,ao5,rfl,hab,e0,ad5,cap5,e1,hro5⟩:=HRO.out.at hltj
                            have hA5:=HAA.out.2 _ (List.getElem_mem hltj)
                            obtain ⟨⟨src,ops⟩,haj⟩:∃ a,args[j] = a:=⟨_,rfl⟩
                            rw [haj] at e0 e1 hro5 hA5
                            simp only at e0 e1 hro5 hA5
                            have z0:=(HW10.out.cell (p:=⟨ab,ao5 + j * 2,none⟩) hab).trans e0
                            have z1:=(HW10.out.cell (p:=⟨ab,ao5 + j * 2 + 1,none⟩) hab).trans e1
                            have hHC:=fun (w':World) (hb:Below w.heap.size w w') => HCO.out w' hb ⟨src,ops⟩ ad5 cap5 per ph (hro5.below opSta hb) hA5
                            cases hfit:fitsP f ⟨src,ops⟩ per ph with
                            | true =>
                              rw [hfit] at hHC
                              have HC:=hid hHC
                              have HK:=hid (all_more (p:=fun a => fitsP f a per ph) hltj haj hfit HALLJ.out)
                              clear e0 e1 hro5 hA5 haj hfit hHC
                              go_upto_region 22 with fail
                              go_still_tail 8,(by kernel_rfl)
                              change wpList _ _ _ _ _ wr.drew
                              go_wp2_with (go_at_call 43;refine (HC.out _ bq).mono ?_;rintro x w6 ⟨rfl,hb6⟩)
                              exact ⟨hid ⟨j + 1,by go_num,hltj,HK.out,bq⟩,by simp [intOf];omega⟩
                            | false =>
                              rw [hfit] at hHC
                              have HC:=hid hHC
                              obtain rfl:ans = false:=HNO.out (all_no (p:=fun a => fitsP f a per ph) hltj haj hfit)
                              clear e0 e1 hro5 hA5 haj hfit hHC HNO HANS
                              go_upto_region 22 with fail
                              go_still_tail 8,(by kernel_rfl)
                              change wpList _ _ _ _ _ wr.drew
                              go_wp2_with (go_at_call 43;refine (HC.out _ bq).mono ?_;rintro x w6 ⟨rfl,hb6⟩)
                              exact bodyPost_ret (v:=.bool false) (by simp only [results,Tryz.results12];go_simp) rfl ⟨rfl,bq⟩
                          · have hjl:¬ (j:Int) < (args.length:Int):=by omega
                            have HK:=hid (HYES.out (by rw [← HALLJ.out,List.take_of_length_le oq]))
                            go_wp2
                            exact ⟨hid ⟨i + 1,by go_num,hlt,HK.out,HBW10.out⟩,by simp [intOf];omega⟩
                      · have hfit:taskP f ⟨(k:Int),per,ph,args⟩ = false:=by rw [hts,decide_eq_false h3,Bool.false_and]
                        have h3d:((args.length:Int) != (np:Int)) = true:=bne_iff_ne.2 oq
                        obtain rfl:ans = false:=HANS.out.symm.trans (rp_tasks (all_no (p:=(taskP f)) hlt hai hfit))
                        clear hai hfa HANS hfit hts
                        go_quiet (fail)
                        go_wp2
                        exact bodyPost_ret (v:=.bool false) (by simp only [results,Tryz.results12];go_simp) rfl ⟨rfl,bq⟩
              · have hil:¬ (i:Int) < (f.tasks.length:Int):=by omega
                have HE3:=hid (show f.tasks.all (taskP f) = true by rw [← HALL.out,List.take_of_length_le oq])
                obtain ⟨W4,rfl⟩:∃ W4:World,W4 = wr:=⟨_,rfl⟩
                have HST3:=hid HBW.out
                clear HBW HALL HWW
                go_wp2
                go_loopw [8] (fun s wr => Hid (∃ i:Nat,s = .int .i64 (i:Int) ∧ i ≤ f.tells.length ∧ (f.tells.take i).all (telP f) = true ∧ Below W1.heap.size W1 wr)) (fun s _ => f.tells.length - (intOf s).toNat)
                case atStart => exact ⟨0,rfl,Nat.zero_le _,by simp,HST3.out⟩
                case round =>
                  obtain ⟨i,rfl,hi4,hall,hbw⟩:=hrel.out
                  clear hrel x0 x1 x2 x3 xf
                  have hzw:=hbw.size
                  have HBW:=hid hbw
                  have HALL:=hid hall
                  have HWW:=hid (HB.out.trans (hbw.mono oq))
                  obtain ⟨⟨x0,x1,x2,x3⟩,xf⟩:=cells4 ((hbw.block _ hl0).trans HQ0.out)
                  have hj0:w.heap.size < wr.heap.size:=by omega
                  clear hall hbw
                  by_cases hlt:i < f.tells.length
                  · have hil:(i:Int) < (f.tells.length:Int):=by omega
                    have hi0:(0:Int) ≤ (i:Int):=by omega
                    obtain ⟨bb,oo,rfl,hbb0,g0,g1,g2,g4,ad2,cap2,g3,hro⟩:=HF.out.tells.at hlt
                    have hA:=HF.out.tops _ (List.getElem_mem hlt)
                    obtain ⟨⟨per,ph,⟨src,ops⟩,dl⟩,hai⟩:∃ a,f.tells[i] = a:=⟨_,rfl⟩
                    rw [hai] at g0 g1 g2 g3 g4 hro hA
                    simp only at g0 g1 g2 g3 g4 hro hA
                    have y0:=(HWW.out.cell (p:=⟨bb,oo + i * 5,none⟩) hbb0).trans g0
                    have y1:=(HWW.out.cell (p:=⟨bb,oo + i * 5 + 1,none⟩) hbb0).trans g1
                    have y2:=(HWW.out.cell (p:=⟨bb,oo + i * 5 + 2,none⟩) hbb0).trans g2
                    have y3:=(HWW.out.cell (p:=⟨bb,oo + i * 5 + 3,none⟩) hbb0).trans g3
                    have y4:=(HWW.out.cell (p:=⟨bb,oo + i * 5 + 4,none⟩) hbb0).trans g4
                    have HAI:=hid hai
                    have hHC:=fun (w':World) (hb:Below w.heap.size w w') => HCO.out w' hb ⟨src,ops⟩ ad2 cap2 per ph (hro.below opSta hb) hA
                    by_cases hd1:dl < 1
                    · obtain rfl:ans = false:=HANS.out.symm.trans (rp_tells (all_no (p:=(telP f)) hlt hai (by unfold telP;rw [show tickB dl = false from decide_eq_false (fun h => by omega)];rfl)))
                      clear g0 g1 g2 g3 g4 hro hA hai hHC HANS
                      go_wp2
                      exact bodyPost_ret (v:=.bool false) (by simp only [results,Tryz.results12];go_simp) rfl ⟨rfl,bq⟩
                    · by_cases hd2:dl > 1000
                      · obtain rfl:ans = false:=HANS.out.symm.trans (rp_tells (all_no (p:=(telP f)) hlt hai (by unfold telP;rw [show tickB dl = false from decide_eq_false (fun h => by omega)];rfl)))
                        clear g0 g1 g2 g3 g4 hro hA hai hHC HANS
                        go_wp2
                        exact bodyPost_ret (v:=.bool false) (by simp only [results,Tryz.results12];go_simp) rfl ⟨rfl,bq⟩
                      · have htk:tickB dl = true:=decide_eq_true oq
                        cases hfit:fitsP f ⟨src,ops⟩ per ph with
                        | true =>
                          rw [hfit] at hHC
                          have HC:=hid hHC
                          have HK:=hid (all_more (p:=(telP f)) hlt hai (by unfold telP;rw [htk];exact hfit) HALL.out)
                          clear g0 g1 g2 g3 g4 hro hA hai hHC hfit htk
                          go_wp2_with (go_at_call 43;refine (HC.out _ bq).mono ?_;rintro x w6 ⟨rfl,hb6⟩)
                          exact ⟨hid ⟨i + 1,by go_num,hlt,HK.out,bq⟩,by simp [intOf];omega⟩
                        | false =>
                          rw [hfit] at hHC
                          have HC:=hid hHC
                          obtain rfl:ans = false:=HANS.out.symm.trans (rp_tells (all_no (p:=(telP f)) hlt hai (by unfold telP;rw [htk];exact hfit)))
                          clear g0 g1 g2 g3 g4 hro hA hai hHC hfit htk HANS
                          go_wp2_with (go_at_call 43;refine (HC.out _ bq).mono ?_;rintro x w6 ⟨rfl,hb6⟩)
                          exact bodyPost_ret (v:=.bool false) (by simp only [results,Tryz.results12];go_simp) rfl ⟨rfl,bq⟩
                  · have hil:¬ (i:Int) < (f.tells.length:Int):=by omega
                    have HE4:=hid (show f.tells.all (telP f) = true by rw [← HALL.out,List.take_of_length_le oq])
                    have hend:=HANS.out.symm.trans (rp_end HE1.out HE2.out HE3.out HE4.out)
                    obtain rfl:ans = true:=by rw [hend,decide_eq_true h30]
                    clear hend HANS
                    go_wp2
                    exact bodyPost_ret (v:=.bool true) (by simp only [results,Tryz.results12];go_simp) rfl ⟨rfl,bq⟩
  · have h30d:(f.tasks.length:Int) > 30:=by omega
    obtain rfl:ans = false:=HANS.out.symm.trans (rp_many h30)
    clear HANS
    go_wp2
    exact bodyPost_ret (v:=.bool false) (by simp only [results,Tryz.results12];go_simp) rfl ⟨rfl,bq⟩
theorem flat_get {α:Type} {size:Nat}:∀ (cs:List (List α)) (i j:Nat),(∀ c ∈ cs,c.length = size) → ∀ h:i < cs.length,j < size → cs.flatten[i * size + j]? = cs[i][j]?
  | [],i,j,_,h,_ => absurd h (Nat.not_lt_zero _)
  | c :: cs,0,j,hl,_,hj => by
    have h1:c.length = size:=hl c (by simp)
    rw [List.flatten_cons,Nat.zero_mul,Nat.zero_add,List.getElem?_append_left oq]
    rfl
  | c :: cs,i + 1,j,hl,h,hj => by
    have h1:c.length = size:=hl c (by simp)
    have e:(i + 1) * size + j = c.length + (i * size + j):=by rw [h1,Nat.succ_mul];omega
    rw [List.flatten_cons,e,List.getElem?_append_right oq,Nat.add_sub_cancel_left]
    rw [flat_get cs i j (fun c' hc => hl c' (by simp [hc])) (by simpa using h) hj]
    rfl
theorem RowM.row {α β:Type} {Pe:World → List Value → α → Prop} {P:World → Nat → Nat → β → Prop} {e:TypeId} {size:Nat} {w:World} {base:Nat} {v:Value} {l:List α} (F:α → β) (h:RowM Pe e size w base v l)
    (hP:∀ (g o:Nat) (c:List Value) (x:α),g < w.heap.size → x ∈ l → c.length = size → Pe w c x → (∀ j,j < size → w.cell? ⟨g,o + j,none⟩ = c[j]?) → P w g o (F x)) :
    ∃ ad cap,v = .slice ad l.length cap ∧ Row P size w (l.map F) ad:=by
  obtain ⟨cs,h1,h2,h3,h4⟩:=h
  rcases h2.2 with ⟨rfl,h0⟩ | ⟨g,cap,cur,rfl,hbg,hg,hnc,hcm,hcs,htk⟩
  · obtain rfl:l = []:=List.eq_nil_of_length_eq_zero h0
    exact ⟨none,0,rfl,.inl rfl⟩
  · refine ⟨_,_,rfl,?_⟩
    by_cases hl:l = []
    · exact .inl (by rw [hl];rfl)
    · refine .inr ⟨g,0,rfl,lt_of_block hg,fun i hi => ?_⟩
      have hi2:i < l.length:=by simpa using hi
      have hi3:i < cs.length:=by omega
      rw [List.getElem_map]
      refine hP g _ cs[i] l[i] (lt_of_block hg) (List.getElem_mem hi2) (h3 _ (List.getElem_mem hi3)) (h4 i hi2 hi3) (fun j hj => ?_)
      rw [← flat_get cs i j h3 hi3 hj,← htk,List.getElem?_take_of_lt (by
        have:(i + 1) * size ≤ l.length * size:=Nat.mul_le_mul_right _ hi2
        rw [Nat.succ_mul] at this
        omega),Array.getElem?_toList,Nat.zero_add]
      exact cell_row hg _
theorem opsV_flat:∀ l:List Op3,opsV l = (l.map opL).flatten
  | [] => rfl
  | o :: l => by
    rw [List.map_cons,List.flatten_cons,← opsV_flat l]
    rfl
theorem ops_row {w:World} {base:Nat} {v:Value} {ops:List Op3} (h:w.ownsRow base 102 3 v ops.length (opsV ops)):∃ ad cap,v = .slice ad ops.length cap ∧ Row OpR 3 w ops ad:=by
  have hm:RowM (fun _ c (x:Op3) => c = opL x) 102 3 w base v ops:=⟨ops.map opL,by simp,by rw [← opsV_flat];exact h,fun c hc => by obtain ⟨x,_,rfl⟩:=List.mem_map.1 hc;rfl,fun i hi hi' => by rw [List.getElem_map]⟩
  have:=hm.row (P:=OpR) (fun x => x) (fun g o c x hg hx hc hPe hcell => by
    subst hPe
    exact ⟨hcell 0 oq,hcell 1 oq,hcell 2 oq⟩)
  rwa [List.map_id'] at this
theorem clk_row {w:World} {base:Nat} {v:Value} {l:List (Int × Int)} (h:RowM ClkC 53 2 w base v l):∃ ad cap,v = .slice ad l.length cap ∧ Row ClkR 2 w l ad:=by
  have:=h.row (P:=ClkR) (fun x => x) (fun g o c x hg hx hc hPe hcell => by
    have hPe:c = [.int .i64 x.1,.int .i64 x.2]:=hPe
    subst hPe
    exact ⟨hcell 0 oq,hcell 1 oq⟩)
  rwa [List.map_id'] at this
def toAD (a:Nat × List Op3):AD:=⟨(a.1:Int),a.2⟩
def toTD (t:TK):TD:=⟨t.node,t.per,t.ph,t.args.map toAD⟩
def toLD (t:TL):LD:=⟨t.per,t.ph,⟨(t.src:Int),t.ops⟩,t.dl⟩
def toNB (x:ND):NB:=⟨x.bud,x.ps.length⟩
theorem arg_row {w:World} {base:Nat} {v:Value} {l:List (Nat × List Op3)} (h:RowM (ArgC base) 63 2 w base v l):∃ ad cap,v = .slice ad l.length cap ∧ Row ArgR 2 w (l.map toAD) ad :=
  h.row (P:=ArgR) toAD (fun g o c x hg hx hc hPe hcell => by
    obtain ⟨u,rfl,ho⟩:=hPe
    obtain ⟨ad2,cap2,rfl,hr⟩:=ops_row ho
    exact ⟨hcell 0 oq,ad2,cap2,hcell 1 oq,hr⟩)
theorem task_row {w:World} {base:Nat} {v:Value} {l:List TK} (h:RowM (TaskC base) 56 4 w base v l):∃ ad cap,v = .slice ad l.length cap ∧ Row TskR 4 w (l.map toTD) ad :=
  h.row (P:=TskR) toTD (fun g o c x hg hx hc hPe hcell => by
    obtain ⟨u,rfl,ho⟩:=hPe
    obtain ⟨ad2,cap2,rfl,hr⟩:=arg_row ho
    exact ⟨hcell 0 oq,hcell 1 oq,hcell 2 oq,ad2,cap2,by rw [show (toTD x).args.length = x.args.length by simp [toTD]];exact hcell 3 oq,hr⟩)
theorem tell_row {w:World} {base:Nat} {v:Value} {l:List TL} (h:RowM (TellC base) 68 5 w base v l):∃ ad cap,v = .slice ad l.length cap ∧ Row TelR 5 w (l.map toLD) ad :=
  h.row (P:=TelR) toLD (fun g o c x hg hx hc hPe hcell => by
    obtain ⟨u,rfl,ho⟩:=hPe
    obtain ⟨ad2,cap2,rfl,hr⟩:=ops_row ho
    exact ⟨hcell 0 oq,hcell 1 oq,hcell 2 oq,hcell 4 oq,ad2,cap2,hcell 3 oq,hr⟩)
theorem node_row {w:World} {base:Nat} {v:Value} {l:List ND} (h:RowM NodC 78 10 w base v l):∃ ad cap,v = .slice ad l.length cap ∧ Row NdR 10 w (l.map toNB) ad :=
  h.row (P:=NdR) toNB (fun g o c x hg hx hc hPe hcell => by
    obtain ⟨pa,pc,ad,cap,rfl⟩:=hPe
    exact ⟨_,_,_,_,_,_,_,_,_,_,_,_,hcell 0 oq,hcell 1 oq,hcell 2 oq,hcell 3 oq,hcell 4 oq,hcell 5 oq,hcell 6 oq,hcell 7 oq,hcell 8 oq,hcell 9 oq⟩)
theorem argGo_few {flows:List FL} {nI:Nat} {xIx fIx iIx:IE}:∀ (N:Nat) (e:PE) (way:ByteArray) (ops:List Op3) (r:Nat × List Op3),ops.length ≤ 21 → argGo flows nI xIx fIx iIx N e way ops = some r → r.2.length ≤ 21
  | 0,e,way,ops,r,hl,h => by cases h
  | N + 1,e,way,ops,r,hl,h => by
    unfold argGo at h
    split at h
    · cases h;exact hl
    · rename_i h20
      split at h
      · cases h;exact hl
      · split at h
        · split at h
          · exact argGo_few N _ _ _ r (by rw [List.length_append,List.length_cons,List.length_nil];omega) h
          · cases h
        · split at h
          · split at h
            · exact argGo_few N _ _ _ r hl h
            · cases h
          · cases h;exact hl
theorem argGo_src {flows:List FL} {nI:Nat} {xIx fIx iIx:IE} (hx:∀ k j,xIx k = some j → j ≤ 1000) (hi:∀ k j,iIx k = some j → j ≤ 1000) (hn:nI ≤ 1000):∀ (N:Nat) (e:PE) (way:ByteArray) (ops:List Op3) (r:Nat × List Op3),argGo flows nI xIx fIx iIx N e way ops = some r → r.1 ≤ 2000
  | 0,e,way,ops,r,h => by cases h
  | N + 1,e,way,ops,r,h => by
    unfold argGo at h
    split at h
    · cases h;exact Nat.zero_le _
    · split at h
      · cases h
        show nI + (xIx way).getD 0 ≤ 2000
        cases hq:xIx way with
        | none => simp;omega
        | some j => have:=hx _ _ hq;simp;omega
      · split at h
        · split at h
          · exact argGo_src hx hi hn N _ _ _ r h
          · cases h
        · split at h
          · split at h
            · exact argGo_src hx hi hn N _ _ _ r h
            · cases h
          · cases h
            show (iIx e.nm).getD 0 ≤ 2000
            cases hq:iIx e.nm with
            | none => simp
            | some j => have:=hi _ _ hq;simp;omega
theorem spots_ok:∀ (l:PL) (way:ByteArray) (i:Nat),exR l = true → ∀ s ∈ spotsL l way i,exprOK s.1 = true ∧ s.1.args.sz + 1 ≤ l.sz:=by
  intro l
  induction l with
  | nil => intro way i h s hs;simp [spotsL] at hs
  | cons k nm n d args a tl ih1 ih2 =>
    intro way i h s hs
    have h0:=exR_at (.cons k nm n d args a tl) 0 ⟨k,nm,n,d,args,a⟩ h rfl
    have h1:exR args = true:=by
      have:=h0
      unfold exprOK at this
      rw [Bool.and_eq_true] at this
      exact this.1
    have h2:exR tl = true:=by
      rw [exR,Bool.and_eq_true] at h
      exact h.2
    simp only [spotsL,List.mem_cons,List.mem_append] at hs
    rw [show (PL.cons k nm n d args a tl).sz = args.sz + 1 + tl.sz from rfl]
    rcases hs with rfl | hs | hs
    · exact ⟨h0,by show args.sz + 1 ≤ _;omega⟩
    · obtain ⟨h3,h4⟩:=ih1 _ _ h1 s hs
      exact ⟨h3,by omega⟩
    · obtain ⟨h3,h4⟩:=ih2 _ _ h2 s hs
      exact ⟨h3,by omega⟩
theorem spotsE_ok {e:PE} {way:ByteArray} (h:exprOK e = true):∀ s ∈ spotsE e way,exprOK s.1 = true ∧ s.1.args.sz + 1 ≤ e.sz:=by
  intro s hs
  unfold spotsE at hs
  rcases List.mem_cons.1 hs with rfl | hs
  · exact ⟨h,Nat.le_refl _⟩
  · have h1:=h
    unfold exprOK at h1
    rw [Bool.and_eq_true] at h1
    obtain ⟨h3,h4⟩:=spots_ok _ _ _ h1.1 s hs
    exact ⟨h3,by unfold PE.sz;omega⟩
theorem callsF_ok:∀ (l:List FL) (i:Nat),(∀ f ∈ l,f.e.sz ≤ 100 ∧ exprOK f.e = true) → ∀ s ∈ callsF l i,exprOK s.1 = true ∧ s.1.args.sz + 1 ≤ 100 ∧ s.1.k = 2
  | [],i,h,s,hs => by simp [callsF] at hs
  | f :: l,i,h,s,hs => by
    unfold callsF at hs
    rcases List.mem_append.1 hs with hs | hs
    · obtain ⟨h1,h2⟩:=List.mem_filter.1 hs
      obtain ⟨h3,h4⟩:=spotsE_ok (h f (by simp)).2 s h1
      have:=(h f (by simp)).1
      exact ⟨h3,by omega,by simpa [isC] using h2⟩
    · exact callsF_ok l (i + 1) (fun f' hf => h f' (by simp [hf])) s hs
theorem kids_mem:∀ (l:PL) (way:ByteArray) (i:Nat),exR l = true → ∀ k ∈ kidsE l way i,exprOK k.1 = true:=by
  intro l
  induction l with
  | nil => intro way i h k hk;simp [kidsE] at hk
  | cons k nm n d args a tl ih1 ih2 =>
    intro way i h s hs
    have h0:=exR_at (.cons k nm n d args a tl) 0 ⟨k,nm,n,d,args,a⟩ h rfl
    have h2:exR tl = true:=by
      rw [exR,Bool.and_eq_true] at h
      exact h.2
    simp only [kidsE,List.mem_cons] at hs
    rcases hs with rfl | hs
    · exact h0
    · exact ih2 _ _ h2 s hs
noncomputable def fdOf (p:PG) (env:Env):FD :=
  ⟨p.ins.map (fun x => (x.per,x.ph)),p.nodes.map toNB,(callsF p.flows 0).map (fun s => toTD (tkR p (xI p) (fI p) (iI p) (nI p) (fEnv p env) s)),p.outs.map (fun o => toLD (tlR p (xI p) (fI p) (iI p) (fEnv p env) o))⟩
theorem argR_ok {p:PG} (hE:∀ e:PE,exprOK e = true → ArgEnds p.flows p.ins.length (xI p) (fI p) (iI p) e) (h30:(callsF p.flows 0).length ≤ 30) (hin:p.ins.length ≤ 1000) {e:PE} (he:exprOK e = true) (way:ByteArray) :
    (argR p (xI p) (fI p) (iI p) e way).2.length ≤ 21 ∧ (argR p (xI p) (fI p) (iI p) e way).1 ≤ 2000:=by
  obtain ⟨N,hN⟩:=argR_spec (hE e he) way
  exact ⟨argGo_few N _ _ _ _ (by simp) hN,argGo_src (inI_le _ _ _ 1000 (by rw [List.length_map];omega) (fun k j h => by cases h)) (inI_le _ _ _ 1000 (by rw [List.length_map];omega) (fun k j h => by cases h)) hin N _ _ _ _ hN⟩
theorem mak_fap {p:PG} {env:Env} {base:Nat} {w:World} {v:Value} (h:MakF p env base w v) (hok:PgOK p) (hE:∀ e:PE,exprOK e = true → ArgEnds p.flows p.ins.length (xI p) (fI p) (iI p) e) (h30:(callsF p.flows 0).length ≤ 30)
    (hout:∀ o ∈ p.outs,∃ j,fI p o.fl = some j ∧ j < p.flows.length) :
    ∃ ai an aT al ci cn ct cl,v = fv (fdOf p env) ai an aT al ci cn ct cl ∧ FAP w (fdOf p env) ai an aT al:=by
  obtain ⟨vI,vN,vT,vL,rfl,r1,r2,r3,r4⟩:=h
  obtain ⟨ai,ci,rfl,q1⟩:=clk_row r1
  obtain ⟨an,cn,rfl,q2⟩:=node_row r2
  obtain ⟨aT,ct,rfl,q3⟩:=task_row r3
  obtain ⟨al,cl,rfl,q4⟩:=tell_row r4
  have hl:=hok.lens
  rw [List.map_map] at q3 q4
  refine ⟨ai,an,aT,al,ci,cn,ct,cl,by unfold fv fdOf;simp only [List.length_map],q1,q2,q3,q4,by unfold fdOf;simp only [List.length_map];omega,?_,?_⟩
  · intro t ht
    obtain ⟨s,hs,rfl⟩:=List.mem_map.1 ht
    obtain ⟨h1,h2,_⟩:=callsF_ok p.flows 0 hok.flows s hs
    have h3:=len_le_sz s.1.args
    have h4:exR s.1.args = true:=by
      unfold exprOK at h1
      rw [Bool.and_eq_true] at h1
      exact h1.1
    refine ⟨by simp [toTD,tkR,kidsE_len];omega,fun a ha => ?_⟩
    simp only [toTD,tkR,List.map_map,List.mem_map] at ha
    obtain ⟨kd,hkd,rfl⟩:=ha
    obtain ⟨g1,g2⟩:=argR_ok hE h30 oq (kids_mem _ _ _ h4 kd hkd) kd.2
    simp only [Function.comp,toAD,List.length_reverse,I64]
    omega
  · intro t ht
    obtain ⟨o,ho,rfl⟩:=List.mem_map.1 ht
    obtain ⟨j,hj,hjl⟩:=hout o ho
    have hx:exprOK (flE p ((fI p o.fl).getD 0)) = true:=by
      rw [hj]
      unfold flE
      rw [Option.getD_some,List.getElem?_eq_getElem hjl]
      exact (hok.flows _ (List.getElem_mem hjl)).2
    obtain ⟨g1,g2⟩:=argR_ok hE h30 oq hx (dg ((fI p o.fl).getD 0))
    simp only [toLD,tlR,List.length_reverse,I64]
    omega
def fdOne:FD:=⟨[(3,0)],[],[],[]⟩
def fdNone:FD:=⟨[],[],[],[]⟩
theorem fap_none (w:World):FAP w fdNone none none none none :=
  ⟨.inl rfl,.inl rfl,.inl rfl,.inl rfl,by unfold fdNone;simp,(fun t ht => by cases ht),(fun t ht => by cases ht)⟩
theorem fap_one (w:World):FAP (w.alloc (.cells #[.int .i64 3,.int .i64 0] 53)) fdOne (some ⟨w.heap.size,0,none⟩) none none none:=by
  refine ⟨.inr ⟨w.heap.size,0,rfl,by simp,fun i hi => ?_⟩,.inl rfl,.inl rfl,.inl rfl,by unfold fdOne;simp,(fun t ht => by cases ht),(fun t ht => by cases ht)⟩
  have hi1:i < 1:=hi
  obtain rfl:i = 0:=by omega
  obtain ⟨⟨h0,h1⟩,_⟩:=cells2 (heap_new w (.cells #[.int .i64 3,.int .i64 0] 53))
  exact ⟨h0,h1⟩
set_option maxRecDepth 100000 in
theorem awake_flat {w:World}:Calls Tryz.prog 5 #[] w fun x w' => x = .returned (.bool true) ∧ Below w.heap.size w w':=by
  have HS:=hid (fun (w':World) => source_any (w:=w'.alloc (.cells #[.int .i64 3,.int .i64 0] 53)) fdOne (some ⟨w'.heap.size,0,none⟩) none none none 1 0 0 0 (fap_one w') 0 (by unfold I64;omega))
  have HR:=hid (fun (w':World) => flatRight_any (w:=w') fdNone none none none none 0 0 0 0 (fap_none w'))
  rw [show srcP fdOne 0 = some (3,0) from rfl] at HS
  rw [show rightP fdNone = true from rfl] at HR
  unfold fv srcV fdOne fdNone at *
  simp only [List.length_cons,List.length_nil,Nat.zero_add,Option.getD_some,Option.isSome_some] at HS HR
  go_enter Tryz.func5,Tryz.ntmps5
  go_wp2_with (first | (go_at_call 22;refine (HS.out _).mono ?_;rintro x w3 ⟨rfl,hb3⟩;have hz3:w.heap.size < w3.heap.size:=(by have h:=hb3.size;simp at h;omega)) | (go_at_call 21;refine (HR.out _).mono ?_;rintro x w4 ⟨rfl,hb4⟩))
  exact bodyPost_ret (v:=.bool true) (by simp only [results,Tryz.results5];go_simp) rfl ⟨rfl,bq⟩
end Go.Proofs.YteaiemfhlpoieaaGreatDoor.syn
