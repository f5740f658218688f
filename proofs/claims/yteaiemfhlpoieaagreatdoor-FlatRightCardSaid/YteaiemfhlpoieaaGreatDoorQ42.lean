/-
  Parts of the proof: BentF, FlG.
-/
import Derived.Deep.DeepCutAuto
import Derived.Deep.CutBlock
import Derived.StillTailTactics
import Derived.Test.YteaiemfhlpoieaaGreatDoorQ40
import Derived.Test.YteaiemfhlpoieaaGreatDoorQ38
import Derived.Test.YteaiemfhlpoieaaGreatDoorQ41
namespace Go.Proofs.YteaiemfhlpoieaaGreatDoor.syn
open Go.RowKit
set_option linter.unusedVariables false
set_option linter.unusedSimpArgs false
set_option maxRecDepth 100000 in
set_option maxHeartbeats 8000000 in
theorem bent_f {w0 w:World} (f:FD) (ai an aT al:Option Addr) (ci cn ct cl:Nat) (hf:FAP w0 f ai an aT al) (hw0:Below w0.heap.size w0 w) (hargs:∀ t ∈ f.tasks,0 < t.args.length) (a:Nat) (ha:a ≤ 255) (tov:Int) (htov:I64 tov) (how:Nat) (hhow:how ≤ 255) (hhm:how % 6 = 3 ∨ how % 6 = 4) :
    Calls Tryz.prog 20 #[fv f ai an aT al ci cn ct cl,.int .i64 (a:Int),.int .i64 tov,.int .u8 (how:Int)] w fun x w' => BentAns w0.heap.size w.heap.size x w' ∧ Below w.heap.size w w':=by
  have hlens:=hf.lens
  have hw0s:=hw0.size
  have HF:=hid hf
  clear hf
  unfold fv
  go_enter Tryz.func20,Tryz.ntmps20
  go_upto_region 1 with fail
  obtain ⟨W2,hW2⟩:∃ W2,(w.alloc (.cells #[.slice ai f.ins.length ci,.slice an f.nods.length cn,.slice aT f.tasks.length ct,.slice al f.tells.length cl] 37)).alloc (.cells #[.slice none 0 0,.slice none 0 0,.slice none 0 0,.slice none 0 0] 37) = W2:=⟨_,rfl⟩
  rw [hW2]
  have hBw:Below w.heap.size w W2:=by rw [← hW2];exact bq
  have hB:Below w0.heap.size w0 W2:=hw0.trans (hBw.mono hw0s)
  have hs2:w.heap.size + 2 ≤ W2.heap.size:=by rw [← hW2];simp
  have hq0:W2.heap[w.heap.size]? = some (.cells #[.slice ai f.ins.length ci,.slice an f.nods.length cn,.slice aT f.tasks.length ct,.slice al f.tells.length cl] 37 (0,0)):=by rw [← hW2];exact (Below.heap_alloc _ _ _ (by simp)).trans (heap_new w _)
  have hr0:W2.heap[w.heap.size + 1]? = some (.cells #[.slice none 0 0,.slice none 0 0,.slice none 0 0,.slice none 0 0] 37 (0,0)):=by rw [← hW2];simpa using heap_new (w.alloc (.cells #[.slice ai f.ins.length ci,.slice an f.nods.length cn,.slice aT f.tasks.length ct,.slice al f.tells.length cl] 37)) _
  have hl0:=lt_of_block hq0
  have hl1:=lt_of_block hr0
  have HB:=hid hB
  have HBw:=hid hBw
  have HQ:=hid hq0
  have HR:=hid hr0
  obtain ⟨⟨x0,x1,x2,x3⟩,xf⟩:=b9_cells4 hq0
  obtain ⟨n1,hn1a,hn1b,hn1c⟩:=row_news clkHas oq HF.out.ins
  obtain ⟨i0,hi0,hi1,hi2,hi3⟩:=lite.info_parts b9_infoClk
  clear hW2 hB hBw hq0 hr0
  go_upto_region 2 with (refine lite.wpList_append_gen _ (by rfl) _ _ _ (by rfl) W2.heap.size 53 i0 _ 2 16 Tryz.underlying30 hi0 hi1 hi2 hi3 rfl oq (.slice (some ⟨W2.heap.size,0,none⟩) 0 0) 0 [] (by rfl) (b9_own0 W2 W2 _ _ (Nat.le_refl _)) ai f.ins.length ci n1 (by rfl) hn1a (fun j u hj => by obtain ⟨b,o,e,hb,hc⟩:=hn1b j u hj;exact ⟨_,e,by rw [show (⟨b,o,none⟩:Addr).add j = ⟨b,o + j,none⟩ from by unfold Addr.add;split <;> simp_all];exact ((HB.out.alloc (by have h:=HB.out.size;omega) (.cells #[] 53)).cell (p:=⟨b,o + j,none⟩) hb).trans hc⟩) hn1c (by unfold maxLen;omega) oq (by simp) ?_;intro v1 w4 hown4 hg4 hl4;have hb4:Below W2.heap.size W2 w4:=Below.grown ((Below.refl W2.heap.size W2).alloc (Nat.le_refl _) (.cells #[] 53)) hg4 (by simp) (fun k e => by simp [Value.ownBlock] at e;omega);have hq4:=(hb4.block _ hl0).trans HQ.out;obtain ⟨⟨y0,y1,y2,y3⟩,yf⟩:=b9_cells4 hq4;rw [Nat.zero_add,List.nil_append] at hown4;have hs4:=hb4.size;obtain ⟨ai2,ci2,rfl,hcp4⟩:=cp_own hown4 hn1a hn1b)
  obtain ⟨W3,hW⟩:∃ W,w4.setCell ⟨w.heap.size,0,none⟩ (.slice ai2 f.ins.length ci2) = W:=⟨_,rfl⟩;have hk_W3:Upon w.heap.size w4 W3:=by rw [← hW];exact b9_upon_set _
  have hu_W3:Upon w.heap.size W2 W3:=(Upon.of_below hb4).trans hk_W3;have hq_W3:W3.heap[w.heap.size]? = some (.cells #[.slice ai2 f.ins.length ci2,.slice an f.nods.length cn,.slice aT f.tasks.length ct,.slice al f.tells.length cl] 37 (0,0)):=by rw [← hW];simpa only [sA,sB,sC] using heap_setCell_same _ w.heap.size 0 _ _ _ hq4
  have hr_W3:=(hu_W3.block _ hl1 oq).trans HR.out;have ht_W3:w4.heap.size = W3.heap.size:=by rw [← hW];simp
  have hc_W3:=hcp4.upon hk_W3 (.inl oq);rw [ht_W3] at hc_W3 hs4;have hB_W3:Below w0.heap.size w0 W3:=HB.out.trans (hu_W3.below oq oq);have hBw_W3:Below w.heap.size w W3:=HBw.out.trans (hu_W3.below oq oq);rw [hW];have HC_W3:=hid hc_W3;have HU_W3:=hid hu_W3;have hl0_W3:=lt_of_block hq_W3;have hl1_W3:=lt_of_block hr_W3
  clear hW hk_W3 ht_W3 hc_W3 hu_W3 hb4 hg4 hl4 hown4 hq4 y0 y1 y2 y3 yf x0 x1 x2 x3 xf HB HBw HQ HR hl0 hl1 hcp4 hn1a hn1b hn1c n1 hi0 hi1 hi2 hi3 i0;clear w4;have hss_W3:=hs4;clear hs4
  have HB:=hid hB_W3;have HBw:=hid hBw_W3;have HQ:=hid hq_W3;have HR:=hid hr_W3;have hl0:=hl0_W3;have hl1:=hl1_W3;obtain ⟨⟨x0,x1,x2,x3⟩,xf⟩:=b9_cells4 hq_W3;clear hB_W3 hBw_W3 hq_W3 hr_W3 hl0_W3 hl1_W3
  obtain ⟨n1,hn1a,hn1b,hn1c⟩:=row_news tskHas oq HF.out.tasks
  obtain ⟨i0,hi0,hi1,hi2,hi3⟩:=lite.info_parts b9_infoTask
  go_upto_region 3 with (refine lite.wpList_append_gen _ (by rfl) _ _ _ (by rfl) W3.heap.size 56 i0 _ 4 48 Tryz.underlying34 hi0 hi1 hi2 hi3 rfl oq (.slice (some ⟨W3.heap.size,0,none⟩) 0 0) 0 [] (by rfl) (b9_own0 W3 W3 _ _ (Nat.le_refl _)) aT f.tasks.length ct n1 (by rfl) hn1a (fun j u hj => by obtain ⟨b,o,e,hb,hc⟩:=hn1b j u hj;exact ⟨_,e,by rw [show (⟨b,o,none⟩:Addr).add j = ⟨b,o + j,none⟩ from by unfold Addr.add;split <;> simp_all];exact ((HB.out.alloc (by have h:=HB.out.size;omega) (.cells #[] 56)).cell (p:=⟨b,o + j,none⟩) hb).trans hc⟩) hn1c (by unfold maxLen;omega) oq (by simp) ?_;intro v1 w4 hown4 hg4 hl4;have hb4:Below W3.heap.size W3 w4:=Below.grown ((Below.refl W3.heap.size W3).alloc (Nat.le_refl _) (.cells #[] 56)) hg4 (by simp) (fun k e => by simp [Value.ownBlock] at e;omega);have hq4:=(hb4.block _ hl0).trans HQ.out;obtain ⟨⟨y0,y1,y2,y3⟩,yf⟩:=b9_cells4 hq4;rw [Nat.zero_add,List.nil_append] at hown4;have hs4:=hb4.size;obtain ⟨aT2,ct2,rfl,hcp4⟩:=cp_own hown4 hn1a hn1b)
  obtain ⟨W4,hW⟩:∃ W,w4.setCell ⟨w.heap.size,2,none⟩ (.slice aT2 f.tasks.length ct2) = W:=⟨_,rfl⟩;have hk_W4:Upon w.heap.size w4 W4:=by rw [← hW];exact b9_upon_set _
  have hu_W4:Upon w.heap.size W3 W4:=(Upon.of_below hb4).trans hk_W4;have hq_W4:W4.heap[w.heap.size]? = some (.cells #[.slice ai2 f.ins.length ci2,.slice an f.nods.length cn,.slice aT2 f.tasks.length ct2,.slice al f.tells.length cl] 37 (0,0)):=by rw [← hW];simpa only [sA,sB,sC] using heap_setCell_same _ w.heap.size 2 _ _ _ hq4
  have hr_W4:=(hu_W4.block _ hl1 oq).trans HR.out;have ht_W4:w4.heap.size = W4.heap.size:=by rw [← hW];simp
  have hc_W4:=hcp4.upon hk_W4 (.inl oq);rw [ht_W4] at hc_W4 hs4;have hB_W4:Below w0.heap.size w0 W4:=HB.out.trans (hu_W4.below oq oq);have hBw_W4:Below w.heap.size w W4:=HBw.out.trans (hu_W4.below oq oq);rw [hW];have HC_W4:=hid hc_W4;have HU_W4:=hid hu_W4;have hl0_W4:=lt_of_block hq_W4;have hl1_W4:=lt_of_block hr_W4
  clear hW hk_W4 ht_W4 hc_W4 hu_W4 hb4 hg4 hl4 hown4 hq4 y0 y1 y2 y3 yf x0 x1 x2 x3 xf HB HBw HQ HR hl0 hl1 hcp4 hn1a hn1b hn1c n1 hi0 hi1 hi2 hi3 i0;clear w4;have hss_W4:=hs4;clear hs4
  have HB:=hid hB_W4;have HBw:=hid hBw_W4;have HQ:=hid hq_W4;have HR:=hid hr_W4;have hl0:=hl0_W4;have hl1:=hl1_W4;obtain ⟨⟨x0,x1,x2,x3⟩,xf⟩:=b9_cells4 hq_W4;clear hB_W4 hBw_W4 hq_W4 hr_W4 hl0_W4 hl1_W4
  obtain ⟨n1,hn1a,hn1b,hn1c⟩:=row_news telHas oq HF.out.tells
  obtain ⟨i0,hi0,hi1,hi2,hi3⟩:=lite.info_parts b9_infoTell
  go_upto_region 4 with (refine lite.wpList_append_gen _ (by rfl) _ _ _ (by rfl) W4.heap.size 68 i0 _ 5 56 Tryz.underlying35 hi0 hi1 hi2 hi3 rfl oq (.slice (some ⟨W4.heap.size,0,none⟩) 0 0) 0 [] (by rfl) (b9_own0 W4 W4 _ _ (Nat.le_refl _)) al f.tells.length cl n1 (by rfl) hn1a (fun j u hj => by obtain ⟨b,o,e,hb,hc⟩:=hn1b j u hj;exact ⟨_,e,by rw [show (⟨b,o,none⟩:Addr).add j = ⟨b,o + j,none⟩ from by unfold Addr.add;split <;> simp_all];exact ((HB.out.alloc (by have h:=HB.out.size;omega) (.cells #[] 68)).cell (p:=⟨b,o + j,none⟩) hb).trans hc⟩) hn1c (by unfold maxLen;omega) oq (by simp) ?_;intro v1 w4 hown4 hg4 hl4;have hb4:Below W4.heap.size W4 w4:=Below.grown ((Below.refl W4.heap.size W4).alloc (Nat.le_refl _) (.cells #[] 68)) hg4 (by simp) (fun k e => by simp [Value.ownBlock] at e;omega);have hq4:=(hb4.block _ hl0).trans HQ.out;obtain ⟨⟨y0,y1,y2,y3⟩,yf⟩:=b9_cells4 hq4;rw [Nat.zero_add,List.nil_append] at hown4;have hs4:=hb4.size;obtain ⟨al2,cl2,rfl,hcp4⟩:=cp_own hown4 hn1a hn1b)
  obtain ⟨W5,hW⟩:∃ W,w4.setCell ⟨w.heap.size,3,none⟩ (.slice al2 f.tells.length cl2) = W:=⟨_,rfl⟩;have hk_W5:Upon w.heap.size w4 W5:=by rw [← hW];exact b9_upon_set _
  have hu_W5:Upon w.heap.size W4 W5:=(Upon.of_below hb4).trans hk_W5;have hq_W5:W5.heap[w.heap.size]? = some (.cells #[.slice ai2 f.ins.length ci2,.slice an f.nods.length cn,.slice aT2 f.tasks.length ct2,.slice al2 f.tells.length cl2] 37 (0,0)):=by rw [← hW];simpa only [sA,sB,sC] using heap_setCell_same _ w.heap.size 3 _ _ _ hq4
  have hr_W5:=(hu_W5.block _ hl1 oq).trans HR.out;have ht_W5:w4.heap.size = W5.heap.size:=by rw [← hW];simp
  have hc_W5:=hcp4.upon hk_W5 (.inl oq);rw [ht_W5] at hc_W5 hs4;have hB_W5:Below w0.heap.size w0 W5:=HB.out.trans (hu_W5.below oq oq);have hBw_W5:Below w.heap.size w W5:=HBw.out.trans (hu_W5.below oq oq);rw [hW];have HC_W5:=hid hc_W5;have HU_W5:=hid hu_W5;have hl0_W5:=lt_of_block hq_W5;have hl1_W5:=lt_of_block hr_W5
  clear hW hk_W5 ht_W5 hc_W5 hu_W5 hb4 hg4 hl4 hown4 hq4 y0 y1 y2 y3 yf x0 x1 x2 x3 xf HB HBw HQ HR hl0 hl1 hcp4 hn1a hn1b hn1c n1 hi0 hi1 hi2 hi3 i0;clear w4;have hss_W5:=hs4;clear hs4
  have HB:=hid hB_W5;have HBw:=hid hBw_W5;have HQ:=hid hq_W5;have HR:=hid hr_W5;have hl0:=hl0_W5;have hl1:=hl1_W5;obtain ⟨⟨x0,x1,x2,x3⟩,xf⟩:=b9_cells4 hq_W5;clear hB_W5 hBw_W5 hq_W5 hr_W5 hl0_W5 hl1_W5
  obtain ⟨n1,hn1a,hn1b,hn1c⟩:=row_news ndHas oq HF.out.nods
  obtain ⟨i0,hi0,hi1,hi2,hi3⟩:=lite.info_parts b9_infoNode
  go_upto_region 5 with (refine lite.wpList_append_gen _ (by rfl) _ _ _ (by rfl) W5.heap.size 78 i0 _ 10 128 Tryz.underlying22 hi0 hi1 hi2 hi3 rfl oq (.slice (some ⟨W5.heap.size,0,none⟩) 0 0) 0 [] (by rfl) (b9_own0 W5 W5 _ _ (Nat.le_refl _)) an f.nods.length cn n1 (by rfl) hn1a (fun j u hj => by obtain ⟨b,o,e,hb,hc⟩:=hn1b j u hj;exact ⟨_,e,by rw [show (⟨b,o,none⟩:Addr).add j = ⟨b,o + j,none⟩ from by unfold Addr.add;split <;> simp_all];exact ((HB.out.alloc (by have h:=HB.out.size;omega) (.cells #[] 78)).cell (p:=⟨b,o + j,none⟩) hb).trans hc⟩) hn1c (by unfold maxLen;omega) oq (by simp) ?_;intro v1 w4 hown4 hg4 hl4;have hb4:Below W5.heap.size W5 w4:=Below.grown ((Below.refl W5.heap.size W5).alloc (Nat.le_refl _) (.cells #[] 78)) hg4 (by simp) (fun k e => by simp [Value.ownBlock] at e;omega);have hq4:=(hb4.block _ hl0).trans HQ.out;obtain ⟨⟨y0,y1,y2,y3⟩,yf⟩:=b9_cells4 hq4;rw [Nat.zero_add,List.nil_append] at hown4;have hs4:=hb4.size;obtain ⟨an2,cn2,rfl,hcp4⟩:=cp_own hown4 hn1a hn1b)
  obtain ⟨W6,hW⟩:∃ W,w4.setCell ⟨w.heap.size,1,none⟩ (.slice an2 f.nods.length cn2) = W:=⟨_,rfl⟩;have hk_W6:Upon w.heap.size w4 W6:=by rw [← hW];exact b9_upon_set _
  have hu_W6:Upon w.heap.size W5 W6:=(Upon.of_below hb4).trans hk_W6;have hq_W6:W6.heap[w.heap.size]? = some (.cells #[.slice ai2 f.ins.length ci2,.slice an2 f.nods.length cn2,.slice aT2 f.tasks.length ct2,.slice al2 f.tells.length cl2] 37 (0,0)):=by rw [← hW];simpa only [sA,sB,sC] using heap_setCell_same _ w.heap.size 1 _ _ _ hq4
  have hr_W6:=(hu_W6.block _ hl1 oq).trans HR.out;have ht_W6:w4.heap.size = W6.heap.size:=by rw [← hW];simp
  have hc_W6:=hcp4.upon hk_W6 (.inl oq);rw [ht_W6] at hc_W6 hs4;have hB_W6:Below w0.heap.size w0 W6:=HB.out.trans (hu_W6.below oq oq);have hBw_W6:Below w.heap.size w W6:=HBw.out.trans (hu_W6.below oq oq);rw [hW];have HC_W6:=hid hc_W6;have HU_W6:=hid hu_W6;have hl0_W6:=lt_of_block hq_W6;have hl1_W6:=lt_of_block hr_W6
  clear hW hk_W6 ht_W6 hc_W6 hu_W6 hb4 hg4 hl4 hown4 hq4 y0 y1 y2 y3 yf x0 x1 x2 x3 xf HB HBw HQ HR hl0 hl1 hcp4 hn1a hn1b hn1c n1 hi0 hi1 hi2 hi3 i0;clear w4;have hss_W6:=hs4;clear hs4
  have HB:=hid hB_W6;have HBw:=hid hBw_W6;have HQ:=hid hq_W6;have HR:=hid hr_W6;have hl0:=hl0_W6;have hl1:=hl1_W6;obtain ⟨⟨x0,x1,x2,x3⟩,xf⟩:=b9_cells4 hq_W6;clear hB_W6 hBw_W6 hq_W6 hr_W6 hl0_W6 hl1_W6
  have hc1:Cp w0 W6 W2.heap.size W3.heap.size 53 (f.ins.length * 2) ai ai2:=((HC_W3.out.upon HU_W4.out (.inl oq)).upon HU_W5.out (.inl oq)).upon HU_W6.out (.inl oq)
  have hc2:Cp w0 W6 W3.heap.size W4.heap.size 56 (f.tasks.length * 4) aT aT2:=(HC_W4.out.upon HU_W5.out (.inl oq)).upon HU_W6.out (.inl oq)
  have hc3:Cp w0 W6 W4.heap.size W5.heap.size 68 (f.tells.length * 5) al al2:=HC_W5.out.upon HU_W6.out (.inl oq)
  have hc4:=HC_W6.out
  have hbt:BtC w0 W6 f ai an aT al ai2 an2 aT2 al2 W2.heap.size W3.heap.size W4.heap.size W5.heap.size W6.heap.size:=⟨⟨by omega,hss_W3,hss_W4,hss_W5,hss_W6⟩,hc1,hc2,hc3,hc4,HB.out,HF.out⟩
  have HT:=hid hbt
  have hr4:=(b9_cells4 HR.out)
  obtain ⟨⟨z0,z1,z2,z3⟩,zf⟩:=hr4
  clear hc1 hc2 hc3 hc4 HC_W3 HC_W4 HC_W5 HC_W6 HU_W3 HU_W4 HU_W5 HU_W6 hbt
  obtain ⟨m,hm⟩:∃ m,how % 6 = m:=⟨_,rfl⟩
  have hm6:=int_rem hm
  rw [hm] at hhm
  have hlt6:m < 6:=by omega
  clear hm
  rcases hhm with rfl | rfl
  · clear hlt6
    have hmv:(how:Int) % 6 = 3:=hm6
    clear hm6
    by_cases hn:0 < f.tells.length
    · obtain ⟨k,hkd⟩:∃ k,a % f.tells.length = k:=⟨_,rfl⟩
      have hk:k < f.tells.length:=by rw [← hkd];exact Nat.mod_lt _ hn
      have hk1:=int_rem hkd
      have hk2:=int_remt hkd
      clear hkd
      obtain ⟨b,o,g,cur,hab,hb,rfl,hg1,hg2,hg3,hg4,hg5⟩:=HT.out.c3.at oq
      obtain ⟨b2,o2,hab2,_,hP⟩:=HF.out.tells.at hk
      rw [hab] at hab2
      injection hab2 with hab2
      injection hab2 with e1 e2
      subst e1;subst e2
      have c0:W6.cell? ⟨g,k * 5 + 4,none⟩ = some _:=(hg5 (k * 5 + 4) oq).trans (by rw [← Nat.add_assoc];exact hP.2.2.2.1)
      have cf:=b9_frozen hg3
      have hgn:¬ g = w.heap.size:=by omega
      have hgn1:¬ g = w.heap.size + 1:=by omega
      have hgm:¬ w.heap.size = g:=by omega
      have hgm1:¬ w.heap.size + 1 = g:=by omega
      have hki:(k:Int) < (f.tells.length:Int):=by omega
      have hk0:(0:Int) ≤ (k:Int):=by omega
      have hlg:=lt_of_block hg3
      have hni:(0:Int) < (f.tells.length:Int):=by omega
      have hnz:((f.tells.length:Int) == 0) = false:=by rw [beq_eq_false_iff_ne];omega
      have hnz2:¬ (f.tells.length:Int) = 0:=by omega
      have hnl:¬ f.tells = []:=fun h => by rw [h] at hn;simp at hn
      clear hg3 hg4 hg5 hab hb
      go_upto_region 20 with fail
      go_still_tail 10,(by kernel_rfl)
      change wpList _ _ _ _ _ W6.drew
      go_wp2
      exact bodyPost_ret (v:=fv ⟨f.ins,f.nods,f.tasks,f.tells.set k ⟨f.tells[k].per,f.tells[k].ph,f.tells[k].arg,tov⟩⟩ ai2 an2 aT2 (some ⟨g,0,none⟩) ci2 cn2 ct2 cl2) (by unfold fv;simp only [List.length_set];simp only [results,Tryz.results20];go_simp) rfl ⟨⟨⟨f.ins,f.nods,f.tasks,f.tells.set k ⟨f.tells[k].per,f.tells[k].ph,f.tells[k].arg,tov⟩⟩,ai2,an2,aT2,(some ⟨g,0,none⟩),ci2,cn2,ct2,cl2,rfl,fun q Z h3 h4 hz => HT.out.fin3 hk oq oq (res4 _ _ _ _ _ _).drew oq h3 hz⟩,b9_low HBw.out oq oq (res4 _ _ _ _ _ _).drew⟩
    · have hni:¬ (0:Int) < (f.tells.length:Int):=by omega
      have hnl:f.tells = []:=List.eq_nil_of_length_eq_zero oq
      go_wp2
      exact bodyPost_ret (v:=fv f ai2 an2 aT2 al2 ci2 cn2 ct2 cl2) (by unfold fv;simp only [results,Tryz.results20];go_simp) rfl ⟨⟨f,ai2,an2,aT2,al2,ci2,cn2,ct2,cl2,rfl,fun q Z h3 h4 hz => HT.out.fin5 oq oq (res4 _ _ _ _ _ _) oq h3 hz⟩,b9_low0 HBw.out oq (res4 _ _ _ _ _ _)⟩
  · clear hlt6
    have hmv:(how:Int) % 6 = 4:=hm6
    clear hm6
    by_cases hn:0 < f.nods.length
    · obtain ⟨k,hkd⟩:∃ k,a % f.nods.length = k:=⟨_,rfl⟩
      have hk:k < f.nods.length:=by rw [← hkd];exact Nat.mod_lt _ hn
      have hk1:=int_rem hkd
      have hk2:=int_remt hkd
      clear hkd
      obtain ⟨b,o,g,cur,hab,hb,rfl,hg1,hg2,hg3,hg4,hg5⟩:=HT.out.c4.at oq
      obtain ⟨b2,o2,hab2,_,hP⟩:=HF.out.nods.at hk
      rw [hab] at hab2
      injection hab2 with hab2
      injection hab2 with e1 e2
      subst e1;subst e2
      obtain ⟨nm,pa,pc,kk,nm2,n2,d2,ea,el,ec,a2,a1,h0,h1,h2,_⟩:=hP
      have c0:W6.cell? ⟨g,k * 10 + 2,none⟩ = some _:=(hg5 (k * 10 + 2) oq).trans (by rw [← Nat.add_assoc];exact h2)
      have cf:=b9_frozen hg3
      have hgn:¬ g = w.heap.size:=by omega
      have hgn1:¬ g = w.heap.size + 1:=by omega
      have hgm:¬ w.heap.size = g:=by omega
      have hgm1:¬ w.heap.size + 1 = g:=by omega
      have hki:(k:Int) < (f.nods.length:Int):=by omega
      have hk0:(0:Int) ≤ (k:Int):=by omega
      have hlg:=lt_of_block hg3
      have hni:(0:Int) < (f.nods.length:Int):=by omega
      have hnz:((f.nods.length:Int) == 0) = false:=by rw [beq_eq_false_iff_ne];omega
      have hnz2:¬ (f.nods.length:Int) = 0:=by omega
      have hnl:¬ f.nods = []:=fun h => by rw [h] at hn;simp at hn
      clear hg3 hg4 hg5 hab hb
      go_upto_region 23 with fail
      go_still_tail 10,(by kernel_rfl)
      change wpList _ _ _ _ _ W6.drew
      go_wp2
      exact bodyPost_ret (v:=fv ⟨f.ins,f.nods.set k ⟨tov,f.nods[k].nps⟩,f.tasks,f.tells⟩ ai2 (some ⟨g,0,none⟩) aT2 al2 ci2 cn2 ct2 cl2) (by unfold fv;simp only [List.length_set];simp only [results,Tryz.results20];go_simp) rfl ⟨⟨⟨f.ins,f.nods.set k ⟨tov,f.nods[k].nps⟩,f.tasks,f.tells⟩,ai2,(some ⟨g,0,none⟩),aT2,al2,ci2,cn2,ct2,cl2,rfl,fun q Z h3 h4 hz => HT.out.fin4 hk oq oq (res4 _ _ _ _ _ _).drew oq h3 hz⟩,b9_low HBw.out oq oq (res4 _ _ _ _ _ _).drew⟩
    · have hni:¬ (0:Int) < (f.nods.length:Int):=by omega
      have hnl:f.nods = []:=List.eq_nil_of_length_eq_zero oq
      go_wp2
      exact bodyPost_ret (v:=fv f ai2 an2 aT2 al2 ci2 cn2 ct2 cl2) (by unfold fv;simp only [results,Tryz.results20];go_simp) rfl ⟨⟨f,ai2,an2,aT2,al2,ci2,cn2,ct2,cl2,rfl,fun q Z h3 h4 hz => HT.out.fin5 oq oq (res4 _ _ _ _ _ _) oq h3 hz⟩,b9_low0 HBw.out oq (res4 _ _ _ _ _ _)⟩
open Go.RowKit Go.Shelf
theorem bent_all {w0 w:World} (f:FD) (ai an aT al:Option Addr) (ci cn ct cl:Nat) (hf:FAP w0 f ai an aT al) (hw0:Below w0.heap.size w0 w) (hargs:∀ t ∈ f.tasks,0 < t.args.length) (a:Nat) (ha:a ≤ 255) (tov:Int) (htov:I64 tov) (how:Nat) (hhow:how ≤ 255) :
    Calls Tryz.prog 20 #[fv f ai an aT al ci cn ct cl,.int .i64 (a:Int),.int .i64 tov,.int .u8 (how:Int)] w fun x w' => BentAns w0.heap.size w.heap.size x w' ∧ Below w.heap.size w w':=by
  have h6:how % 6 < 6:=Nat.mod_lt _ oq
  rcases (show (how % 6 = 5 ∨ how % 6 = 0) ∨ how % 6 = 1 ∨ how % 6 = 2 ∨ (how % 6 = 3 ∨ how % 6 = 4) by omega) with h | h | h | h
  · exact bent_a f ai an aT al ci cn ct cl hf hw0 hargs a ha tov htov how hhow h
  · exact bent_b f ai an aT al ci cn ct cl hf hw0 hargs a ha tov htov how hhow h
  · exact bent_d f ai an aT al ci cn ct cl hf hw0 hargs a ha tov htov how hhow h
  · exact bent_f f ai an aT al ci cn ct cl hf hw0 hargs a ha tov htov how hhow h
theorem made_mdf {p:PG} {base:Nat} {x:Ending} {w':World} (h:MadeAns p base x w'):MdF x w':=by
  rcases h with h | ⟨v,env,hx,hm,hr,hn,hc,h30,hfew⟩
  · exact .inl h
  · obtain ⟨ai,an,aT,al,ci,cn,ct,cl,rfl,hf⟩:=mak_fap hm hr.ok (ends_pg hr.ok hn hc) h30 (fun o ho => by
      obtain ⟨i,hi,rfl⟩:=List.getElem_of_mem ho
      exact fI_has (hn.outs i hi))
    refine .inr ⟨_,ai,an,aT,al,ci,cn,ct,cl,hx,hf,fun t ht => ?_⟩
    obtain ⟨s,hs,rfl⟩:=List.mem_map.1 ht
    obtain ⟨h1,h2,h3⟩:=callsF_ok p.flows 0 hr.ok.flows s hs
    have h4:=(ex_call h1).2.1 h3
    simp only [toTD,tkR,List.map_map,List.length_map,kidsE_len]
    omega
theorem flatRight_walk {w:World} (p:PG) (an ai af ao:Option Addr) (cn ci cf co:Nat) (hp:AP w p an ai af ao cn ci cf co) (hz:NZ w p.nodes an) (hsm:SmallP p) (tov:Int) (htov:I64 tov) (wa wh:Nat) (hwa:wa ≤ 255) (hwh:wh ≤ 255) :
    Calls Tryz.prog 4 #[pv p an ai af ao cn ci cf co,.int .i64 tov,.agg #[.int .u8 (wa:Int),.int .u8 (wh:Int)]] w fun x w' => x = .returned (.bool true) ∧ Below w.heap.size w w':=by
  have hM:∀ w':World,Below w.heap.size w w' → Calls Tryz.prog 19 #[pv p an ai af ao cn ci cf co] w' fun x w'' => MdF x w'' ∧ Below w'.heap.size w' w'':=fun w' hb =>
    (made_any p an ai af ao cn ci cf co (hp.below hb) (hz.below hp.nodes hb) hsm).mono fun x w'' h => ⟨made_mdf h.1,h.2⟩
  unfold pv at *
  exact right_law an ai af ao p.nodes.length p.ins.length p.flows.length p.outs.length cn ci cf co tov htov wa wh hwa hwh rightP (fun w' => awake_flat) hM
    (fun w0 w' f ai an aT al ci cn ct cl hf hb ha => bent_all f ai an aT al ci cn ct cl hf hb ha wa hwa tov htov wh hwh)
    (fun w' f ai an aT al ci cn ct cl hf => flatRight_any f ai an aT al ci cn ct cl hf)
    (fun w' f ai an aT al ci cn ct cl hf => refRightF_any f ai an aT al ci cn ct cl hf)
    (fun w' f ai an aT al ci cn ct cl hf i hi => source_any f ai an aT al ci cn ct cl hf i hi)
end Go.Proofs.YteaiemfhlpoieaaGreatDoor.syn
