/-
  Parts of the proof: Rgt2, Rgt3.
-/
import Derived.Test.YteaiemfhlpoieaaGreatDoorQ35
import Derived.Deep.QuietTactic
namespace Go.Proofs.YteaiemfhlpoieaaGreatDoor.syn
open Go.RowKit Go.Shelf
set_option linter.unusedVariables false
set_option linter.unusedSimpArgs false
theorem ops_cell {w:World} {l:List Op3} {ad:Option Addr} (h:Row OpR 3 w l ad):∀ k,k < l.length → ∃ b off,ad = some ⟨b,off,none⟩ ∧ b < w.heap.size ∧ w.cell? ⟨b,off + k * 3,none⟩ = some (.int .i64 (l.getD k (0,0,0)).1) ∧ w.cell? ⟨b,off + k * 3 + 1,none⟩ = some (.int .i64 (l.getD k (0,0,0)).2.1) ∧ w.cell? ⟨b,off + k * 3 + 2,none⟩ = some (.int .i64 (l.getD k (0,0,0)).2.2):=by
  intro k hk
  obtain ⟨b,o,e,hb,h0,h1,h2⟩:=h.at hk
  have hg:l.getD k (0,0,0) = l[k]:=by rw [List.getD_eq_getElem?_getD,List.getElem?_eq_getElem hk];rfl
  rw [hg]
  exact ⟨b,o,e,hb,h0,h1,h2⟩
theorem allC_any {w:World} (p f:Int) (l:List Op3) (ad:Option Addr) (cap:Nat) (h:Row OpR 3 w l ad) (hl:l.length ≤ 1000) :
    Calls Tryz.prog 73 #[.agg #[.int .i64 p,.int .i64 f],.slice ad l.length cap] w fun x w' => x = .returned (clock.ansT (clock.allP p f l)) ∧ Below w.heap.size w w':=by
  unfold clock.allP
  by_cases hr:1 ≤ p ∧ p ≤ 2000 ∧ 0 ≤ f ∧ f ≤ 2000
  · rw [if_pos (clock.right_yes hr)]
    exact clock.all_row p f ad cap l w hr oq (ops_cell h)
  · rw [if_neg (by rw [clock.right_no hr];simp)]
    exact clock.all_wrong p f _ w hr
theorem refAllC_any {w:World} (p f:Int) (l:List Op3) (ad:Option Addr) (cap:Nat) (h:Row OpR 3 w l ad) (hl:l.length ≤ 1000) :
    Calls Tryz.prog 71 #[.agg #[.int .i64 p,.int .i64 f],.slice ad l.length cap] w fun x w' => x = .returned (clock.ansT (clock.allP p f l)) ∧ Below w.heap.size w w':=by
  unfold clock.allP
  by_cases hr:1 ≤ p ∧ p ≤ 2000 ∧ 0 ≤ f ∧ f ≤ 2000
  · rw [if_pos (clock.right_yes hr)]
    exact clock.refAll_row p f ad cap l w hr hl (ops_cell h)
  · rw [if_neg (by rw [clock.right_no hr];simp)]
    exact clock.refAll_wrong p f _ w hr
def fitsP (f:FD) (a:AD) (cp cf:Int):Bool:=match srcP f a.src with
  | none => false
  | some s => decide (a.ops.length ≤ 20) && (decide ((clock.allP s.1 s.2 a.ops).2.2 = 0) && (decide ((clock.allP s.1 s.2 a.ops).1 = cp) && decide ((clock.allP s.1 s.2 a.ops).2.1 = cf)))
set_option maxRecDepth 100000 in
set_option maxHeartbeats 2000000 in
theorem comes_any {w:World} (f:FD) (ai an aT al:Option Addr) (ci cn ct cl:Nat) (hf:FAP w f ai an aT al) (a:AD) (ad:Option Addr) (cap:Nat) (cp cf:Int) (h64:I64 a.src) (hr:Row OpR 3 w a.ops ad) (hl:a.ops.length ≤ 1000) :
    Calls Tryz.prog 47 #[fv f ai an aT al ci cn ct cl,.agg #[.int .i64 a.src,.slice ad a.ops.length cap],.agg #[.int .i64 cp,.int .i64 cf]] w fun x w' => x = .returned (.bool (fitsP f a cp cf)) ∧ Below w.heap.size w w':=by
  have HS:=hid (fun (w':World) (hb:Below w.heap.size w w') => source_any (w:=w') f ai an aT al ci cn ct cl (hf.below hb) a.src h64)
  have HA:=hid (fun (w':World) (hb:Below w.heap.size w w') p q => allC_any (w:=w') p q a.ops ad cap (hr.below opSta hb) hl)
  obtain ⟨ans,hans⟩:∃ ans,fitsP f a cp cf = ans:=⟨_,rfl⟩
  rw [hans]
  unfold fitsP at hans
  clear hf hr h64
  unfold fv at *
  go_enter Tryz.func47,Tryz.ntmps47
  go_upto_region 1 with fail
  obtain ⟨W2,hW2⟩:∃ W2,((w.alloc (.cells #[.slice ai f.ins.length ci,.slice an f.nods.length cn,.slice aT f.tasks.length ct,.slice al f.tells.length cl] 37)).alloc (.cells #[.int .i64 a.src,.slice ad a.ops.length cap] 63)).alloc (.cells #[.int .i64 cp,.int .i64 cf] 53) = W2:=⟨_,rfl⟩
  rw [hW2]
  have hB:Below w.heap.size w W2:=by rw [← hW2];exact bq
  have hs2:w.heap.size + 1 + 1 < W2.heap.size:=by rw [← hW2];simp
  have hq0:W2.heap[w.heap.size]? = some (.cells #[.slice ai f.ins.length ci,.slice an f.nods.length cn,.slice aT f.tasks.length ct,.slice al f.tells.length cl] 37 (0,0)):=by rw [← hW2];exact (Below.heap_alloc _ _ _ (by simp;omega)).trans ((Below.heap_alloc _ _ _ (by simp)).trans (heap_new w _))
  have hq1:W2.heap[w.heap.size + 1]? = some (.cells #[.int .i64 a.src,.slice ad a.ops.length cap] 63 (0,0)):=by rw [← hW2];have:=(Below.heap_alloc _ (.cells #[.int .i64 cp,.int .i64 cf] 53) _ (by simp)).trans (heap_new (w.alloc (.cells #[.slice ai f.ins.length ci,.slice an f.nods.length cn,.slice aT f.tasks.length ct,.slice al f.tells.length cl] 37)) (.cells #[.int .i64 a.src,.slice ad a.ops.length cap] 63));simpa using this
  have hq2:W2.heap[w.heap.size + 1 + 1]? = some (.cells #[.int .i64 cp,.int .i64 cf] 53 (0,0)):=by rw [← hW2];have:=heap_new ((w.alloc (.cells #[.slice ai f.ins.length ci,.slice an f.nods.length cn,.slice aT f.tasks.length ct,.slice al f.tells.length cl] 37)).alloc (.cells #[.int .i64 a.src,.slice ad a.ops.length cap] 63)) (.cells #[.int .i64 cp,.int .i64 cf] 53);simpa using this
  obtain ⟨⟨x0,x1,x2,x3⟩,xf⟩:=cells4 hq0
  obtain ⟨⟨q0,q1⟩,qf⟩:=cells2 hq1
  have HB:=hid hB
  have HQ1:=hid hq1
  have HQ2:=hid hq2
  have hl1:w.heap.size + 1 < W2.heap.size:=by omega
  clear hW2 hB hq0 hq1 hq2
  cases hs:srcP f a.src with
  | none =>
    rw [hs] at HS hans
    simp only at hans
    subst hans
    unfold srcV at HS
    simp only [Option.getD_none,Option.isSome_none] at HS
    go_wp2_with (go_at_call 22;refine (HS.out _ HB.out).mono ?_;rintro x w3 ⟨rfl,hb3⟩;have hz3:W2.heap.size ≤ w3.heap.size:=hb3.size)
    exact bodyPost_ret (v:=.bool false) (by simp only [results,Tryz.results47];go_simp) rfl ⟨rfl,bq⟩
  | some s =>
    obtain ⟨sp,sf⟩:=s
    rw [hs] at HS hans
    simp only at hans
    unfold srcV at HS
    simp only [Option.getD_some,Option.isSome_some] at HS
    by_cases h20:a.ops.length ≤ 20
    · have h20d:¬ (a.ops.length:Int) > 20:=by omega
      obtain ⟨⟨rp,rf,re⟩,hra⟩:∃ r,clock.allP sp sf a.ops = r:=⟨_,rfl⟩
      have HA2:=hid (fun (w':World) (hb:Below w.heap.size w w') => HA.out w' hb sp sf)
      rw [hra] at HA2 hans
      unfold clock.ansT clock.ansC at HA2
      simp only at HA2 hans
      rw [decide_eq_true h20,Bool.true_and] at hans
      clear HA hra hs
      by_cases hre:re = 0
      · subst hre
        rw [decide_eq_true rfl,Bool.true_and] at hans
        by_cases h1:rp = cp
        · subst h1
          rw [decide_eq_true rfl,Bool.true_and] at hans
          by_cases h2:rf = cf
          · subst h2
            rw [decide_eq_true rfl] at hans
            subst hans
            go_wp2_with (first | (go_at_call 22;refine (HS.out _ HB.out).mono ?_;rintro x w3 ⟨rfl,hb3⟩;have hz3:W2.heap.size ≤ w3.heap.size:=hb3.size;obtain ⟨⟨r0,r1⟩,rf3⟩:=cells2 ((hb3.block _ hl1).trans HQ1.out);have k3:w.heap.size + 1 < w3.heap.size:=oq;have k3n:¬ w.heap.size + 1 = w3.heap.size:=oq;have HB3:=hid hb3) | (go_at_call 73;refine (HA2.out _ bq).mono ?_;rintro x w4 ⟨rfl,hb4⟩;have hz4:w3.heap.size < w4.heap.size:=(by have h:=hb4.size;simp at h;omega);have HC4:=hid ((hb4.block (w.heap.size + 1 + 1) (by simp;omega)).trans ((Below.heap_alloc _ _ _ oq).trans ((HB3.out.block _ hs2).trans HQ2.out)));obtain ⟨⟨t0,t1⟩,tf⟩:=cells2 HC4.out;have k4:w.heap.size + 1 + 1 < w4.heap.size:=oq;have k4n:¬ w.heap.size + 1 + 1 = w4.heap.size:=oq))
            exact bodyPost_ret (v:=.bool true) (by simp only [results,Tryz.results47];go_simp) rfl ⟨rfl,bq⟩
          · rw [decide_eq_false h2] at hans
            subst hans
            have h2d:(rf == cf) = false:=beq_eq_false_iff_ne.2 h2
            go_wp2_with (first | (go_at_call 22;refine (HS.out _ HB.out).mono ?_;rintro x w3 ⟨rfl,hb3⟩;have hz3:W2.heap.size ≤ w3.heap.size:=hb3.size;obtain ⟨⟨r0,r1⟩,rf3⟩:=cells2 ((hb3.block _ hl1).trans HQ1.out);have k3:w.heap.size + 1 < w3.heap.size:=oq;have k3n:¬ w.heap.size + 1 = w3.heap.size:=oq;have HB3:=hid hb3) | (go_at_call 73;refine (HA2.out _ bq).mono ?_;rintro x w4 ⟨rfl,hb4⟩;have hz4:w3.heap.size < w4.heap.size:=(by have h:=hb4.size;simp at h;omega);have HC4:=hid ((hb4.block (w.heap.size + 1 + 1) (by simp;omega)).trans ((Below.heap_alloc _ _ _ oq).trans ((HB3.out.block _ hs2).trans HQ2.out)));obtain ⟨⟨t0,t1⟩,tf⟩:=cells2 HC4.out;have k4:w.heap.size + 1 + 1 < w4.heap.size:=oq;have k4n:¬ w.heap.size + 1 + 1 = w4.heap.size:=oq))
            exact bodyPost_ret (v:=.bool false) (by simp only [results,Tryz.results47];go_simp) rfl ⟨rfl,bq⟩
        · rw [decide_eq_false h1,Bool.false_and] at hans
          subst hans
          have h1d:(rp == cp) = false:=beq_eq_false_iff_ne.2 h1
          go_wp2_with (first | (go_at_call 22;refine (HS.out _ HB.out).mono ?_;rintro x w3 ⟨rfl,hb3⟩;have hz3:W2.heap.size ≤ w3.heap.size:=hb3.size;obtain ⟨⟨r0,r1⟩,rf3⟩:=cells2 ((hb3.block _ hl1).trans HQ1.out);have k3:w.heap.size + 1 < w3.heap.size:=oq;have k3n:¬ w.heap.size + 1 = w3.heap.size:=oq;have HB3:=hid hb3) | (go_at_call 73;refine (HA2.out _ bq).mono ?_;rintro x w4 ⟨rfl,hb4⟩;have hz4:w3.heap.size < w4.heap.size:=(by have h:=hb4.size;simp at h;omega);have HC4:=hid ((hb4.block (w.heap.size + 1 + 1) (by simp;omega)).trans ((Below.heap_alloc _ _ _ oq).trans ((HB3.out.block _ hs2).trans HQ2.out)));obtain ⟨⟨t0,t1⟩,tf⟩:=cells2 HC4.out;have k4:w.heap.size + 1 + 1 < w4.heap.size:=oq;have k4n:¬ w.heap.size + 1 + 1 = w4.heap.size:=oq))
          exact bodyPost_ret (v:=.bool false) (by simp only [results,Tryz.results47];go_simp) rfl ⟨rfl,bq⟩
      · rw [decide_eq_false hre,Bool.false_and] at hans
        subst hans
        have hred:(re == 0) = false:=beq_eq_false_iff_ne.2 hre
        go_wp2_with (first | (go_at_call 22;refine (HS.out _ HB.out).mono ?_;rintro x w3 ⟨rfl,hb3⟩;have hz3:W2.heap.size ≤ w3.heap.size:=hb3.size;obtain ⟨⟨r0,r1⟩,rf3⟩:=cells2 ((hb3.block _ hl1).trans HQ1.out);have k3:w.heap.size + 1 < w3.heap.size:=oq;have k3n:¬ w.heap.size + 1 = w3.heap.size:=oq;have HB3:=hid hb3) | (go_at_call 73;refine (HA2.out _ bq).mono ?_;rintro x w4 ⟨rfl,hb4⟩;have hz4:w3.heap.size < w4.heap.size:=(by have h:=hb4.size;simp at h;omega);have HC4:=hid ((hb4.block (w.heap.size + 1 + 1) (by simp;omega)).trans ((Below.heap_alloc _ _ _ oq).trans ((HB3.out.block _ hs2).trans HQ2.out)));obtain ⟨⟨t0,t1⟩,tf⟩:=cells2 HC4.out;have k4:w.heap.size + 1 + 1 < w4.heap.size:=oq;have k4n:¬ w.heap.size + 1 + 1 = w4.heap.size:=oq))
        exact bodyPost_ret (v:=.bool false) (by simp only [results,Tryz.results47];go_simp) rfl ⟨rfl,bq⟩
    · have h20d:(a.ops.length:Int) > 20:=by omega
      rw [decide_eq_false h20,Bool.false_and] at hans
      subst hans
      go_wp2_with (go_at_call 22;refine (HS.out _ HB.out).mono ?_;rintro x w3 ⟨rfl,hb3⟩;have hz3:W2.heap.size ≤ w3.heap.size:=hb3.size;obtain ⟨⟨r0,r1⟩,rf3⟩:=cells2 ((hb3.block _ hl1).trans HQ1.out);have k3:w.heap.size + 1 < w3.heap.size:=oq;have k3n:¬ w.heap.size + 1 = w3.heap.size:=oq)
      exact bodyPost_ret (v:=.bool false) (by simp only [results,Tryz.results47];go_simp) rfl ⟨rfl,bq⟩
set_option maxRecDepth 100000 in
set_option maxHeartbeats 2000000 in
theorem refFits_any {w:World} (f:FD) (ai an aT al:Option Addr) (ci cn ct cl:Nat) (hf:FAP w f ai an aT al) (a:AD) (ad:Option Addr) (cap:Nat) (cp cf:Int) (h64:I64 a.src) (hr:Row OpR 3 w a.ops ad) (hl:a.ops.length ≤ 1000) :
    Calls Tryz.prog 43 #[fv f ai an aT al ci cn ct cl,.agg #[.int .i64 a.src,.slice ad a.ops.length cap],.agg #[.int .i64 cp,.int .i64 cf]] w fun x w' => x = .returned (.bool (fitsP f a cp cf)) ∧ Below w.heap.size w w':=by
  have HS:=hid (fun (w':World) (hb:Below w.heap.size w w') => refSource_any (w:=w') f ai an aT al ci cn ct cl (hf.below hb) a.src h64)
  have HA:=hid (fun (w':World) (hb:Below w.heap.size w w') p q => refAllC_any (w:=w') p q a.ops ad cap (hr.below opSta hb) hl)
  obtain ⟨ans,hans⟩:∃ ans,fitsP f a cp cf = ans:=⟨_,rfl⟩
  rw [hans]
  unfold fitsP at hans
  clear hf hr h64
  unfold fv at *
  go_enter Tryz.func43,Tryz.ntmps43
  go_upto_region 1 with fail
  obtain ⟨W2,hW2⟩:∃ W2,((w.alloc (.cells #[.slice ai f.ins.length ci,.slice an f.nods.length cn,.slice aT f.tasks.length ct,.slice al f.tells.length cl] 37)).alloc (.cells #[.int .i64 a.src,.slice ad a.ops.length cap] 63)).alloc (.cells #[.int .i64 cp,.int .i64 cf] 53) = W2:=⟨_,rfl⟩
  rw [hW2]
  have hB:Below w.heap.size w W2:=by rw [← hW2];exact bq
  have hs2:w.heap.size + 1 + 1 < W2.heap.size:=by rw [← hW2];simp
  have hq0:W2.heap[w.heap.size]? = some (.cells #[.slice ai f.ins.length ci,.slice an f.nods.length cn,.slice aT f.tasks.length ct,.slice al f.tells.length cl] 37 (0,0)):=by rw [← hW2];exact (Below.heap_alloc _ _ _ (by simp;omega)).trans ((Below.heap_alloc _ _ _ (by simp)).trans (heap_new w _))
  have hq1:W2.heap[w.heap.size + 1]? = some (.cells #[.int .i64 a.src,.slice ad a.ops.length cap] 63 (0,0)):=by rw [← hW2];have:=(Below.heap_alloc _ (.cells #[.int .i64 cp,.int .i64 cf] 53) _ (by simp)).trans (heap_new (w.alloc (.cells #[.slice ai f.ins.length ci,.slice an f.nods.length cn,.slice aT f.tasks.length ct,.slice al f.tells.length cl] 37)) (.cells #[.int .i64 a.src,.slice ad a.ops.length cap] 63));simpa using this
  have hq2:W2.heap[w.heap.size + 1 + 1]? = some (.cells #[.int .i64 cp,.int .i64 cf] 53 (0,0)):=by rw [← hW2];have:=heap_new ((w.alloc (.cells #[.slice ai f.ins.length ci,.slice an f.nods.length cn,.slice aT f.tasks.length ct,.slice al f.tells.length cl] 37)).alloc (.cells #[.int .i64 a.src,.slice ad a.ops.length cap] 63)) (.cells #[.int .i64 cp,.int .i64 cf] 53);simpa using this
  obtain ⟨⟨x0,x1,x2,x3⟩,xf⟩:=cells4 hq0
  obtain ⟨⟨q0,q1⟩,qf⟩:=cells2 hq1
  have HB:=hid hB
  have HQ1:=hid hq1
  have HQ2:=hid hq2
  have hl1:w.heap.size + 1 < W2.heap.size:=by omega
  clear hW2 hB hq0 hq1 hq2
  cases hs:srcP f a.src with
  | none =>
    rw [hs] at HS hans
    simp only at hans
    subst hans
    unfold srcV at HS
    simp only [Option.getD_none,Option.isSome_none] at HS
    go_wp2_with (go_at_call 70;refine (HS.out _ HB.out).mono ?_;rintro x w3 ⟨rfl,hb3⟩;have hz3:W2.heap.size ≤ w3.heap.size:=hb3.size)
    exact bodyPost_ret (v:=.bool false) (by simp only [results,Tryz.results43];go_simp) rfl ⟨rfl,bq⟩
  | some s =>
    obtain ⟨sp,sf⟩:=s
    rw [hs] at HS hans
    simp only at hans
    unfold srcV at HS
    simp only [Option.getD_some,Option.isSome_some] at HS
    by_cases h20:a.ops.length ≤ 20
    · have h20d:¬ (a.ops.length:Int) > 20:=by omega
      obtain ⟨⟨rp,rf,re⟩,hra⟩:∃ r,clock.allP sp sf a.ops = r:=⟨_,rfl⟩
      have HA2:=hid (fun (w':World) (hb:Below w.heap.size w w') => HA.out w' hb sp sf)
      rw [hra] at HA2 hans
      unfold clock.ansT clock.ansC at HA2
      simp only at HA2 hans
      rw [decide_eq_true h20,Bool.true_and] at hans
      clear HA hra hs
      by_cases hre:re = 0
      · subst hre
        rw [decide_eq_true rfl,Bool.true_and] at hans
        by_cases h1:rp = cp
        · subst h1
          rw [decide_eq_true rfl,Bool.true_and] at hans
          by_cases h2:rf = cf
          · subst h2
            rw [decide_eq_true rfl] at hans
            subst hans
            go_wp2_with (first | (go_at_call 70;refine (HS.out _ HB.out).mono ?_;rintro x w3 ⟨rfl,hb3⟩;have hz3:W2.heap.size ≤ w3.heap.size:=hb3.size;obtain ⟨⟨r0,r1⟩,rf3⟩:=cells2 ((hb3.block _ hl1).trans HQ1.out);have k3:w.heap.size + 1 < w3.heap.size:=oq;have k3n:¬ w.heap.size + 1 = w3.heap.size:=oq;have HB3:=hid hb3) | (go_at_call 71;refine (HA2.out _ bq).mono ?_;rintro x w4 ⟨rfl,hb4⟩;have hz4:w3.heap.size < w4.heap.size:=(by have h:=hb4.size;simp at h;omega);have HC4:=hid ((hb4.block (w.heap.size + 1 + 1) (by simp;omega)).trans ((Below.heap_alloc _ _ _ oq).trans ((HB3.out.block _ hs2).trans HQ2.out)));obtain ⟨⟨t0,t1⟩,tf⟩:=cells2 HC4.out;have k4:w.heap.size + 1 + 1 < w4.heap.size:=oq;have k4n:¬ w.heap.size + 1 + 1 = w4.heap.size:=oq))
            exact bodyPost_ret (v:=.bool true) (by simp only [results,Tryz.results43];go_simp) rfl ⟨rfl,bq⟩
          · rw [decide_eq_false h2] at hans
            subst hans
            have h2d:(rf == cf) = false:=beq_eq_false_iff_ne.2 h2
            go_wp2_with (first | (go_at_call 70;refine (HS.out _ HB.out).mono ?_;rintro x w3 ⟨rfl,hb3⟩;have hz3:W2.heap.size ≤ w3.heap.size:=hb3.size;obtain ⟨⟨r0,r1⟩,rf3⟩:=cells2 ((hb3.block _ hl1).trans HQ1.out);have k3:w.heap.size + 1 < w3.heap.size:=oq;have k3n:¬ w.heap.size + 1 = w3.heap.size:=oq;have HB3:=hid hb3) | (go_at_call 71;refine (HA2.out _ bq).mono ?_;rintro x w4 ⟨rfl,hb4⟩;have hz4:w3.heap.size < w4.heap.size:=(by have h:=hb4.size;simp at h;omega);have HC4:=hid ((hb4.block (w.heap.size + 1 + 1) (by simp;omega)).trans ((Below.heap_alloc _ _ _ oq).trans ((HB3.out.block _ hs2).trans HQ2.out)));obtain ⟨⟨t0,t1⟩,tf⟩:=cells2 HC4.out;have k4:w.heap.size + 1 + 1 < w4.heap.size:=oq;have k4n:¬ w.heap.size + 1 + 1 = w4.heap.size:=oq))
            exact bodyPost_ret (v:=.bool false) (by simp only [results,Tryz.results43];go_simp) rfl ⟨rfl,bq⟩
        · rw [decide_eq_false h1,Bool.false_and] at hans
          subst hans
          have h1d:(rp == cp) = false:=beq_eq_false_iff_ne.2 h1
          go_wp2_with (first | (go_at_call 70;refine (HS.out _ HB.out).mono ?_;rintro x w3 ⟨rfl,hb3⟩;have hz3:W2.heap.size ≤ w3.heap.size:=hb3.size;obtain ⟨⟨r0,r1⟩,rf3⟩:=cells2 ((hb3.block _ hl1).trans HQ1.out);have k3:w.heap.size + 1 < w3.heap.size:=oq;have k3n:¬ w.heap.size + 1 = w3.heap.size:=oq;have HB3:=hid hb3) | (go_at_call 71;refine (HA2.out _ bq).mono ?_;rintro x w4 ⟨rfl,hb4⟩;have hz4:w3.heap.size < w4.heap.size:=(by have h:=hb4.size;simp at h;omega);have HC4:=hid ((hb4.block (w.heap.size + 1 + 1) (by simp;omega)).trans ((Below.heap_alloc _ _ _ oq).trans ((HB3.out.block _ hs2).trans HQ2.out)));obtain ⟨⟨t0,t1⟩,tf⟩:=cells2 HC4.out;have k4:w.heap.size + 1 + 1 < w4.heap.size:=oq;have k4n:¬ w.heap.size + 1 + 1 = w4.heap.size:=oq))
          exact bodyPost_ret (v:=.bool false) (by simp only [results,Tryz.results43];go_simp) rfl ⟨rfl,bq⟩
      · rw [decide_eq_false hre,Bool.false_and] at hans
        subst hans
        have hred:(re == 0) = false:=beq_eq_false_iff_ne.2 hre
        go_wp2_with (first | (go_at_call 70;refine (HS.out _ HB.out).mono ?_;rintro x w3 ⟨rfl,hb3⟩;have hz3:W2.heap.size ≤ w3.heap.size:=hb3.size;obtain ⟨⟨r0,r1⟩,rf3⟩:=cells2 ((hb3.block _ hl1).trans HQ1.out);have k3:w.heap.size + 1 < w3.heap.size:=oq;have k3n:¬ w.heap.size + 1 = w3.heap.size:=oq;have HB3:=hid hb3) | (go_at_call 71;refine (HA2.out _ bq).mono ?_;rintro x w4 ⟨rfl,hb4⟩;have hz4:w3.heap.size < w4.heap.size:=(by have h:=hb4.size;simp at h;omega);have HC4:=hid ((hb4.block (w.heap.size + 1 + 1) (by simp;omega)).trans ((Below.heap_alloc _ _ _ oq).trans ((HB3.out.block _ hs2).trans HQ2.out)));obtain ⟨⟨t0,t1⟩,tf⟩:=cells2 HC4.out;have k4:w.heap.size + 1 + 1 < w4.heap.size:=oq;have k4n:¬ w.heap.size + 1 + 1 = w4.heap.size:=oq))
        exact bodyPost_ret (v:=.bool false) (by simp only [results,Tryz.results43];go_simp) rfl ⟨rfl,bq⟩
    · have h20d:(a.ops.length:Int) > 20:=by omega
      rw [decide_eq_false h20,Bool.false_and] at hans
      subst hans
      go_wp2_with (go_at_call 70;refine (HS.out _ HB.out).mono ?_;rintro x w3 ⟨rfl,hb3⟩;have hz3:W2.heap.size ≤ w3.heap.size:=hb3.size;obtain ⟨⟨r0,r1⟩,rf3⟩:=cells2 ((hb3.block _ hl1).trans HQ1.out);have k3:w.heap.size + 1 < w3.heap.size:=oq;have k3n:¬ w.heap.size + 1 = w3.heap.size:=oq)
      exact bodyPost_ret (v:=.bool false) (by simp only [results,Tryz.results43];go_simp) rfl ⟨rfl,bq⟩
def taskP (f:FD) (t:TD):Bool:=match (if t.node < 0 then none else f.nods[t.node.toNat]?) with
  | none => false
  | some n => decide (t.args.length ≠ 0) && (decide (t.args.length = n.nps) && t.args.all (fun a => fitsP f a t.per t.ph))
theorem task_none {f:FD} {t:TD} (h:t.node < 0 ∨ (f.nods.length:Int) ≤ t.node):taskP f t = false:=by
  unfold taskP
  rcases h with h | h
  · rw [if_pos h]
  · by_cases h0:t.node < 0
    · rw [if_pos h0]
    · rw [if_neg h0,List.getElem?_eq_none oq]
theorem task_some {f:FD} {t:TD} {k:Nat} (hk:k < f.nods.length) (h:t.node = (k:Int)):taskP f t = (decide (t.args.length ≠ 0) && (decide (t.args.length = f.nods[k].nps) && t.args.all (fun a => fitsP f a t.per t.ph))):=by
  unfold taskP
  rw [h,if_neg oq,Int.toNat_natCast,List.getElem?_eq_getElem hk]
set_option maxRecDepth 100000 in
set_option maxHeartbeats 4000000 in
theorem rightTask_any {w:World} (f:FD) (ai an aT al:Option Addr) (ci cn ct cl:Nat) (hf:FAP w f ai an aT al) (t:TD) (ad:Option Addr) (cap:Nat) (hr:Row ArgR 2 w t.args ad) (hl:t.args.length ≤ 1000) (ha:∀ a ∈ t.args,a.ops.length ≤ 1000 ∧ I64 a.src) :
    Calls Tryz.prog 46 #[fv f ai an aT al ci cn ct cl,.agg #[.int .i64 t.node,.int .i64 t.per,.int .i64 t.ph,.slice ad t.args.length cap]] w fun x w' => x = .returned (.bool (taskP f t)) ∧ Below w.heap.size w w':=by
  have hlens:=hf.lens
  have HCO:=hid (fun (w':World) (hb:Below w.heap.size w w') (a:AD) ad2 cap2 (hra:Row OpR 3 w' a.ops ad2) (h1:a.ops.length ≤ 1000 ∧ I64 a.src) => comes_any (w:=w') f ai an aT al ci cn ct cl (hf.below hb) a ad2 cap2 t.per t.ph h1.2 hra h1.1)
  have HND:=hid hf.nods
  have HR:=hid hr
  have HA:=hid ha
  obtain ⟨ans,hans⟩:∃ ans,taskP f t = ans:=⟨_,rfl⟩
  rw [hans]
  obtain ⟨nd,hnd⟩:∃ nd,t.node = nd:=⟨_,rfl⟩
  have HND2:=hid hnd
  rw [hnd]
  clear hf hr ha hnd
  unfold fv at *
  go_enter Tryz.func46,Tryz.ntmps46
  go_upto_region 1 with fail
  obtain ⟨W2,hW2⟩:∃ W2,(w.alloc (.cells #[.slice ai f.ins.length ci,.slice an f.nods.length cn,.slice aT f.tasks.length ct,.slice al f.tells.length cl] 37)).alloc (.cells #[.int .i64 nd,.int .i64 t.per,.int .i64 t.ph,.slice ad t.args.length cap] 56) = W2:=⟨_,rfl⟩
  rw [hW2]
  have hB:Below w.heap.size w W2:=by rw [← hW2];exact bq
  have hs2:w.heap.size + 1 < W2.heap.size:=by rw [← hW2];simp
  have hq0:W2.heap[w.heap.size]? = some (.cells #[.slice ai f.ins.length ci,.slice an f.nods.length cn,.slice aT f.tasks.length ct,.slice al f.tells.length cl] 37 (0,0)):=by rw [← hW2];exact (Below.heap_alloc _ _ _ (by simp)).trans (heap_new w _)
  have hq1:W2.heap[w.heap.size + 1]? = some (.cells #[.int .i64 nd,.int .i64 t.per,.int .i64 t.ph,.slice ad t.args.length cap] 56 (0,0)):=by rw [← hW2];simpa using heap_new (w.alloc (.cells #[.slice ai f.ins.length ci,.slice an f.nods.length cn,.slice aT f.tasks.length ct,.slice al f.tells.length cl] 37)) (.cells #[.int .i64 nd,.int .i64 t.per,.int .i64 t.ph,.slice ad t.args.length cap] 56)
  obtain ⟨⟨x0,x1,x2,x3⟩,xf⟩:=cells4 hq0
  obtain ⟨⟨q0,q1,q2,q3⟩,qf⟩:=cells4 hq1
  have HB:=hid hB
  have HQ0:=hid hq0
  have HQ1:=hid hq1
  have hl0:w.heap.size < W2.heap.size:=by omega
  clear hW2 hB hq0 hq1
  by_cases h0:nd < 0
  · obtain rfl:ans = false:=hans.symm.trans (task_none (.inl (by rw [HND2.out];exact h0)))
    clear hans
    go_wp2
    exact bodyPost_ret (v:=.bool false) (by simp only [results,Tryz.results46];go_simp) rfl ⟨rfl,bq⟩
  · by_cases h1:(f.nods.length:Int) ≤ nd
    · obtain rfl:ans = false:=hans.symm.trans (task_none (.inr (by rw [HND2.out];exact h1)))
      have h1d:nd ≥ (f.nods.length:Int):=h1
      clear hans
      go_wp2
      exact bodyPost_ret (v:=.bool false) (by simp only [results,Tryz.results46];go_simp) rfl ⟨rfl,bq⟩
    · have h1d:¬ nd ≥ (f.nods.length:Int):=h1
      obtain ⟨k,rfl⟩:∃ k:Nat,nd = (k:Int):=⟨nd.toNat,by omega⟩
      have hk:k < f.nods.length:=by omega
      have hk0:(0:Int) ≤ (k:Int):=by omega
      have hk1:(k:Int) < (f.nods.length:Int):=by omega
      rw [task_some hk HND2.out] at hans
      obtain ⟨b,o,rfl,hb,nm,pa,pc,k9,nm2,n2,d2,ea,el,ec,a2,a9,_,y1,_⟩:=HND.out.at hk
      obtain ⟨np,hnp⟩:∃ np,f.nods[k].nps = np:=⟨_,rfl⟩
      rw [hnp] at y1 hans
      have y2:=(HB.out.cell (p:=⟨b,o + k * 10 + 1,none⟩) hb).trans y1
      clear y1 hnp
      by_cases h2:t.args.length = 0
      · obtain rfl:ans = false:=by rw [← hans,decide_eq_false (fun h => h h2),Bool.false_and]
        have h2d:((t.args.length:Int) == 0) = true:=by rw [h2];rfl
        have h2e:(t.args.length:Int) = 0:=by omega
        clear hans
        go_wp2
        go_quiet (fail)
        go_wp2
        exact bodyPost_ret (v:=.bool false) (by simp only [results,Tryz.results46];go_simp) rfl ⟨rfl,bq⟩
      · rw [decide_eq_true h2,Bool.true_and] at hans
        have h2d:((t.args.length:Int) == 0) = false:=beq_eq_false_iff_ne.2 oq
        have h2e:¬ (t.args.length:Int) = 0:=by omega
        by_cases h3:t.args.length = np
        · rw [decide_eq_true h3,Bool.true_and] at hans
          subst h3
          have h3d:((t.args.length:Int) != (t.args.length:Int)) = false:=by simp
          have HANS:=hid hans
          clear hans
          go_wp2
          go_quiet (fail)
          go_wp2
          go_loopw [39] (fun s39 wr => Hid (∃ i:Nat,s39 = .int .i64 (i:Int) ∧ i ≤ t.args.length ∧ (t.args.take i).all (fun a => fitsP f a t.per t.ph) = true ∧ Below W2.heap.size W2 wr)) (fun s39 _ => t.args.length - (intOf s39).toNat)
          case atStart => exact ⟨0,rfl,Nat.zero_le _,by simp,bq⟩
          case round =>
            obtain ⟨i,rfl,hi,hall,hbw⟩:=hrel.out
            clear hrel x0 x1 x2 x3 xf q0 q1 q2 q3 qf y2
            have hzw:=hbw.size
            have HBW:=hid hbw
            have HALL:=hid hall
            have HWW:=hid (HB.out.trans (hbw.mono oq))
            obtain ⟨⟨x0,x1,x2,x3⟩,xf⟩:=cells4 ((hbw.block _ hl0).trans HQ0.out)
            obtain ⟨⟨q0,q1,q2,q3⟩,qf⟩:=cells4 ((hbw.block _ hs2).trans HQ1.out)
            have hj0:w.heap.size < wr.heap.size:=by omega
            have hj1:w.heap.size + 1 < wr.heap.size:=by omega
            clear hall hbw
            by_cases hlt:i < t.args.length
            · have hil:(i:Int) < (t.args.length:Int):=by omega
              have hi0:(0:Int) ≤ (i:Int):=by omega
              obtain ⟨bb,oo,rfl,hbb0,g0,ad2,cap2,g1,hro⟩:=HR.out.at hlt
              have hA:=HA.out _ (List.getElem_mem hlt)
              obtain ⟨⟨src,ops⟩,hai⟩:∃ a,t.args[i] = a:=⟨_,rfl⟩
              rw [hai] at g0 g1 hro hA
              simp only at g0 g1 hro hA
              have y0:=(HWW.out.cell (p:=⟨bb,oo + i * 2,none⟩) hbb0).trans g0
              have y1:=(HWW.out.cell (p:=⟨bb,oo + i * 2 + 1,none⟩) hbb0).trans g1
              have hHC:=fun (w':World) (hb:Below w.heap.size w w') => HCO.out w' hb ⟨src,ops⟩ ad2 cap2 (hro.below opSta hb) hA
              have HAI:=hid hai
              have hkl:=all_take (f:=fun a => fitsP f a t.per t.ph) hlt
              rw [hai,HALL.out,Bool.true_and] at hkl
              cases hfit:fitsP f ⟨src,ops⟩ t.per t.ph with
              | true =>
                rw [hfit] at hHC hkl
                have HC:=hid hHC
                have HKL:=hid hkl
                clear g0 g1 hro hA hai hHC hfit hkl
                go_wp2_with (go_at_call 47;refine (HC.out _ bq).mono ?_;rintro x w6 ⟨rfl,hb6⟩)
                exact ⟨hid ⟨i + 1,by go_num,hlt,HKL.out,bq⟩,by simp [intOf];omega⟩
              | false =>
                rw [hfit] at hHC
                have HC:=hid hHC
                obtain rfl:ans = false:=by
                  rw [← HANS.out]
                  refine Bool.eq_false_iff.2 (fun h => ?_)
                  have:=List.all_eq_true.1 h _ (List.getElem_mem hlt)
                  rw [hai,hfit] at this
                  cases this
                clear g0 g1 hro hA hai hHC hfit hkl HANS
                go_wp2_with (go_at_call 47;refine (HC.out _ bq).mono ?_;rintro x w6 ⟨rfl,hb6⟩)
                exact bodyPost_ret (v:=.bool false) (by simp only [results,Tryz.results46];go_simp) rfl ⟨rfl,bq⟩
            · have hil:¬ (i:Int) < (t.args.length:Int):=by omega
              obtain rfl:ans = true:=by
                rw [← HANS.out,← HALL.out,List.take_of_length_le oq]
              clear HANS
              go_wp2
              exact bodyPost_ret (v:=.bool true) (by simp only [results,Tryz.results46];go_simp) rfl ⟨rfl,bq⟩
        · obtain rfl:ans = false:=by rw [← hans,decide_eq_false h3,Bool.false_and]
          have h3d:((t.args.length:Int) != (np:Int)) = true:=bne_iff_ne.2 oq
          clear hans
          go_wp2
          go_quiet (fail)
          go_wp2
          exact bodyPost_ret (v:=.bool false) (by simp only [results,Tryz.results46];go_simp) rfl ⟨rfl,bq⟩
end Go.Proofs.YteaiemfhlpoieaaGreatDoor.syn
