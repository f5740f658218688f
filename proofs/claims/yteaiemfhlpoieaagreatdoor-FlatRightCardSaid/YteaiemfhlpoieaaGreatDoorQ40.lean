/-
  Parts of the proof: FlR, Bent0, BentA.
-/
import Derived.Deep.DeepCutAuto
import Derived.Deep.CutBlock
import Derived.StillTailTactics
import Derived.Deep.RegionLaw
import Derived.Test.YteaiemfhlpoieaaGreatDoorQ39
namespace Go.Proofs.YteaiemfhlpoieaaGreatDoor.syn
open Go.RowKit
set_option linter.unusedVariables false
set_option linter.unusedSimpArgs false
theorem b9_cells2 {w:World} {b:Nat} {v0 v1:Value} {t:TypeId} (h:w.heap[b]? = some (.cells #[v0,v1] t (0,0))):(w.cell? ⟨b,0,none⟩ = some v0 ∧ w.cell? ⟨b,1,none⟩ = some v1) ∧ ∀ o,w.frozen? ⟨b,o,none⟩ = false:=by
  refine ⟨⟨?_,?_⟩,?_⟩
  all_goals first | (intro o;simp [World.frozen?,h]) | simp [World.cell?,h]
theorem b9_set4 {w:World} {b:Nat} {u0 u1 u2 u3:Value} {t:TypeId} (h:w.heap[b]? = some (.cells #[u0,u1,u2,u3] t (0,0))) (v0 v1 v2 v3:Value) :
    ((((w.setCell ⟨b,0,none⟩ v0).setCell ⟨b,1,none⟩ v1).setCell ⟨b,2,none⟩ v2).setCell ⟨b,3,none⟩ v3).heap[b]? = some (.cells #[v0,v1,v2,v3] t (0,0)):=by
  have h0:=heap_setCell_same _ b 0 _ t v0 h
  have h1:=heap_setCell_same _ b 1 _ t v1 h0
  have h2:=heap_setCell_same _ b 2 _ t v2 h1
  have h3:=heap_setCell_same _ b 3 _ t v3 h2
  simpa only [sA,sB,sC] using h3
def MdF (x:Ending) (w':World):Prop:=x = .returned (.tuple #[.agg #[.slice none 0 0,.slice none 0 0,.slice none 0 0,.slice none 0 0],.bool false]) ∨
  ∃ (f:FD) (ai an aT al:Option Addr) (ci cn ct cl:Nat),x = .returned (.tuple #[fv f ai an aT al ci cn ct cl,.bool true]) ∧ FAP w' f ai an aT al ∧ (∀ t ∈ f.tasks,0 < t.args.length)
set_option maxRecDepth 100000 in
set_option maxHeartbeats 8000000 in
theorem right_law {w:World} (p0 p1 p2 p3:Option Addr) (n0 n1 n2 n3 c0 c1 c2 c3:Nat) (tov:Int) (htov:I64 tov) (wa wh:Nat) (hwa:wa ≤ 255) (hwh:wh ≤ 255) (r:FD → Bool)
    (hA:∀ w':World,Calls Tryz.prog 5 #[] w' fun x w'' => x = .returned (.bool true) ∧ Below w'.heap.size w' w'')
    (hM:∀ w':World,Below w.heap.size w w' → Calls Tryz.prog 19 #[.agg #[.slice p0 n0 c0,.slice p1 n1 c1,.slice p2 n2 c2,.slice p3 n3 c3]] w' fun x w'' => MdF x w'' ∧ Below w'.heap.size w' w'')
    (hE:∀ (w0 w':World) (f:FD) (ai an aT al:Option Addr) (ci cn ct cl:Nat),FAP w0 f ai an aT al → Below w0.heap.size w0 w' → (∀ t ∈ f.tasks,0 < t.args.length) → Calls Tryz.prog 20 #[fv f ai an aT al ci cn ct cl,.int .i64 (wa:Int),.int .i64 tov,.int .u8 (wh:Int)] w' fun x w'' => BentAns w0.heap.size w'.heap.size x w'' ∧ Below w'.heap.size w' w'')
    (hR:∀ (w':World) (f:FD) (ai an aT al:Option Addr) (ci cn ct cl:Nat),FAP w' f ai an aT al → Calls Tryz.prog 21 #[fv f ai an aT al ci cn ct cl] w' fun x w'' => x = .returned (.bool (r f)) ∧ Below w'.heap.size w' w'')
    (hF:∀ (w':World) (f:FD) (ai an aT al:Option Addr) (ci cn ct cl:Nat),FAP w' f ai an aT al → Calls Tryz.prog 12 #[fv f ai an aT al ci cn ct cl] w' fun x w'' => x = .returned (.bool (r f)) ∧ Below w'.heap.size w' w'')
    (hS:∀ (w':World) (f:FD) (ai an aT al:Option Addr) (ci cn ct cl:Nat),FAP w' f ai an aT al → ∀ i:Int,I64 i → Calls Tryz.prog 22 #[fv f ai an aT al ci cn ct cl,.int .i64 i] w' fun x w'' => x = .returned (srcV (srcP f i)) ∧ Below w'.heap.size w' w'') :
    Calls Tryz.prog 4 #[.agg #[.slice p0 n0 c0,.slice p1 n1 c1,.slice p2 n2 c2,.slice p3 n3 c3],.int .i64 tov,.agg #[.int .u8 (wa:Int),.int .u8 (wh:Int)]] w fun x w' => x = .returned (.bool true) ∧ Below w.heap.size w w':=by
  have HA:=hid hA
  have HM:=hid hM
  have HE:=hid hE
  have HR:=hid hR
  have HF:=hid hF
  have HS:=hid hS
  clear hA hM hE hR hF hS
  go_enter Tryz.func4,Tryz.ntmps4
  go_upto_region 1 with fail
  obtain ⟨W1,hW1⟩:∃ W1,((w.alloc (.cells #[.slice p0 n0 c0,.slice p1 n1 c1,.slice p2 n2 c2,.slice p3 n3 c3] 27)).alloc (.cells #[.int .u8 (wa:Int),.int .u8 (wh:Int)] 69)) = W1:=⟨_,rfl⟩
  rw [hW1]
  have hB:Below w.heap.size w W1:=by rw [← hW1];exact bq
  have hs1:w.heap.size + 2 ≤ W1.heap.size:=by rw [← hW1];simp
  have hq0:W1.heap[w.heap.size]? = some (.cells #[.slice p0 n0 c0,.slice p1 n1 c1,.slice p2 n2 c2,.slice p3 n3 c3] 27 (0,0)):=by rw [← hW1];exact (Below.heap_alloc _ _ _ (by simp)).trans (heap_new w _)
  have hr0:W1.heap[w.heap.size + 1]? = some (.cells #[.int .u8 (wa:Int),.int .u8 (wh:Int)] 69 (0,0)):=by rw [← hW1];simpa using heap_new (w.alloc (.cells #[.slice p0 n0 c0,.slice p1 n1 c1,.slice p2 n2 c2,.slice p3 n3 c3] 27)) _
  have hl0:=lt_of_block hq0
  have hl1:=lt_of_block hr0
  have HB:=hid hB
  have HQ:=hid hq0
  obtain ⟨⟨x0,x1,x2,x3⟩,xf⟩:=b9_cells4 hq0
  obtain ⟨⟨y0,y1⟩,yf⟩:=b9_cells2 hr0
  clear hW1 hB hq0 hr0
  go_still (by kernel_rfl)
  change Exit.then _ _ Exit.normal _ W1.drew
  obtain ⟨W2,hW2⟩:∃ W2,W1.drew = W2:=⟨_,rfl⟩
  rw [hW2]
  have hb2:Below W1.heap.size W1 W2:=by rw [← hW2];exact (Below.refl _ _).drew
  clear hW2
  have hq2:=(hb2.block _ hl0).trans HQ.out
  have hl2:=lt_of_block hq2
  have hs2:w.heap.size + 2 ≤ W2.heap.size:=Nat.le_trans hs1 hb2.size
  clear x0 x1 x2 x3 xf y0 y1 yf
  obtain ⟨⟨x0,x1,x2,x3⟩,xf⟩:=b9_cells4 hq2
  have HB2:=hid (HB.out.trans (hb2.mono oq))
  have HQ2:=hid hq2
  clear hb2 hq2 HB HQ hl0 hl1 hs1
  go_upto_region 5 with (first | (go_at_call 5;refine (HA.out _).mono ?_;rintro x w3 ⟨rfl,hb3⟩;have kx:=(fun o => hb3.cell (p:=⟨w.heap.size,o,none⟩) (by first | assumption | (simp;done) | (simp;omega) | omega));have hz3:=hb3.size) | (go_at_call 19;refine (HM.out _ bq).mono ?_;rintro x w4 ⟨hx,hb4⟩;(rcases hx with rfl | ⟨f,ai,an,aT,al,ci,cn,ct,cl,hx,hfap,hargs⟩ <;> first | (unfold fv at hx;subst hx) | skip)))
  · have hz4:=hb4.size
    go_wp2
    exact bodyPost_ret (v:=.bool true) (by simp only [results,Tryz.results4];go_simp) rfl ⟨rfl,bq⟩
  · have hz4:=hb4.size
    obtain ⟨W5,hW5⟩:∃ W5,w4.alloc (.cells #[.slice ai f.ins.length ci,.slice an f.nods.length cn,.slice aT f.tasks.length ct,.slice al f.tells.length cl] 37) = W5:=⟨_,rfl⟩
    rw [hW5]
    have hb5:Below w4.heap.size w4 W5:=by rw [← hW5];exact (Below.refl _ _).alloc (Nat.le_refl _) _
    have hq5:W5.heap[w4.heap.size]? = some (.cells #[.slice ai f.ins.length ci,.slice an f.nods.length cn,.slice aT f.tasks.length ct,.slice al f.tells.length cl] 37 (0,0)):=by rw [← hW5];exact heap_new w4 _
    have hl5:=lt_of_block hq5
    have hB5:Below w.heap.size w W5:=bq
    have HB5:=hid hB5
    have HQ5:=hid hq5
    have HFA:=hid hfap
    have H45:=hid hb5
    have HAR:=hid hargs
    obtain ⟨⟨u0,u1,u2,u3⟩,uf⟩:=b9_cells4 hq5
    have hwi:IntKind.i64.wrap (wa:Int) = (wa:Int):=IntWalk.i64_in _ oq
    have hw4:w.heap.size ≤ w4.heap.size:=by omega
    clear hW5 hb5 hq5 hB5 hfap hargs hb3 hb4 kx hz3 hz4 x0 x1 x2 x3 xf HB2 HQ2 HM HA hl2 hs2
    clear w3
    go_upto_region 8 with (go_at_call 20;refine (HE.out _ _ f ai an aT al ci cn ct cl HFA.out H45.out HAR.out).mono ?_;rintro x w6 ⟨⟨f',ai',an',aT',al',ci',cn',ct',cl',hx,hf'⟩,hb6⟩;unfold fv at hx;subst hx;have hq6:=(hb6.block _ hl5).trans HQ5.out;obtain ⟨⟨v0,v1,v2,v3⟩,vf⟩:=b9_cells4 hq6)
    obtain ⟨W7,hW7⟩:∃ W7,((((w6.setCell ⟨w4.heap.size,0,none⟩ (.slice ai' f'.ins.length ci')).setCell ⟨w4.heap.size,1,none⟩ (.slice an' f'.nods.length cn')).setCell ⟨w4.heap.size,2,none⟩ (.slice aT' f'.tasks.length ct')).setCell ⟨w4.heap.size,3,none⟩ (.slice al' f'.tells.length cl')) = W7:=⟨_,rfl⟩
    rw [hW7]
    have hq7:=b9_set4 hq6 (.slice ai' f'.ins.length ci') (.slice an' f'.nods.length cn') (.slice aT' f'.tasks.length ct') (.slice al' f'.tells.length cl')
    have hu7:=res4 w6 w4.heap.size (.slice ai' f'.ins.length ci') (.slice an' f'.nods.length cn') (.slice aT' f'.tasks.length ct') (.slice al' f'.tells.length cl')
    rw [hW7] at hq7 hu7
    have hf7:=hf' _ W7 (Nat.le_refl _) hl5 hu7
    have hl7:=lt_of_block hq7
    have hz6:=hb6.size
    have hB7:Below w.heap.size w W7:=(HB5.out.trans (hb6.mono oq)).trans (hu7.below oq hw4)
    have HB7:=hid hB7
    have HQ7:=hid hq7
    have HF7:=hid hf7
    have hz7:w.heap.size ≤ W7.heap.size:=hB7.size
    clear hW7 hq6 hu7 hf' hb6 hz6 hB7 hf7 v0 v1 v2 v3 vf u0 u1 u2 u3 uf HFA HAR H45 HB5 HQ5 HE hl5 hw4 hwi
    obtain ⟨B,hBd⟩:∃ B,w4.heap.size = B:=⟨_,rfl⟩
    rw [hBd] at hl7 HQ7 ⊢
    clear hBd
    try clear w6
    try clear W5
    try clear w4
    have HR7:=hid (fun (w':World) (hb:Below W7.heap.size W7 w') => HR.out w' f' ai' an' aT' al' ci' cn' ct' cl' (HF7.out.below hb))
    have HF8:=hid (fun (w':World) (hb:Below W7.heap.size W7 w') => HF.out w' f' ai' an' aT' al' ci' cn' ct' cl' (HF7.out.below hb))
    have HS7:=hid (fun (w':World) (hb:Below W7.heap.size W7 w') => HS.out w' f' ai' an' aT' al' ci' cn' ct' cl' (HF7.out.below hb))
    have hlens:=HF7.out.lens
    obtain ⟨rb,hrb⟩:∃ rb,r f' = rb:=⟨_,rfl⟩
    rw [hrb] at HR7 HF8
    unfold fv at HR7 HF8 HS7
    clear hrb HR HF HS
    obtain ⟨⟨x0,x1,x2,x3⟩,xf⟩:=b9_cells4 HQ7.out
    have HST:=hid (Below.refl W7.heap.size W7)
    go_cut [38] (fun s38 W => Hid (s38 = .bool false ∧ Below W7.heap.size W7 W))
    case first =>
      cases rb with
      | true =>
        go_region_law (go_simp;first | (go_at_call 21;refine (HR7.out _ bq).mono ?_;rintro x w8 ⟨rfl,hb8⟩;have la8:W7.heap.size ≤ w8.heap.size:=(by have h:=hb8.size;first | exact h | (simp at h;omega) | omega);have lb8:B < w8.heap.size:=oq;have ka:=(fun o => hb8.cell (p:=⟨B,o,none⟩) (by first | assumption | (simp;done) | (simp;omega) | omega))) | (go_at_call 12;refine (HF8.out _ bq).mono ?_;rintro x w9 ⟨rfl,hb9⟩;have la9:W7.heap.size ≤ w9.heap.size:=(by have h:=hb9.size;first | exact h | (simp at h;omega) | omega);have lb9:B < w9.heap.size:=oq;have kb:=(fun o => hb9.cell (p:=⟨B,o,none⟩) (by first | assumption | (simp;done) | (simp;omega) | omega))))
        all_goals (go_wp2_with fail;go_meet;exact ⟨rfl,by first | exact bq | exact bq⟩)
      | false =>
        go_region_law (go_simp;first | (go_at_call 21;refine (HR7.out _ bq).mono ?_;rintro x w8 ⟨rfl,hb8⟩;have la8:W7.heap.size ≤ w8.heap.size:=(by have h:=hb8.size;first | exact h | (simp at h;omega) | omega);have lb8:B < w8.heap.size:=oq;have ka:=(fun o => hb8.cell (p:=⟨B,o,none⟩) (by first | assumption | (simp;done) | (simp;omega) | omega))) | (go_at_call 12;refine (HF8.out _ bq).mono ?_;rintro x w9 ⟨rfl,hb9⟩;have la9:W7.heap.size ≤ w9.heap.size:=(by have h:=hb9.size;first | exact h | (simp at h;omega) | omega);have lb9:B < w9.heap.size:=oq;have kb:=(fun o => hb9.cell (p:=⟨B,o,none⟩) (by first | assumption | (simp;done) | (simp;omega) | omega))))
        all_goals (go_wp2_with fail;go_meet;exact ⟨rfl,by first | exact bq | exact bq⟩)
    case rest =>
      obtain ⟨rfl,hb10⟩:=hcut.out
      clear hcut HR7 HF8
      have HB8:=hid hb10
      clear hb10 x0 x1 x2 x3 xf HST
      obtain ⟨W8,rfl⟩:∃ W8:World,W8 = wc:=⟨_,rfl⟩
      go_wp2
      go_loopw [11] (fun s wr => Hid (∃ i:Int,s = .int .i64 i ∧ -1 ≤ i ∧ i ≤ (f'.ins.length:Int) + (f'.tasks.length:Int) + 1 ∧ Below W7.heap.size W7 wr)) (fun s _ => ((f'.ins.length:Int) + (f'.tasks.length:Int) + 1 - intOf s).toNat)
      case atStart => exact ⟨-1,rfl,by omega,by omega,HB8.out⟩
      case round =>
        obtain ⟨i,rfl,hi1,hi2,hbw⟩:=hrel.out
        clear hrel HB8
        have hzw:=hbw.size
        have HBW:=hid hbw
        obtain ⟨⟨x0,x1,x2,x3⟩,xf⟩:=b9_cells4 ((hbw.block _ hl7).trans HQ7.out)
        have hsum:IntKind.i64.wrap ((f'.ins.length:Int) + (f'.tasks.length:Int)) = (f'.ins.length:Int) + (f'.tasks.length:Int):=IntWalk.i64_in _ oq
        have hinc:IntKind.i64.wrap (i + 1) = i + 1:=IntWalk.i64_in _ oq
        clear hbw
        by_cases hle:i ≤ (f'.ins.length:Int) + (f'.tasks.length:Int)
        · by_cases h0:i < 0
          · have HSI:=hid (fun (w':World) (hb:Below W7.heap.size W7 w') => HS7.out w' hb i (by unfold I64;omega))
            rw [src_neg h0] at HSI
            unfold srcV at HSI
            simp only [Option.getD_none,Option.isSome_none] at HSI
            have h0d:¬ i ≥ 0:=by omega
            have h1d:¬ i ≥ (f'.ins.length:Int):=by omega
            go_wp2_with (go_at_call 22;refine (HSI.out _ HBW.out).mono ?_;rintro x w9 ⟨rfl,hb9⟩;have la9:W7.heap.size ≤ w9.heap.size:=(by have h:=hb9.size;omega);have hbT:Below W7.heap.size W7 w9:=HBW.out.trans (hb9.mono oq);obtain ⟨⟨x0,x1,x2,x3⟩,xf⟩:=b9_cells4 ((hbT.block _ hl7).trans HQ7.out);have lb9:B < w9.heap.size:=oq)
            exact ⟨hid ⟨i + 1,by first | rfl | go_num,by omega,by omega,bq⟩,by simp [intOf];omega⟩
          · have h0d:i ≥ 0:=by omega
            by_cases h1:i < (f'.ins.length:Int)
            · obtain ⟨k,rfl⟩:∃ k:Nat,i = (k:Int):=⟨i.toNat,by omega⟩
              have hk:k < f'.ins.length:=by omega
              have HSI:=hid (fun (w':World) (hb:Below W7.heap.size W7 w') => HS7.out w' hb (k:Int) (by unfold I64;omega))
              rw [src_in hk] at HSI
              obtain ⟨b,o,rfl,hb,g0,g1⟩:=HF7.out.ins.at hk
              obtain ⟨⟨pp,ff⟩,hpf⟩:∃ c,f'.ins[k] = c:=⟨_,rfl⟩
              rw [hpf] at HSI g0 g1
              unfold srcV at HSI
              simp only [Option.getD_some,Option.isSome_some] at HSI g0 g1
              have h1d:¬ (k:Int) ≥ (f'.ins.length:Int):=by omega
              have hk0:(0:Int) ≤ (k:Int):=by omega
              have hlt2:(k:Int) < (f'.ins.length:Int) + (f'.tasks.length:Int):=by omega
              go_wp2_with (go_at_call 22;refine (HSI.out _ HBW.out).mono ?_;rintro x w9 ⟨rfl,hb9⟩;have la9:W7.heap.size ≤ w9.heap.size:=(by have h:=hb9.size;omega);have hbT:Below W7.heap.size W7 w9:=HBW.out.trans (hb9.mono oq);obtain ⟨⟨x0,x1,x2,x3⟩,xf⟩:=b9_cells4 ((hbT.block _ hl7).trans HQ7.out);have lb9:B < w9.heap.size:=oq;have y0:=(hbT.cell (p:=⟨b,o + k * 2,none⟩) hb).trans g0;have y1:=(hbT.cell (p:=⟨b,o + k * 2 + 1,none⟩) hb).trans g1;have lb:b < w9.heap.size:=oq)
              exact ⟨hid ⟨(k:Int) + 1,by first | rfl | go_num,by omega,by omega,bq⟩,by simp [intOf];omega⟩
            · have h1d:i ≥ (f'.ins.length:Int):=by omega
              by_cases h2:i - (f'.ins.length:Int) < (f'.tasks.length:Int)
              · obtain ⟨k,rfl⟩:∃ k:Nat,i = (f'.ins.length:Int) + (k:Int):=⟨(i - (f'.ins.length:Int)).toNat,by omega⟩
                have hk:k < f'.tasks.length:=by omega
                have HSI:=hid (fun (w':World) (hb:Below W7.heap.size W7 w') => HS7.out w' hb ((f'.ins.length:Int) + (k:Int)) (by unfold I64;omega))
                rw [src_task hk] at HSI
                obtain ⟨b,o,rfl,hb,_,g0,g1,_⟩:=HF7.out.tasks.at hk
                obtain ⟨pp,hpp⟩:∃ c,f'.tasks[k].per = c:=⟨_,rfl⟩
                obtain ⟨ff,hff⟩:∃ c,f'.tasks[k].ph = c:=⟨_,rfl⟩
                rw [hpp] at HSI g0
                rw [hff] at HSI g1
                unfold srcV at HSI
                simp only [Option.getD_some,Option.isSome_some] at HSI
                have hk0:(0:Int) ≤ (k:Int):=by omega
                have hki:(k:Int) < (f'.tasks.length:Int):=by omega
                have hw1:IntKind.i64.wrap ((f'.ins.length:Int) + (k:Int) - (f'.ins.length:Int)) = (k:Int):=by rw [show (f'.ins.length:Int) + (k:Int) - (f'.ins.length:Int) = (k:Int) by omega];exact IntWalk.i64_in _ oq
                have hlt2:(f'.ins.length:Int) + (k:Int) < (f'.ins.length:Int) + (f'.tasks.length:Int):=by omega
                go_wp2_with (go_at_call 22;refine (HSI.out _ HBW.out).mono ?_;rintro x w9 ⟨rfl,hb9⟩;have la9:W7.heap.size ≤ w9.heap.size:=(by have h:=hb9.size;omega);have hbT:Below W7.heap.size W7 w9:=HBW.out.trans (hb9.mono oq);obtain ⟨⟨x0,x1,x2,x3⟩,xf⟩:=b9_cells4 ((hbT.block _ hl7).trans HQ7.out);have lb9:B < w9.heap.size:=oq;have y0:=(hbT.cell (p:=⟨b,o + k * 4 + 1,none⟩) hb).trans g0;have y1:=(hbT.cell (p:=⟨b,o + k * 4 + 2,none⟩) hb).trans g1;have lb:b < w9.heap.size:=oq)
                exact ⟨hid ⟨(f'.ins.length:Int) + (k:Int) + 1,by first | rfl | go_num,by omega,by omega,bq⟩,by simp [intOf];omega⟩
              · have HSI:=hid (fun (w':World) (hb:Below W7.heap.size W7 w') => HS7.out w' hb i (by unfold I64;omega))
                rw [src_far h0 h1 h2] at HSI
                unfold srcV at HSI
                simp only [Option.getD_none,Option.isSome_none] at HSI
                have hlt2:¬ i < (f'.ins.length:Int) + (f'.tasks.length:Int):=by omega
                go_wp2_with (go_at_call 22;refine (HSI.out _ HBW.out).mono ?_;rintro x w9 ⟨rfl,hb9⟩;have la9:W7.heap.size ≤ w9.heap.size:=(by have h:=hb9.size;omega);have hbT:Below W7.heap.size W7 w9:=HBW.out.trans (hb9.mono oq);obtain ⟨⟨x0,x1,x2,x3⟩,xf⟩:=b9_cells4 ((hbT.block _ hl7).trans HQ7.out);have lb9:B < w9.heap.size:=oq)
                exact ⟨hid ⟨i + 1,by first | rfl | go_num,by omega,by omega,bq⟩,by simp [intOf];omega⟩
        · go_wp2
          exact bodyPost_ret (v:=.bool true) (by simp only [results,Tryz.results4];go_simp) rfl ⟨rfl,bq⟩
theorem int_rem {a n k:Nat} (h:a % n = k):(a:Int) % (n:Int) = (k:Int):=by rw [← h];rfl
theorem int_remt {a n k:Nat} (h:a % n = k):(a:Int).tmod (n:Int) = (k:Int):=by rw [← h];rfl
theorem b9_frozen {w:World} {g:Nat} {cur:Array Value} {t:TypeId} (h:w.heap[g]? = some (.cells cur t (0,0))):∀ o,w.frozen? ⟨g,o,none⟩ = false:=by
  intro o;simp [World.frozen?,h]
set_option maxRecDepth 100000 in
set_option maxHeartbeats 8000000 in
theorem bent_a {w0 w:World} (f:FD) (ai an aT al:Option Addr) (ci cn ct cl:Nat) (hf:FAP w0 f ai an aT al) (hw0:Below w0.heap.size w0 w) (hargs:∀ t ∈ f.tasks,0 < t.args.length) (a:Nat) (ha:a ≤ 255) (tov:Int) (htov:I64 tov) (how:Nat) (hhow:how ≤ 255) (hhm:how % 6 = 5 ∨ how % 6 = 0) :
    Calls Tryz.prog 20 #[fv f ai an aT al ci cn ct cl,.int .i64 (a:Int),.int .i64 tov,.int .u8 (how:Int)] w fun x w' => BentAns w0.heap.size w.heap.size x w' ∧ Below w.heap.size w w':=by
  have hlens:=hf.lens
  have hw0s:=hw0.size
  have HF:=hid hf
  clear hf
  unfold fv
  go_enter Tryz.func20,Tryz.ntmps20
  go_upto_region 1 with fail
  obtain ⟨W2,hW2⟩:∃ W2,(w.alloc (.cells #[.slice ai f.ins.length ci,.slice an f.nods.length cn,.slice aT f.tasks.length ct,.slice al f.tells.length cl] 37)).alloc (.cells #[.slice none 0 0,.slice none 0 0,.slice none 0 0,.slice none 0 0] 37) = W2:=⟨_,rfl⟩
  rw [hW2]
  have hBw:Below w.heap.size w W2:=by rw [← hW2];exact bq
  have hB:Below w0.heap.size w0 W2:=hw0.trans (hBw.mono hw0s)
  have hs2:w.heap.size + 2 ≤ W2.heap.size:=by rw [← hW2];simp
  have hq0:W2.heap[w.heap.size]? = some (.cells #[.slice ai f.ins.length ci,.slice an f.nods.length cn,.slice aT f.tasks.length ct,.slice al f.tells.length cl] 37 (0,0)):=by rw [← hW2];exact (Below.heap_alloc _ _ _ (by simp)).trans (heap_new w _)
  have hr0:W2.heap[w.heap.size + 1]? = some (.cells #[.slice none 0 0,.slice none 0 0,.slice none 0 0,.slice none 0 0] 37 (0,0)):=by rw [← hW2];simpa using heap_new (w.alloc (.cells #[.slice ai f.ins.length ci,.slice an f.nods.length cn,.slice aT f.tasks.length ct,.slice al f.tells.length cl] 37)) _
  have hl0:=lt_of_block hq0
  have hl1:=lt_of_block hr0
  have HB:=hid hB
  have HBw:=hid hBw
  have HQ:=hid hq0
  have HR:=hid hr0
  obtain ⟨⟨x0,x1,x2,x3⟩,xf⟩:=b9_cells4 hq0
  obtain ⟨n1,hn1a,hn1b,hn1c⟩:=row_news clkHas oq HF.out.ins
  obtain ⟨i0,hi0,hi1,hi2,hi3⟩:=lite.info_parts b9_infoClk
  clear hW2 hB hBw hq0 hr0
  go_upto_region 2 with (refine lite.wpList_append_gen _ (by rfl) _ _ _ (by rfl) W2.heap.size 53 i0 _ 2 16 Tryz.underlying30 hi0 hi1 hi2 hi3 rfl oq (.slice (some ⟨W2.heap.size,0,none⟩) 0 0) 0 [] (by rfl) (b9_own0 W2 W2 _ _ (Nat.le_refl _)) ai f.ins.length ci n1 (by rfl) hn1a (fun j u hj => by obtain ⟨b,o,e,hb,hc⟩:=hn1b j u hj;exact ⟨_,e,by rw [show (⟨b,o,none⟩:Addr).add j = ⟨b,o + j,none⟩ from by unfold Addr.add;split <;> simp_all];exact ((HB.out.alloc (by have h:=HB.out.size;omega) (.cells #[] 53)).cell (p:=⟨b,o + j,none⟩) hb).trans hc⟩) hn1c (by unfold maxLen;omega) oq (by simp) ?_;intro v1 w4 hown4 hg4 hl4;have hb4:Below W2.heap.size W2 w4:=Below.grown ((Below.refl W2.heap.size W2).alloc (Nat.le_refl _) (.cells #[] 53)) hg4 (by simp) (fun k e => by simp [Value.ownBlock] at e;omega);have hq4:=(hb4.block _ hl0).trans HQ.out;obtain ⟨⟨y0,y1,y2,y3⟩,yf⟩:=b9_cells4 hq4;rw [Nat.zero_add,List.nil_append] at hown4;have hs4:=hb4.size;obtain ⟨ai2,ci2,rfl,hcp4⟩:=cp_own hown4 hn1a hn1b)
  obtain ⟨W3,hW⟩:∃ W,w4.setCell ⟨w.heap.size,0,none⟩ (.slice ai2 f.ins.length ci2) = W:=⟨_,rfl⟩;have hk_W3:Upon w.heap.size w4 W3:=by rw [← hW];exact b9_upon_set _
  have hu_W3:Upon w.heap.size W2 W3:=(Upon.of_below hb4).trans hk_W3;have hq_W3:W3.heap[w.heap.size]? = some (.cells #[.slice ai2 f.ins.length ci2,.slice an f.nods.length cn,.slice aT f.tasks.length ct,.slice al f.tells.length cl] 37 (0,0)):=by rw [← hW];simpa only [sA,sB,sC] using heap_setCell_same _ w.heap.size 0 _ _ _ hq4
  have hr_W3:=(hu_W3.block _ hl1 oq).trans HR.out;have ht_W3:w4.heap.size = W3.heap.size:=by rw [← hW];simp
  have hc_W3:=hcp4.upon hk_W3 (.inl oq);rw [ht_W3] at hc_W3 hs4;have hB_W3:Below w0.heap.size w0 W3:=HB.out.trans (hu_W3.below oq oq);have hBw_W3:Below w.heap.size w W3:=HBw.out.trans (hu_W3.below oq oq);rw [hW];have HC_W3:=hid hc_W3;have HU_W3:=hid hu_W3;have hl0_W3:=lt_of_block hq_W3;have hl1_W3:=lt_of_block hr_W3
  clear hW hk_W3 ht_W3 hc_W3 hu_W3 hb4 hg4 hl4 hown4 hq4 y0 y1 y2 y3 yf x0 x1 x2 x3 xf HB HBw HQ HR hl0 hl1 hcp4 hn1a hn1b hn1c n1 hi0 hi1 hi2 hi3 i0;clear w4;have hss_W3:=hs4;clear hs4
  have HB:=hid hB_W3;have HBw:=hid hBw_W3;have HQ:=hid hq_W3;have HR:=hid hr_W3;have hl0:=hl0_W3;have hl1:=hl1_W3;obtain ⟨⟨x0,x1,x2,x3⟩,xf⟩:=b9_cells4 hq_W3;clear hB_W3 hBw_W3 hq_W3 hr_W3 hl0_W3 hl1_W3
  obtain ⟨n1,hn1a,hn1b,hn1c⟩:=row_news tskHas oq HF.out.tasks
  obtain ⟨i0,hi0,hi1,hi2,hi3⟩:=lite.info_parts b9_infoTask
  go_upto_region 3 with (refine lite.wpList_append_gen _ (by rfl) _ _ _ (by rfl) W3.heap.size 56 i0 _ 4 48 Tryz.underlying34 hi0 hi1 hi2 hi3 rfl oq (.slice (some ⟨W3.heap.size,0,none⟩) 0 0) 0 [] (by rfl) (b9_own0 W3 W3 _ _ (Nat.le_refl _)) aT f.tasks.length ct n1 (by rfl) hn1a (fun j u hj => by obtain ⟨b,o,e,hb,hc⟩:=hn1b j u hj;exact ⟨_,e,by rw [show (⟨b,o,none⟩:Addr).add j = ⟨b,o + j,none⟩ from by unfold Addr.add;split <;> simp_all];exact ((HB.out.alloc (by have h:=HB.out.size;omega) (.cells #[] 56)).cell (p:=⟨b,o + j,none⟩) hb).trans hc⟩) hn1c (by unfold maxLen;omega) oq (by simp) ?_;intro v1 w4 hown4 hg4 hl4;have hb4:Below W3.heap.size W3 w4:=Below.grown ((Below.refl W3.heap.size W3).alloc (Nat.le_refl _) (.cells #[] 56)) hg4 (by simp) (fun k e => by simp [Value.ownBlock] at e;omega);have hq4:=(hb4.block _ hl0).trans HQ.out;obtain ⟨⟨y0,y1,y2,y3⟩,yf⟩:=b9_cells4 hq4;rw [Nat.zero_add,List.nil_append] at hown4;have hs4:=hb4.size;obtain ⟨aT2,ct2,rfl,hcp4⟩:=cp_own hown4 hn1a hn1b)
  obtain ⟨W4,hW⟩:∃ W,w4.setCell ⟨w.heap.size,2,none⟩ (.slice aT2 f.tasks.length ct2) = W:=⟨_,rfl⟩;have hk_W4:Upon w.heap.size w4 W4:=by rw [← hW];exact b9_upon_set _
  have hu_W4:Upon w.heap.size W3 W4:=(Upon.of_below hb4).trans hk_W4;have hq_W4:W4.heap[w.heap.size]? = some (.cells #[.slice ai2 f.ins.length ci2,.slice an f.nods.length cn,.slice aT2 f.tasks.length ct2,.slice al f.tells.length cl] 37 (0,0)):=by rw [← hW];simpa only [sA,sB,sC] using heap_setCell_same _ w.heap.size 2 _ _ _ hq4
  have hr_W4:=(hu_W4.block _ hl1 oq).trans HR.out;have ht_W4:w4.heap.size = W4.heap.size:=by rw [← hW];simp
  have hc_W4:=hcp4.upon hk_W4 (.inl oq);rw [ht_W4] at hc_W4 hs4;have hB_W4:Below w0.heap.size w0 W4:=HB.out.trans (hu_W4.below oq oq);have hBw_W4:Below w.heap.size w W4:=HBw.out.trans (hu_W4.below oq oq);rw [hW];have HC_W4:=hid hc_W4;have HU_W4:=hid hu_W4;have hl0_W4:=lt_of_block hq_W4;have hl1_W4:=lt_of_block hr_W4
  clear hW hk_W4 ht_W4 hc_W4 hu_W4 hb4 hg4 hl4 hown4 hq4 y0 y1 y2 y3 yf x0 x1 x2 x3 xf HB HBw HQ HR hl0 hl1 hcp4 hn1a hn1b hn1c n1 hi0 hi1 hi2 hi3 i0;clear w4;have hss_W4:=hs4;clear hs4
  have HB:=hid hB_W4;have HBw:=hid hBw_W4;have HQ:=hid hq_W4;have HR:=hid hr_W4;have hl0:=hl0_W4;have hl1:=hl1_W4;obtain ⟨⟨x0,x1,x2,x3⟩,xf⟩:=b9_cells4 hq_W4;clear hB_W4 hBw_W4 hq_W4 hr_W4 hl0_W4 hl1_W4
  obtain ⟨n1,hn1a,hn1b,hn1c⟩:=row_news telHas oq HF.out.tells
  obtain ⟨i0,hi0,hi1,hi2,hi3⟩:=lite.info_parts b9_infoTell
  go_upto_region 4 with (refine lite.wpList_append_gen _ (by rfl) _ _ _ (by rfl) W4.heap.size 68 i0 _ 5 56 Tryz.underlying35 hi0 hi1 hi2 hi3 rfl oq (.slice (some ⟨W4.heap.size,0,none⟩) 0 0) 0 [] (by rfl) (b9_own0 W4 W4 _ _ (Nat.le_refl _)) al f.tells.length cl n1 (by rfl) hn1a (fun j u hj => by obtain ⟨b,o,e,hb,hc⟩:=hn1b j u hj;exact ⟨_,e,by rw [show (⟨b,o,none⟩:Addr).add j = ⟨b,o + j,none⟩ from by unfold Addr.add;split <;> simp_all];exact ((HB.out.alloc (by have h:=HB.out.size;omega) (.cells #[] 68)).cell (p:=⟨b,o + j,none⟩) hb).trans hc⟩) hn1c (by unfold maxLen;omega) oq (by simp) ?_;intro v1 w4 hown4 hg4 hl4;have hb4:Below W4.heap.size W4 w4:=Below.grown ((Below.refl W4.heap.size W4).alloc (Nat.le_refl _) (.cells #[] 68)) hg4 (by simp) (fun k e => by simp [Value.ownBlock] at e;omega);have hq4:=(hb4.block _ hl0).trans HQ.out;obtain ⟨⟨y0,y1,y2,y3⟩,yf⟩:=b9_cells4 hq4;rw [Nat.zero_add,List.nil_append] at hown4;have hs4:=hb4.size;obtain ⟨al2,cl2,rfl,hcp4⟩:=cp_own hown4 hn1a hn1b)
  obtain ⟨W5,hW⟩:∃ W,w4.setCell ⟨w.heap.size,3,none⟩ (.slice al2 f.tells.length cl2) = W:=⟨_,rfl⟩;have hk_W5:Upon w.heap.size w4 W5:=by rw [← hW];exact b9_upon_set _
  have hu_W5:Upon w.heap.size W4 W5:=(Upon.of_below hb4).trans hk_W5;have hq_W5:W5.heap[w.heap.size]? = some (.cells #[.slice ai2 f.ins.length ci2,.slice an f.nods.length cn,.slice aT2 f.tasks.length ct2,.slice al2 f.tells.length cl2] 37 (0,0)):=by rw [← hW];simpa only [sA,sB,sC] using heap_setCell_same _ w.heap.size 3 _ _ _ hq4
  have hr_W5:=(hu_W5.block _ hl1 oq).trans HR.out;have ht_W5:w4.heap.size = W5.heap.size:=by rw [← hW];simp
  have hc_W5:=hcp4.upon hk_W5 (.inl oq);rw [ht_W5] at hc_W5 hs4;have hB_W5:Below w0.heap.size w0 W5:=HB.out.trans (hu_W5.below oq oq);have hBw_W5:Below w.heap.size w W5:=HBw.out.trans (hu_W5.below oq oq);rw [hW];have HC_W5:=hid hc_W5;have HU_W5:=hid hu_W5;have hl0_W5:=lt_of_block hq_W5;have hl1_W5:=lt_of_block hr_W5
  clear hW hk_W5 ht_W5 hc_W5 hu_W5 hb4 hg4 hl4 hown4 hq4 y0 y1 y2 y3 yf x0 x1 x2 x3 xf HB HBw HQ HR hl0 hl1 hcp4 hn1a hn1b hn1c n1 hi0 hi1 hi2 hi3 i0;clear w4;have hss_W5:=hs4;clear hs4
  have HB:=hid hB_W5;have HBw:=hid hBw_W5;have HQ:=hid hq_W5;have HR:=hid hr_W5;have hl0:=hl0_W5;have hl1:=hl1_W5;obtain ⟨⟨x0,x1,x2,x3⟩,xf⟩:=b9_cells4 hq_W5;clear hB_W5 hBw_W5 hq_W5 hr_W5 hl0_W5 hl1_W5
  obtain ⟨n1,hn1a,hn1b,hn1c⟩:=row_news ndHas oq HF.out.nods
  obtain ⟨i0,hi0,hi1,hi2,hi3⟩:=lite.info_parts b9_infoNode
  go_upto_region 5 with (refine lite.wpList_append_gen _ (by rfl) _ _ _ (by rfl) W5.heap.size 78 i0 _ 10 128 Tryz.underlying22 hi0 hi1 hi2 hi3 rfl oq (.slice (some ⟨W5.heap.size,0,none⟩) 0 0) 0 [] (by rfl) (b9_own0 W5 W5 _ _ (Nat.le_refl _)) an f.nods.length cn n1 (by rfl) hn1a (fun j u hj => by obtain ⟨b,o,e,hb,hc⟩:=hn1b j u hj;exact ⟨_,e,by rw [show (⟨b,o,none⟩:Addr).add j = ⟨b,o + j,none⟩ from by unfold Addr.add;split <;> simp_all];exact ((HB.out.alloc (by have h:=HB.out.size;omega) (.cells #[] 78)).cell (p:=⟨b,o + j,none⟩) hb).trans hc⟩) hn1c (by unfold maxLen;omega) oq (by simp) ?_;intro v1 w4 hown4 hg4 hl4;have hb4:Below W5.heap.size W5 w4:=Below.grown ((Below.refl W5.heap.size W5).alloc (Nat.le_refl _) (.cells #[] 78)) hg4 (by simp) (fun k e => by simp [Value.ownBlock] at e;omega);have hq4:=(hb4.block _ hl0).trans HQ.out;obtain ⟨⟨y0,y1,y2,y3⟩,yf⟩:=b9_cells4 hq4;rw [Nat.zero_add,List.nil_append] at hown4;have hs4:=hb4.size;obtain ⟨an2,cn2,rfl,hcp4⟩:=cp_own hown4 hn1a hn1b)
  obtain ⟨W6,hW⟩:∃ W,w4.setCell ⟨w.heap.size,1,none⟩ (.slice an2 f.nods.length cn2) = W:=⟨_,rfl⟩;have hk_W6:Upon w.heap.size w4 W6:=by rw [← hW];exact b9_upon_set _
  have hu_W6:Upon w.heap.size W5 W6:=(Upon.of_below hb4).trans hk_W6;have hq_W6:W6.heap[w.heap.size]? = some (.cells #[.slice ai2 f.ins.length ci2,.slice an2 f.nods.length cn2,.slice aT2 f.tasks.length ct2,.slice al2 f.tells.length cl2] 37 (0,0)):=by rw [← hW];simpa only [sA,sB,sC] using heap_setCell_same _ w.heap.size 1 _ _ _ hq4
  have hr_W6:=(hu_W6.block _ hl1 oq).trans HR.out;have ht_W6:w4.heap.size = W6.heap.size:=by rw [← hW];simp
  have hc_W6:=hcp4.upon hk_W6 (.inl oq);rw [ht_W6] at hc_W6 hs4;have hB_W6:Below w0.heap.size w0 W6:=HB.out.trans (hu_W6.below oq oq);have hBw_W6:Below w.heap.size w W6:=HBw.out.trans (hu_W6.below oq oq);rw [hW];have HC_W6:=hid hc_W6;have HU_W6:=hid hu_W6;have hl0_W6:=lt_of_block hq_W6;have hl1_W6:=lt_of_block hr_W6
  clear hW hk_W6 ht_W6 hc_W6 hu_W6 hb4 hg4 hl4 hown4 hq4 y0 y1 y2 y3 yf x0 x1 x2 x3 xf HB HBw HQ HR hl0 hl1 hcp4 hn1a hn1b hn1c n1 hi0 hi1 hi2 hi3 i0;clear w4;have hss_W6:=hs4;clear hs4
  have HB:=hid hB_W6;have HBw:=hid hBw_W6;have HQ:=hid hq_W6;have HR:=hid hr_W6;have hl0:=hl0_W6;have hl1:=hl1_W6;obtain ⟨⟨x0,x1,x2,x3⟩,xf⟩:=b9_cells4 hq_W6;clear hB_W6 hBw_W6 hq_W6 hr_W6 hl0_W6 hl1_W6
  have hc1:Cp w0 W6 W2.heap.size W3.heap.size 53 (f.ins.length * 2) ai ai2:=((HC_W3.out.upon HU_W4.out (.inl oq)).upon HU_W5.out (.inl oq)).upon HU_W6.out (.inl oq)
  have hc2:Cp w0 W6 W3.heap.size W4.heap.size 56 (f.tasks.length * 4) aT aT2:=(HC_W4.out.upon HU_W5.out (.inl oq)).upon HU_W6.out (.inl oq)
  have hc3:Cp w0 W6 W4.heap.size W5.heap.size 68 (f.tells.length * 5) al al2:=HC_W5.out.upon HU_W6.out (.inl oq)
  have hc4:=HC_W6.out
  have hbt:BtC w0 W6 f ai an aT al ai2 an2 aT2 al2 W2.heap.size W3.heap.size W4.heap.size W5.heap.size W6.heap.size:=⟨⟨by omega,hss_W3,hss_W4,hss_W5,hss_W6⟩,hc1,hc2,hc3,hc4,HB.out,HF.out⟩
  have HT:=hid hbt
  have hr4:=(b9_cells4 HR.out)
  obtain ⟨⟨z0,z1,z2,z3⟩,zf⟩:=hr4
  clear hc1 hc2 hc3 hc4 HC_W3 HC_W4 HC_W5 HC_W6 HU_W3 HU_W4 HU_W5 HU_W6 hbt
  obtain ⟨m,hm⟩:∃ m,how % 6 = m:=⟨_,rfl⟩
  have hm6:=int_rem hm
  rw [hm] at hhm
  have hlt6:m < 6:=by omega
  clear hm
  rcases hhm with rfl | rfl
  · clear hlt6
    have hmv:(how:Int) % 6 = 5:=hm6
    clear hm6
    go_wp2
    exact bodyPost_ret (v:=fv f ai2 an2 aT2 al2 ci2 cn2 ct2 cl2) (by unfold fv;simp only [results,Tryz.results20];go_simp) rfl ⟨⟨f,ai2,an2,aT2,al2,ci2,cn2,ct2,cl2,rfl,fun q Z h3 h4 hz => HT.out.fin5 oq oq (res4 _ _ _ _ _ _) oq h3 hz⟩,b9_low0 HBw.out oq (res4 _ _ _ _ _ _)⟩
  · clear hlt6
    have hmv:(how:Int) % 6 = 0:=hm6
    clear hm6
    by_cases hn:0 < f.ins.length
    · obtain ⟨k,hkd⟩:∃ k,a % f.ins.length = k:=⟨_,rfl⟩
      have hk:k < f.ins.length:=by rw [← hkd];exact Nat.mod_lt _ hn
      have hk1:=int_rem hkd
      have hk2:=int_remt hkd
      clear hkd
      obtain ⟨b,o,g,cur,hab,hb,rfl,hg1,hg2,hg3,hg4,hg5⟩:=HT.out.c1.at oq
      obtain ⟨b2,o2,hab2,_,hP⟩:=HF.out.ins.at hk
      rw [hab] at hab2
      injection hab2 with hab2
      injection hab2 with e1 e2
      subst e1;subst e2
      have c0:W6.cell? ⟨g,k * 2,none⟩ = some _:=(hg5 (k * 2) oq).trans (by exact hP.1)
      have cf:=b9_frozen hg3
      have hgn:¬ g = w.heap.size:=by omega
      have hgn1:¬ g = w.heap.size + 1:=by omega
      have hgm:¬ w.heap.size = g:=by omega
      have hgm1:¬ w.heap.size + 1 = g:=by omega
      have hki:(k:Int) < (f.ins.length:Int):=by omega
      have hk0:(0:Int) ≤ (k:Int):=by omega
      have hlg:=lt_of_block hg3
      have hni:(0:Int) < (f.ins.length:Int):=by omega
      have hnz:((f.ins.length:Int) == 0) = false:=by rw [beq_eq_false_iff_ne];omega
      have hnz2:¬ (f.ins.length:Int) = 0:=by omega
      have hnl:¬ f.ins = []:=fun h => by rw [h] at hn;simp at hn
      clear hg3 hg4 hg5 hab hb
      go_upto_region 8 with fail
      go_still_tail 10,(by kernel_rfl)
      change wpList _ _ _ _ _ W6.drew
      go_wp2
      exact bodyPost_ret (v:=fv ⟨f.ins.set k (tov,f.ins[k].2),f.nods,f.tasks,f.tells⟩ (some ⟨g,0,none⟩) an2 aT2 al2 ci2 cn2 ct2 cl2) (by unfold fv;simp only [List.length_set];simp only [results,Tryz.results20];go_simp) rfl ⟨⟨⟨f.ins.set k (tov,f.ins[k].2),f.nods,f.tasks,f.tells⟩,(some ⟨g,0,none⟩),an2,aT2,al2,ci2,cn2,ct2,cl2,rfl,fun q Z h3 h4 hz => HT.out.fin0 hk oq oq (res4 _ _ _ _ _ _).drew oq h3 hz⟩,b9_low HBw.out oq oq (res4 _ _ _ _ _ _).drew⟩
    · have hni:¬ (0:Int) < (f.ins.length:Int):=by omega
      have hnl:f.ins = []:=List.eq_nil_of_length_eq_zero oq
      go_wp2
      exact bodyPost_ret (v:=fv f ai2 an2 aT2 al2 ci2 cn2 ct2 cl2) (by unfold fv;simp only [results,Tryz.results20];go_simp) rfl ⟨⟨f,ai2,an2,aT2,al2,ci2,cn2,ct2,cl2,rfl,fun q Z h3 h4 hz => HT.out.fin5 oq oq (res4 _ _ _ _ _ _) oq h3 hz⟩,b9_low0 HBw.out oq (res4 _ _ _ _ _ _)⟩
end Go.Proofs.YteaiemfhlpoieaaGreatDoor.syn
