/-
  Clocks: each flow's clock, or an error.
-/
import Derived.Test.YtjcmjlkihfcdcaaChk11
namespace Go.Proofs.Ytjcmjlkihfcdcaa.syn
open Go.RowKit
set_option linter.unusedVariables false
set_option linter.unusedSimpArgs false

theorem InC.later {w wr : World} {b o : Nat} {f : IN} (h : InC w b o f) (hb : Below w.heap.size w wr) (hlt : b < w.heap.size) : InC wr b o f := inSta w wr b o f hb hlt h
theorem envNil : EnvIs [] (fun _ => none) := fun nm => rfl
theorem clockInfo : (Try.prog.info? 43).map (fun i => (i.zero, i.size, i.bytes)) = some (some (.agg #[.int .i64 0, .int .i64 0]), 2, 16) := by kernel_rfl
theorem make_clocks (n : Nat) (hn : n ≤ 1000) (w : World) : (Instr.makeSlice 33 (.int .i64 (n : Int)) (.int .i64 (n : Int))).run Try.prog w = .ok (.slice (some ⟨w.heap.size, 0, none⟩) n n) (w.alloc (.cells (madeCells #[.int .i64 0, .int .i64 0] (n * 2)) 43)) := by
  obtain ⟨i, hi, hzz⟩ := Option.map_eq_some_iff.1 clockInfo
  simp only [Prod.mk.injEq] at hzz
  obtain ⟨hz, hs, hb⟩ := hzz
  have hr := run_make (P := Try.prog) w 33 43 i _ Try.underlying33 hi hz .i64 .i64 n n (by omega) (Int.le_refl _) (by rw [hb]; omega) (by omega)
  have hc : (Value.agg #[.int .i64 0, .int .i64 0]).cells = #[.int .i64 0, .int .i64 0] := by first | rfl | simp [Value.cells]
  rw [hc, hs] at hr
  simpa using hr

theorem wpList_mk (w : World) {ops : Array Oper} {rest : List Oper} {o : Oper} {a : Act} {Q : Exit → Act → World → Prop} (hg : o.guard = none) (l c : Operand) (hop : o.op = Op.makeSlice 33 l c)
    (n : Nat) (hl : a.eval l = .int .i64 (n : Int)) (hc : a.eval c = .int .i64 (n : Int)) (hn : n ≤ 1000)
    (hK : wpList Try.prog ops Q rest (a.put o.dst (.slice (some ⟨w.heap.size, 0, none⟩) n n)) (w.alloc (.cells (madeCells #[.int .i64 0, .int .i64 0] (n * 2)) 43))) : wpList Try.prog ops Q (o :: rest) a w := by
  refine wpList_plain hg fun K hK' => ?_
  have hrun := make_clocks n hn w
  unfold Oper.wp
  simp [execOp, hop, hl, hc, hrun, Result.andThen]
  exact hK' _ _ hK
theorem made_size (n : Nat) : (madeCells #[.int .i64 0, .int .i64 0] (n * 2)).size = n * 2 := size_madeCells _ _


set_option maxRecDepth 100000 in
set_option maxHeartbeats 4000000 in
theorem clocks_any {w : World} (p : PG) (an ai af ao : Option Addr) (cn ci cf co : Nat) (hp : AP w p an ai af ao cn ci cf co) (hs : sumN p.nodes + sumF p.flows ≤ 8000) (hl : p.flows.length ≤ 1000) (hNU : NU (env0 p.ins) p.flows)
    (hH : ∀ env, findP (env0 p.ins) p.flows = some env → callsOK env p.flows = true → ∀ f ∈ p.flows, ∃ a b, tellE env f.e = .ok a b ∧ env f.nm = some (a, b)) :
    Calls Try.prog 12 #[pv p an ai af ao cn ci cf co] w (ClkAns w p) := by
  obtain ⟨nodes, ins, flows, outs⟩ := p
  simp only at hs hl hNU hH
  have HFT := Lib.hid (fun (w' : World) (hb : Below w.heap.size w w') => fits_any ⟨nodes, ins, flows, outs⟩ an ai af ao cn ci cf co (hp.below hb) hs)
  unfold pv at HFT
  simp only at HFT
  have HI := Lib.hid hp.ins
  have HF := Lib.hid hp.flows
  have hcap := hp.caps
  simp only at hcap
  have hil : ins.length ≤ 9223372036854775807 := by omega
  have hfl : flows.length ≤ 9223372036854775807 := by omega
  have HN := Lib.hid hNU
  have HH := Lib.hid hH
  clear hp hNU hH
  unfold pv
  simp only
  have hmk := fun w => run_makeMap (P := Try.prog) 66 w
  go_enter Try.func12, Try.ntmps12
  go_wp2_with (go_at_call 19; refine (HFT.out _ (by repeat (first | (with_reducible exact Below.refl _ _) | ((with_reducible refine below_setAt ?_ ?_ _); (rotate_left; focus (first | omega | (simp; done) | (simp; omega)))) | ((with_reducible refine Below.alloc ?_ ?_ _); (rotate_left; focus (first | omega | (simp; done) | (simp; omega)))) | (with_reducible refine below_drewN ?_ _) | (with_reducible refine Below.drew ?_)))).mono ?_; rintro x w1 ⟨rfl, hb1⟩; obtain ⟨hc1, hf1⟩ := bcell hb1; have b1 : w.heap.size < w1.heap.size := sz_of hb1 (by first | omega | (simp; done) | (simp; omega)))
  have HB1 := Lib.hid hb1
  have hpb0 : (w1.alloc (.map #[] 0)).heap[w.heap.size]? = some (.cells #[.slice an nodes.length cn, .slice ai ins.length ci, .slice af flows.length cf, .slice ao outs.length co] 27 (0, 0)) := (Below.heap_alloc _ _ _ b1).trans ((hb1.block _ (by first | omega | (simp; done) | (simp; omega))).trans (heap_new w _))
  have HCW0 := Lib.hid (show CW w (w1.alloc (.map #[] 0)) (w1.alloc (.map #[] 0)) w1.heap.size from ⟨Upon.refl _ _, by simp; omega, (by repeat (first | (with_reducible exact Below.refl _ _) | ((with_reducible refine below_setAt ?_ ?_ _); (rotate_left; focus (first | omega | (simp; done) | (simp; omega)))) | ((with_reducible refine Below.alloc ?_ ?_ _); (rotate_left; focus (first | omega | (simp; done) | (simp; omega)))) | (with_reducible refine below_drewN ?_ _) | (with_reducible refine Below.drew ?_) | ((with_reducible refine Below.trans ?_ (Below.mono hb1 ?_)); (rotate_left; focus (first | omega | (simp; done) | (simp; omega)))))), b1⟩)
  have HM0 := Lib.hid (MapS.new w1)
  have HPB0 := Lib.hid hpb0
  generalize w1.alloc (.map #[] 0) = W1 at *
  obtain ⟨mb, hmb⟩ : ∃ mb, w1.heap.size = mb := ⟨_, rfl⟩
  rw [hmb] at b1 HCW0 HM0 ⊢
  clear hmb hc1 hf1 hb1 HB1 hpb0
  go_loopw [22] (fun v wr => Hid (L1Rel w W1 mb ins v wr)) (fun i _ => ins.length - (intOf i).toNat)
  case atStart => exact ⟨0, fun _ => none, [], rfl, Nat.zero_le _, HCW0.out, HM0.out, envNil, rfl⟩
  case round =>
    obtain ⟨i, env, L, rfl, hi, hcw, hM, hE, hen⟩ := hrel.out
    clear hrel
    have HM := Lib.hid hM
    have HCW := Lib.hid hcw
    have HE := Lib.hid hE
    have hlow := hcw.low
    have hmlt := hM.lt
    have hszr := hlow.size
    have hpb := (hcw.upon.block _ (lt_of_block HPB0.out) (by omega)).trans HPB0.out
    obtain ⟨⟨p0, p1, p2, p3⟩, pf⟩ := cells4 hpb
    have HPB := Lib.hid hpb
    have hplt := lt_of_block hpb
    clear hcw hM hE hpb
    by_cases hlt : i < ins.length
    · obtain ⟨bb, oo, rfl, hbb0, hin0⟩ := HI.out.at hlt
      have hin := hin0.later hlow hbb0
      rw [drop_in hlt] at hen
      obtain ⟨f, hf⟩ : ∃ f, ins[i] = f := ⟨_, rfl⟩
      rw [hf] at hin hen
      obtain ⟨nm, per, ph, fa⟩ := f
      obtain ⟨y0, y1, y2, y3, _⟩ := hin
      simp only at y0 y1 y2 y3
      have HEN := Lib.hid (show inEnv (ins.drop (i + 1)) (upd env nm (per, ph)) = env0 ins from hen)
      have hie : (i : Int) < (ins.length : Int) := by omega
      have hbb : bb < wr.heap.size := by omega
      clear hin0 hen hlow
      go_wp2_with (at_mapUpdate; refine wpList_putS clocksMap _ rfl _ _ _ rfl mb L nm (cvv (per, ph)) rfl rfl rfl (HM.out.below (by repeat (first | (with_reducible exact Below.refl _ _) | ((with_reducible refine below_setAt ?_ ?_ _); (rotate_left; focus (first | omega | (simp; done) | (simp; omega)))) | ((with_reducible refine Below.alloc ?_ ?_ _); (rotate_left; focus (first | omega | (simp; done) | (simp; omega)))) | (with_reducible refine below_drewN ?_ _) | (with_reducible refine Below.drew ?_)))) ?_; intro arr clock hm2)
      refine ⟨⟨i + 1, upd env nm (per, ph), _, by go_num, by omega, ⟨HCW.out.upon.trans (upon_putM ((Upon.refl _ _).alloc _) _), HCW.out.size, HCW.out.below, b1⟩, hm2, HE.out.put nm (per, ph), HEN.out⟩, by simp [intOf]; omega⟩
    · have hie : i = ins.length := by omega
      subst hie
      have he0 : env = env0 ins := by rw [List.drop_length] at hen; exact hen
      subst he0
      clear hen
      obtain ⟨W2, hW2⟩ : ∃ W2, wr.alloc (Obj.cells #[.func (.func 29) #[.map (some mb)] #[], .func (.func 30) #[.map (some mb)] #[], .func (.func 31) #[.map (some mb)] #[], .func (.func 32) #[.map (some mb)] #[]] 67) = W2 := ⟨_, rfl⟩
      obtain ⟨fb, hfb⟩ : ∃ fb, wr.heap.size = fb := ⟨_, rfl⟩
      go_wp2
      try rw [hW2]
      have HFB := Lib.hid (show W2.heap[fb]? = some _ from by rw [← hW2, ← hfb]; exact heap_new wr _)
      have hW2s : W2.heap.size = fb + 1 := by rw [← hW2, ← hfb]; simp
      have HPB2 := Lib.hid (show W2.heap[w.heap.size]? = some (.cells #[.slice an nodes.length cn, .slice ai ins.length ci, .slice af flows.length cf, .slice ao outs.length co] 27 (0, 0)) from by rw [← hW2]; exact (Below.heap_alloc _ _ _ hplt).trans HPB.out)
      have HCW2 := Lib.hid (show CW w W2 W2 mb from ⟨Upon.refl _ _, by omega, by rw [← hW2]; exact hlow.alloc hszr _, b1⟩)
      have HM2 := Lib.hid (show MapS W2 mb L from by rw [← hW2]; exact HM.out.below (by repeat (first | (with_reducible exact Below.refl _ _) | ((with_reducible refine below_setAt ?_ ?_ _); (rotate_left; focus (first | omega | (simp; done) | (simp; omega)))) | ((with_reducible refine Below.alloc ?_ ?_ _); (rotate_left; focus (first | omega | (simp; done) | (simp; omega)))) | (with_reducible refine below_drewN ?_ _) | (with_reducible refine Below.drew ?_))))
      rw [hfb] at hmlt
      clear hW2 hfb hlow hszr hplt p0 p1 p2 p3 pf HPB HM HCW HPB0 HM0 HCW0
      go_loopw [45] (fun v wr => Hid (L2Rel w W2 mb ⟨nodes, ins, flows, outs⟩ v wr)) (fun i _ => 4 - (intOf i).toNat)
      case atStart => exact ⟨0, env0 ins, L, rfl, by omega, HCW2.out, HM2.out, HE.out, fun _ => rfl, fun h => absurd rfl h, fun h => absurd h (by omega)⟩
      case round =>
        obtain ⟨j, env, L2, rfl, hj, hcw, hM, hE, hj0, hjn, hj3⟩ := hrel.out
        clear hrel
        simp only at hj0 hjn hj3
        have hlow := hcw.low
        have hszr := hlow.size
        have hpb := (hcw.upon.block _ (lt_of_block HPB2.out) (by omega)).trans HPB2.out
        have hfbk := (hcw.upon.block _ (lt_of_block HFB.out) (by omega)).trans HFB.out
        obtain ⟨⟨p0, p1, p2, p3⟩, pf⟩ := cells4 hpb
        obtain ⟨⟨q0, q1, q2, q3⟩, qf⟩ := cells4 hfbk
        have HPB := Lib.hid hpb
        have hrow := HF.out.below flSta hlow
        have HM := Lib.hid hM
        have HE2 := Lib.hid hE
        have HCW := Lib.hid hcw
        match j, hj with
        | 0, _ =>
          have he := hj0 rfl
          subst he
          have HC := Lib.hid (find_any (W0 := w) (w := wr) flows af cf mb L2 (env0 ins) hlow (Nat.le_of_lt b1) HF.out hcap.2.2.1.1 hcap.2.2.1.2 hM hE HN.out)
          unfold FindAns at HC
          clear hcw hM hE hrow hpb hfbk hj0 hjn hj3 hlow
          cases hfp : findP (env0 ins) flows with
          | none =>
            rw [hfp] at HC
            simp only at HC
            go_wp2_with (go_at_call 29; go_loud (refine HC.out.mono ?_; rintro x w3 ⟨⟨ab, eb, heb, rfl⟩, hu3⟩; have heb' : (eb == 0) = false := beq_eq_false_iff_ne.2 heb))
            go_ret3
            refine ⟨?_, HCW.out.low.trans (hu3.below hszr (Nat.le_of_lt b1))⟩
            simp only [hfp]
            exact ⟨ab, eb, heb, rfl⟩
          | some env =>
            rw [hfp] at HC
            simp only at HC
            go_wp2_with (go_at_call 29; go_loud (refine HC.out.mono ?_; rintro x w3 ⟨⟨rfl, L3, hM3, hE3⟩, hu3⟩))
            refine ⟨⟨1, env, L3, by go_num, by omega, ⟨HCW.out.upon.trans hu3, HCW.out.size, HCW.out.below, b1⟩, hM3, hE3, fun h => absurd h (by omega), fun _ => hfp, fun h => absurd h (by omega)⟩, by simp [intOf]⟩
        | 1, _ =>
          have hfp := hjn (by omega)
          have HC := Lib.hid (askFound_any (w := wr) flows af cf mb L2 env hrow hcap.2.2.1.1 hcap.2.2.1.2 hM hE (findP_has flows (env0 ins) env HN.out hfp))
          unfold OkPair at HC
          clear hcw hM hE hrow hpb hfbk hj0 hjn hj3 hlow
          go_wp2_with (go_at_call 30; go_loud (refine HC.out.mono ?_; rintro x w3 ⟨rfl, hb3⟩))
          refine ⟨⟨2, env, L2, by go_num, by omega, ⟨HCW.out.upon.trans (Upon.of_below hb3), HCW.out.size, HCW.out.below, b1⟩, HM.out.below hb3, HE2.out, fun h => absurd h (by omega), fun _ => hfp, fun h => absurd h (by omega)⟩, by simp [intOf]⟩
        | 2, _ =>
          have hfp := hjn (by omega)
          have HC := Lib.hid (askCalls_any (w := wr) flows af cf mb L2 env hrow hcap.2.2.1.1 hcap.2.2.1.2 hM hE)
          clear hcw hM hE hrow hpb hfbk hj0 hjn hj3 hlow
          cases hck : callsOK env flows with
          | false =>
            rw [hck] at HC
            go_wp2_with (go_at_call 31; go_loud (refine HC.out.mono ?_; rintro x w3 ⟨⟨ab, eb, heb, rfl⟩, hb3⟩; have heb' : (eb == 0) = false := beq_eq_false_iff_ne.2 heb))
            go_ret3
            refine ⟨?_, HCW.out.low.trans (hb3.mono hszr)⟩
            simp only [hfp, hck, if_false, Bool.false_eq_true]
            exact ⟨ab, eb, heb, rfl⟩
          | true =>
            rw [hck] at HC
            go_wp2_with (go_at_call 31; go_loud (refine HC.out.mono ?_; rintro x w3 ⟨he, hb3⟩; obtain rfl : x = .returned (.tuple #[.int .i64 0, .int .i64 0]) := he))
            refine ⟨⟨3, env, L2, by go_num, by omega, ⟨HCW.out.upon.trans (Upon.of_below hb3), HCW.out.size, HCW.out.below, b1⟩, HM.out.below hb3, HE2.out, fun h => absurd h (by omega), fun _ => hfp, fun _ => hck⟩, by simp [intOf]⟩
        | 3, _ =>
          have hfp := hjn (by omega)
          have hck := hj3 (by omega)
          have HC := Lib.hid (askFlows_any (w := wr) flows af cf mb L2 env hrow hcap.2.2.1.1 hcap.2.2.1.2 hM hE (HH.out env hfp hck))
          unfold OkPair at HC
          clear hcw hM hE hrow hpb hfbk hj0 hjn hj3 hlow
          go_wp2_with (go_at_call 32; go_loud (refine HC.out.mono ?_; rintro x w3 ⟨rfl, hb3⟩))
          refine ⟨⟨4, env, L2, by go_num, by omega, ⟨HCW.out.upon.trans (Upon.of_below hb3), HCW.out.size, HCW.out.below, b1⟩, HM.out.below hb3, HE2.out, fun h => absurd h (by omega), fun _ => hfp, fun _ => hck⟩, by simp [intOf]⟩
        | 4, _ =>
          have hfp := hjn (by omega)
          have hck := hj3 (by omega)
          have hhas := findP_has flows (env0 ins) env HN.out hfp
          have HHAS := Lib.hid hhas
          obtain ⟨W3, hW3⟩ : ∃ W3, wr.alloc (.cells (madeCells #[.int .i64 0, .int .i64 0] (flows.length * 2)) 43) = W3 := ⟨_, rfl⟩
          obtain ⟨b, hb⟩ : ∃ b, wr.heap.size = b := ⟨_, rfl⟩
          have hplt := lt_of_block hpb
          have hmlt2 := hM.lt
          have hpb3 : W3.heap[w.heap.size]? = some (.cells #[.slice an nodes.length cn, .slice ai ins.length ci, .slice af flows.length cf, .slice ao outs.length co] 27 (0, 0)) := by rw [← hW3]; exact (Below.heap_alloc _ _ _ hplt).trans hpb
          obtain ⟨⟨r0, r1, r2, r3⟩, rf⟩ := cells4 hpb3
          clear hcw hM hE hrow hfbk hj0 hjn hj3 hhas
          go_wp2_with (at_make; refine wpList_mk _ rfl _ _ rfl flows.length rfl rfl hl ?_)
          try rw [hW3]
          try rw [hb]
          have hB3 : W3.heap[b]? = some (.cells (madeCells #[.int .i64 0, .int .i64 0] (flows.length * 2)) 43 (0, 0)) := by rw [← hW3, ← hb]; exact heap_new wr _
          have HB3 := Lib.hid hB3
          have hW3s : W3.heap.size = b + 1 := by rw [← hW3, ← hb]; simp
          have hlow3 : Below w.heap.size w W3 := by rw [← hW3]; exact hlow.alloc hszr _
          have HLOW := Lib.hid hlow3
          have HM3 := Lib.hid (show MapS W3 mb L2 from by rw [← hW3]; exact HM.out.below (by repeat (first | (with_reducible exact Below.refl _ _) | ((with_reducible refine below_setAt ?_ ?_ _); (rotate_left; focus (first | omega | (simp; done) | (simp; omega)))) | ((with_reducible refine Below.alloc ?_ ?_ _); (rotate_left; focus (first | omega | (simp; done) | (simp; omega)))) | (with_reducible refine below_drewN ?_ _) | (with_reducible refine Below.drew ?_))))
          rw [hb] at hmlt2 hplt hszr
          clear hW3 hb hlow3 hlow hB3 hpb hpb3 HM HPB HCW p0 p1 p2 p3 pf q0 q1 q2 q3 qf r0 r1 r2 r3 rf
          go_loopw [68] (fun v wr => Hid (L3Rel w W3 mb b env L2 flows v wr)) (fun i _ => flows.length - (intOf i).toNat)
          case atStart => exact ⟨0, _, rfl, Nat.zero_le _, Upon.refl _ _, HB3.out, made_size _, fun j h hj => absurd hj (by omega)⟩
          case round =>
            obtain ⟨i, arr, rfl, hi, hup, hblk, hasz, hcells⟩ := hrel.out
            clear hrel
            have hlow := HLOW.out.trans (hup.below (by omega) (Nat.le_of_lt hplt))
            have hszr := hlow.size
            have hszu := hup.size
            have HUP := Lib.hid hup
            have HBLK := Lib.hid hblk
            have hca := blk_cellA hblk
            have hM := HM3.out.upon hup (by omega)
            have HCE := Lib.hid hcells
            by_cases hlt : i < flows.length
            · obtain ⟨bb, oo, rfl, hbb0, hfl0⟩ := HF.out.at hlt
              have hfl' := hfl0.later hlow hbb0
              obtain ⟨c, hc⟩ := HHAS.out flows[i] (List.getElem_mem hlt)
              obtain ⟨f, hf⟩ : ∃ f, flows[i] = f := ⟨_, rfl⟩
              have HF2 := Lib.hid hf
              rw [hf] at hfl' hc
              obtain ⟨nm, ⟨k1, nm1, n1, d1, args1, a1⟩, fa⟩ := f
              obtain ⟨ad, cap, y0, y1, y2, y3, y4, y5, y6, y7, hae, hfn⟩ := hfl'.cells
              obtain ⟨c1, c2⟩ := c
              have HG := Lib.hid (show getS nm L2 = some (.agg #[.int .i64 c1, .int .i64 c2]) by rw [HE2.out nm, hc]; rfl)
              have hie : (i : Int) < (flows.length : Int) := by omega
              have hbb : bb < wr.heap.size := by omega
              have hblt : b < wr.heap.size := lt_of_block hblk
              have z0 : wr.cell? ⟨b, i * 2, none⟩ = some arr[i * 2] := by rw [(hca _).1]; exact Array.getElem?_eq_getElem (by omega)
              have z1 : wr.cell? ⟨b, i * 2 + 1, none⟩ = some arr[i * 2 + 1] := by rw [(hca _).1]; exact Array.getElem?_eq_getElem (by omega)
              have zf0 := (hca (i * 2)).2
              have zf1 := (hca (i * 2 + 1)).2
              have HMr := Lib.hid hM
              have HC := Lib.hid hc
              clear hup hblk hcells hca hM hfl' hfl0 hf hc hae hfn hlow hbb0
              go_wp2_with (at_lookup; refine wpList_lookS_yes1 clocksMap _ rfl _ _ rfl mb L2 nm _ rfl rfl (HMr.out.below (by repeat (first | (with_reducible exact Below.refl _ _) | ((with_reducible refine below_setAt ?_ ?_ _); (rotate_left; focus (first | omega | (simp; done) | (simp; omega)))) | ((with_reducible refine Below.alloc ?_ ?_ _); (rotate_left; focus (first | omega | (simp; done) | (simp; omega)))) | (with_reducible refine below_drewN ?_ _) | (with_reducible refine Below.drew ?_)))) HG.out ?_)
              refine ⟨⟨i + 1, _, by go_num, by omega, ((HUP.out.setAt (.inl rfl) _).setAt (.inl rfl) _).alloc _, (Below.heap_alloc _ _ _ (by simpa [World.setCell] using hblt)).trans (blk_setA (blk_setA HBLK.out (i * 2) (.int .i64 c1)) (i * 2 + 1) (.int .i64 c2)), by simpa using hasz, fun j hj hji => ?_⟩, by simp [intOf]; omega⟩
              by_cases hjl : j < i
              · have h := HCE.out j hj hjl
                rw [Array.getElem?_setIfInBounds_ne (by omega), Array.getElem?_setIfInBounds_ne (by omega), Array.getElem?_setIfInBounds_ne (by omega), Array.getElem?_setIfInBounds_ne (by omega)]
                exact h
              · have hje : j = i := by omega
                subst hje
                have hk : clkAt env flows[j].nm = (c1, c2) := by rw [HF2.out]; unfold clkAt; rw [HC.out]; rfl
                rw [hk]
                rw [Array.getElem?_setIfInBounds_ne (by omega), Array.getElem?_setIfInBounds_self_of_lt (by omega), Array.getElem?_setIfInBounds_self_of_lt (by rw [Array.size_setIfInBounds]; omega)]
                exact ⟨rfl, rfl⟩
            · have hie : i = flows.length := by omega
              subst hie
              clear hup hblk hcells hca hM
              go_wp2
              go_ret3
              refine ⟨?_, hlow⟩
              simp only [hfp, hck, if_true]
              refine ⟨_, rfl, b, by simp, lt_of_block HBLK.out, fun j hj => ?_⟩
              have hj' : j < flows.length := by simpa using hj
              have h := HCE.out j hj' hj'
              have hca := blk_cellA HBLK.out
              refine ⟨(hca _).1.trans ?_, (hca _).1.trans ?_⟩
              · rw [h.1]; simp
              · rw [h.2]; simp
        | j + 5, h => exact absurd h (by omega)

end Go.Proofs.Ytjcmjlkihfcdcaa.syn
