/-
  Names of a program without nodes and outputs: maps that count, again, has, askNodes, askSources, askOutputs.
-/
import Derived.Test.YtjcmjlkihfcdcaaChk12
import Derived.Shelf.Abstract
import Derived.LoopIn
import Derived.Maps.OwnIn
namespace Go.Proofs.Ytjcmjlkihfcdcaa.syn
open Go.RowKit
set_option linter.unusedVariables false
set_option linter.unusedSimpArgs false

/-- A map that counts names. -/
def CM (w : World) (mb : Nat) (c : ByteArray → Int) : Prop := ∃ L, MapS w mb L ∧ ∀ nm, (getS nm L).getD (.int .i64 0) = .int .i64 (c nm)
def inc (c : ByteArray → Int) (k : ByteArray) : ByteArray → Int := fun nm => if nm = k then c nm + 1 else c nm
/-- None of these is counted yet, nor twice among them. -/
def Fr : List ByteArray → (ByteArray → Int) → Prop
  | [], _ => True
  | x :: l, c => c x = 0 ∧ Fr l (inc c x)
def incs : List ByteArray → (ByteArray → Int) → (ByteArray → Int)
  | [], c => c
  | x :: l, c => incs l (inc c x)
theorem CM.below {w w' : World} {mb : Nat} {c : ByteArray → Int} (h : CM w mb c) (hb : Below w.heap.size w w') : CM w' mb c := by
  obtain ⟨L, h1, h2⟩ := h; exact ⟨L, h1.below hb, h2⟩
theorem CM.lt {w : World} {mb : Nat} {c : ByteArray → Int} (h : CM w mb c) : mb < w.heap.size := by
  obtain ⟨L, h1, h2⟩ := h; exact h1.lt
theorem CM.new (w : World) : CM (w.alloc (.map #[] 0)) w.heap.size (fun _ => 0) := ⟨[], MapS.new w, fun _ => rfl⟩
theorem cm_put {L : List (ByteArray × Value)} {c : ByteArray → Int} (h : ∀ nm, (getS nm L).getD (.int .i64 0) = .int .i64 (c nm)) {k : ByteArray} (h0 : c k = 0) : ∀ nm, (getS nm (putS k (.int .i64 1) L)).getD (.int .i64 0) = .int .i64 (inc c k nm) := by
  intro nm
  rw [getS_put]
  unfold inc
  by_cases hk : nm = k
  · subst hk; rw [if_pos rfl, if_pos rfl, h0]; rfl
  · rw [if_neg hk, if_neg hk]; exact h nm
theorem wpList_lookC {T K E : TypeId} {z : Value} (M : StrMap T K E z) (w : World) {ops : Array Oper} {rest : List Oper} {o : Oper} {a : Act} {Q : Exit → Act → World → Prop}
    (hg : o.guard = none) (m x : Operand) (hop : o.op = Op.lookup T m x false) (mb : Nat) (L : List (ByteArray × Value)) (k : ByteArray) (v : Value)
    (hm : a.eval m = .map (some mb)) (hx : a.eval x = .string k) (h : MapS w mb L) (hs : (getS k L).getD z = v)
    (hK : wpList Try.prog ops Q rest (a.put o.dst v) w) :
    wpList Try.prog ops Q (o :: rest) a w :=
  wpList_lookS M w hg m x false hop mb L k hm hx h (by simpa only [hs, if_false, Bool.false_eq_true] using hK)

theorem again_any {w : World} (mb : Nat) (c : ByteArray → Int) (nm : ByteArray) (h : CM w mb c) (h0 : c nm = 0) :
    Calls Try.prog 38 #[.map (some mb), .string nm] w fun x w' => x = .returned (.bool false) ∧ CM w' mb (inc c nm) ∧ Upon mb w w' := by
  obtain ⟨L, hM, hL⟩ := h
  have HM := Lib.hid hM
  have HL := Lib.hid (show (getS nm L).getD (.int .i64 0) = .int .i64 0 by rw [hL, h0])
  have HP := Lib.hid (cm_put hL h0)
  have HQ := Lib.hid (show (getS nm (putS nm (.int .i64 1) L)).getD (.int .i64 0) = .int .i64 1 by rw [cm_put hL h0, inc, if_pos rfl, h0]; rfl)
  clear hM hL h0
  go_enter Try.func38, Try.ntmps38
  go_wp2_with (first | (at_lookup; first | refine wpList_lookC namesMap _ rfl _ _ rfl mb _ nm _ rfl rfl hm2 HQ.out ?_ | refine wpList_lookC namesMap _ rfl _ _ rfl mb L nm _ rfl rfl HM.out HL.out ?_) | (at_mapUpdate; refine wpList_putS namesMap _ rfl _ _ _ rfl mb L nm (.int .i64 1) rfl rfl rfl HM.out ?_; intro arr clock hm2))
  go_ret
  exact ⟨rfl, ⟨_, hm2, HP.out⟩, upon_putM (Upon.refl _ _) _⟩

theorem has_any {w : World} (mb : Nat) (c : ByteArray → Int) (nm : ByteArray) (h : CM w mb c) :
    Calls Try.prog 40 #[.map (some mb), .string nm] w fun x w' => x = .returned (.bool (decide (0 < c nm))) ∧ w' = w := by
  obtain ⟨L, hM, hL⟩ := h
  have HM := Lib.hid hM
  have HL := Lib.hid (hL nm)
  generalize c nm = q at HL ⊢
  clear hM hL
  go_enter Try.func40, Try.ntmps40
  go_wp2_with (at_lookup; refine wpList_lookC namesMap _ rfl _ _ rfl mb L nm _ rfl rfl HM.out HL.out ?_)
  go_ret
  exact ⟨by first | rfl | (simp; done), rfl⟩

theorem askNodes0 {w : World} (ins : List IN) (flows : List FL) (outs : List OU) (an ai af ao : Option Addr) (cn ci cf co : Nat) :
    Calls Try.prog 20 #[pv ⟨[], ins, flows, outs⟩ an ai af ao cn ci cf co] w fun x w' => x = OkPair ∧ Below w.heap.size w w' := by
  unfold pv OkPair
  simp only [List.length_nil]
  have hmk := fun w => run_makeMap (P := Try.prog) 72 w
  go_enter Try.func20, Try.ntmps20
  go_wp2
  go_loopw [16] (fun v wr => Hid (v = .int .i64 0 ∧ Below w.heap.size w wr)) (fun i _ => 0)
  case atStart => exact ⟨rfl, (by repeat (first | (with_reducible exact Below.refl _ _) | ((with_reducible refine below_setAt ?_ ?_ _); (rotate_left; focus (first | omega | (simp; done) | (simp; omega)))) | ((with_reducible refine Below.alloc ?_ ?_ _); (rotate_left; focus (first | omega | (simp; done) | (simp; omega)))) | (with_reducible refine below_drewN ?_ _) | (with_reducible refine Below.drew ?_)))⟩
  case round =>
    obtain ⟨rfl, hbel⟩ := hrel.out
    clear hrel
    have HB := Lib.hid hbel
    clear hbel
    go_wp2
    go_ret2
    exact ⟨rfl, HB.out⟩

/-- How the walk stands among names that are counted one by one. -/
def CtRel (w W : World) (mb : Nat) (l : List ByteArray) (cE : ByteArray → Int) (p : PG) (an ai af ao : Option Addr) (cn ci cf co : Nat) (v : Value) (wr : World) : Prop :=
  ∃ (i : Nat) (c : ByteArray → Int), v = .int .i64 (i : Int) ∧ i ≤ l.length ∧ Fr (l.drop i) c ∧ incs (l.drop i) c = cE ∧ CM wr mb c ∧ PBox wr w.heap.size p an ai af ao cn ci cf co ∧ Below w.heap.size w wr ∧ w.heap.size < mb
theorem drop_nm {l : List ByteArray} {i : Nat} (h : i < l.length) : l.drop i = l[i] :: l.drop (i + 1) := by rw [List.drop_eq_getElem_cons h]
end Go.Proofs.Ytjcmjlkihfcdcaa.syn

namespace Go.Proofs.Ytjcmjlkihfcdcaa.syn
open Go.RowKit
set_option linter.unusedVariables false
set_option linter.unusedSimpArgs false


theorem upon_low {w W W' : World} {mb : Nat} (h : Upon mb W W') (hb : Below w.heap.size w W) (hm : w.heap.size < mb) : Below w.heap.size w W' := hb.trans (h.below hb.size (Nat.le_of_lt hm))
theorem CtRel.next {w wr : World} {mb i : Nat} {l : List ByteArray} {cE c : ByteArray → Int} {p : PG} {an ai af ao : Option Addr} {cn ci cf co : Nat} (hi : i < l.length) (hfr : Fr (l.drop i) c) (hin : incs (l.drop i) c = cE) (hpb : PBox wr w.heap.size p an ai af ao cn ci cf co) (hb : Below w.heap.size w wr) (hm : w.heap.size < mb)
    {w2 w3 : World} (h2 : Below wr.heap.size wr w2) (h3 : Upon mb w2 w3) (hc : CM w3 mb (inc c l[i])) : CtRel w w mb l cE p an ai af ao cn ci cf co (.int .i64 ((i : Int) + 1)) w3 := by
  rw [drop_nm hi] at hfr hin
  have hlt := lt_of_block hpb
  refine ⟨i + 1, inc c l[i], by simp, hi, hfr.2, hin, hc, ?_, ?_, hm⟩
  · exact (h3.block _ (Nat.lt_of_lt_of_le hlt h2.size) (by omega)).trans ((h2.block _ hlt).trans hpb)
  · exact upon_low h3 (hb.trans (h2.mono hb.size)) hm

set_option maxRecDepth 100000 in
set_option maxHeartbeats 4000000 in
theorem askSources_any {w : World} (nodes : List ND) (ins : List IN) (flows : List FL) (outs : List OU) (an ai af ao : Option Addr) (cn ci cf co : Nat) (hp : AP w ⟨nodes, ins, flows, outs⟩ an ai af ao cn ci cf co) (hf1 : Fr (ins.map (·.nm)) (fun _ => 0)) (hf2 : Fr (flows.map (·.nm)) (incs (ins.map (·.nm)) (fun _ => 0))) :
    Calls Try.prog 21 #[pv ⟨nodes, ins, flows, outs⟩ an ai af ao cn ci cf co] w fun x w' => x = OkPair ∧ Below w.heap.size w w' := by
  have HI := Lib.hid hp.ins
  have HF := Lib.hid hp.flows
  have hcap := hp.caps
  simp only at hcap
  have hil : ins.length ≤ 9223372036854775807 := by omega
  have hfl : flows.length ≤ 9223372036854775807 := by omega
  have H1 := Lib.hid hf1
  have H2 := Lib.hid hf2
  clear hp hf1 hf2 hcap
  unfold pv OkPair
  simp only
  have hmk := fun w => run_makeMap (P := Try.prog) 72 w
  go_enter Try.func21, Try.ntmps21
  go_wp2
  go_loopw [13] (fun v wr => Hid (CtRel w w (w.heap.size + 1) (ins.map (·.nm)) (incs (ins.map (·.nm)) (fun _ => 0)) ⟨nodes, ins, flows, outs⟩ an ai af ao cn ci cf co v wr)) (fun i _ => ins.length - (intOf i).toNat)
  case atStart => exact ⟨0, fun _ => 0, rfl, Nat.zero_le _, H1.out, rfl, by simpa using CM.new (w.alloc _), (Below.heap_alloc _ _ _ (by simp)).trans (heap_new w _), (by repeat (first | (with_reducible exact Below.refl _ _) | ((with_reducible refine below_setAt ?_ ?_ _); (rotate_left; focus (first | omega | (simp; done) | (simp; omega)))) | ((with_reducible refine Below.alloc ?_ ?_ _); (rotate_left; focus (first | omega | (simp; done) | (simp; omega)))) | (with_reducible refine below_drewN ?_ _) | (with_reducible refine Below.drew ?_))), by omega⟩
  case round =>
    obtain ⟨i, c, rfl, hi, hfr, hin, hcm, hpb, hbel, _⟩ := hrel.out
    clear hrel
    rw [List.length_map] at hi
    have HFR := Lib.hid hfr
    have HIN := Lib.hid hin
    have HPB := Lib.hid hpb
    have HBEL := Lib.hid hbel
    have hplt := lt_of_block hpb
    have hszr := hbel.size
    have hmlt := hcm.lt
    unfold PBox at hpb
    simp only at hpb
    obtain ⟨⟨x0, x1, x2, x3⟩, xf⟩ := cells4 hpb
    have HCM := Lib.hid hcm
    clear hpb hfr hin hcm
    by_cases hlt : i < ins.length
    · obtain ⟨bb, oo, rfl, hbb0, hin0⟩ := HI.out.at hlt
      have hin := inSta w wr bb _ _ hbel hbb0 hin0
      have hbb := Nat.lt_of_lt_of_le hbb0 hszr
      have hfr := HFR.out
      rw [drop_nm (by simpa using hlt)] at hfr
      have HAG := Lib.hid (fun (w' : World) (hb : Below wr.heap.size wr w') => again_any (w := w') (w.heap.size + 1) c _ (HCM.out.below hb) hfr.1)
      have HNX := Lib.hid (fun (w2 w3 : World) => CtRel.next (w := w) (wr := wr) (w2 := w2) (w3 := w3) (l := ins.map (·.nm)) (show i < (ins.map (·.nm)).length by simpa using hlt) HFR.out HIN.out HPB.out HBEL.out (show w.heap.size < w.heap.size + 1 by omega))
      rw [List.getElem_map] at HAG HNX
      obtain ⟨x, hx⟩ : ∃ x, ins[i] = x := ⟨_, rfl⟩
      rw [hx] at hin HAG HNX
      obtain ⟨nm, per, ph, fa⟩ := x
      obtain ⟨y0, y1, y2, y3, hfn⟩ := hin
      simp only at y0 y1 y2 y3 HAG HNX
      have hie : (i : Int) < (ins.length : Int) := by omega
      clear hbel hin0 hx hfn hbb0 hfr
      go_wp2_with (go_at_call 38; go_loud (refine (HAG.out _ (by repeat (first | (with_reducible exact Below.refl _ _) | ((with_reducible refine below_setAt ?_ ?_ _); (rotate_left; focus (first | omega | (simp; done) | (simp; omega)))) | ((with_reducible refine Below.alloc ?_ ?_ _); (rotate_left; focus (first | omega | (simp; done) | (simp; omega)))) | (with_reducible refine below_drewN ?_ _) | (with_reducible refine Below.drew ?_)))).mono ?_; rintro x w3 ⟨rfl, hc3, hu3⟩))
      refine ⟨HNX.out _ w3 (by repeat (first | (with_reducible exact Below.refl _ _) | ((with_reducible refine below_setAt ?_ ?_ _); (rotate_left; focus (first | omega | (simp; done) | (simp; omega)))) | ((with_reducible refine Below.alloc ?_ ?_ _); (rotate_left; focus (first | omega | (simp; done) | (simp; omega)))) | (with_reducible refine below_drewN ?_ _) | (with_reducible refine Below.drew ?_))) hu3 hc3, by simp [intOf]; omega⟩
    · have hie : i = ins.length := by omega
      have HC1 := Lib.hid (show c = incs (ins.map (·.nm)) (fun _ => 0) by have := HIN.out; rw [hie, List.drop_of_length_le (by simp)] at this; exact this)
      have hie' : decide ((i : Int) < (ins.length : Int)) = false := decide_eq_false (by omega)
      clear hbel
      go_wp2
      go_loopw [27] (fun v wr => Hid (CtRel w w (w.heap.size + 1) (flows.map (·.nm)) (incs (flows.map (·.nm)) c) ⟨nodes, ins, flows, outs⟩ an ai af ao cn ci cf co v wr)) (fun i _ => flows.length - (intOf i).toNat)
      case atStart => exact ⟨0, c, rfl, Nat.zero_le _, by rw [HC1.out]; exact H2.out, rfl, HCM.out, HPB.out, HBEL.out, by omega⟩
      case round =>
        clear HFR HIN HPB HBEL hplt hszr hmlt x0 x1 x2 x3 xf HCM HC1 hie hie' hlt
        obtain ⟨i, c, rfl, hi, hfr, hin, hcm, hpb, hbel, _⟩ := hrel.out
        clear hrel
        rw [List.length_map] at hi
        have HFR := Lib.hid hfr
        have HIN := Lib.hid hin
        have HPB := Lib.hid hpb
        have HBEL := Lib.hid hbel
        have hplt := lt_of_block hpb
        have hszr := hbel.size
        have hmlt := hcm.lt
        unfold PBox at hpb
        simp only at hpb
        obtain ⟨⟨x0, x1, x2, x3⟩, xf⟩ := cells4 hpb
        have HCM := Lib.hid hcm
        clear hpb hfr hin hcm
        by_cases hlt : i < flows.length
        · obtain ⟨bb, oo, rfl, hbb0, hin0⟩ := HF.out.at hlt
          have hin := hin0.later hbel hbb0
          have hbb := Nat.lt_of_lt_of_le hbb0 hszr
          have hfr := HFR.out
          rw [drop_nm (by simpa using hlt)] at hfr
          have HAG := Lib.hid (fun (w' : World) (hb : Below wr.heap.size wr w') => again_any (w := w') (w.heap.size + 1) c _ (HCM.out.below hb) hfr.1)
          have HNX := Lib.hid (fun (w2 w3 : World) => CtRel.next (w := w) (wr := wr) (w2 := w2) (w3 := w3) (l := flows.map (·.nm)) (show i < (flows.map (·.nm)).length by simpa using hlt) HFR.out HIN.out HPB.out HBEL.out (show w.heap.size < w.heap.size + 1 by omega))
          rw [List.getElem_map] at HAG HNX
          obtain ⟨x, hx⟩ : ∃ x, flows[i] = x := ⟨_, rfl⟩
          rw [hx] at hin HAG HNX
          obtain ⟨nm, ⟨k1, nm1, n1, d1, args1, a1⟩, fa⟩ := x
          obtain ⟨ad, cap, y0, y1, y2, y3, y4, y5, y6, y7, hae, hfn⟩ := hin.cells
          simp only at HAG HNX
          have hie : (i : Int) < (flows.length : Int) := by omega
          clear hbel hin hin0 hx hfn hbb0 hfr hae
          go_wp2_with (go_at_call 38; go_loud (refine (HAG.out _ (by repeat (first | (with_reducible exact Below.refl _ _) | ((with_reducible refine below_setAt ?_ ?_ _); (rotate_left; focus (first | omega | (simp; done) | (simp; omega)))) | ((with_reducible refine Below.alloc ?_ ?_ _); (rotate_left; focus (first | omega | (simp; done) | (simp; omega)))) | (with_reducible refine below_drewN ?_ _) | (with_reducible refine Below.drew ?_)))).mono ?_; rintro x w3 ⟨rfl, hc3, hu3⟩))
          refine ⟨HNX.out _ w3 (by repeat (first | (with_reducible exact Below.refl _ _) | ((with_reducible refine below_setAt ?_ ?_ _); (rotate_left; focus (first | omega | (simp; done) | (simp; omega)))) | ((with_reducible refine Below.alloc ?_ ?_ _); (rotate_left; focus (first | omega | (simp; done) | (simp; omega)))) | (with_reducible refine below_drewN ?_ _) | (with_reducible refine Below.drew ?_))) hu3 hc3, by simp [intOf]; omega⟩
        · have hie' : decide ((i : Int) < (flows.length : Int)) = false := decide_eq_false (by omega)
          clear hbel
          go_wp2
          go_ret2
          exact ⟨rfl, HBEL.out⟩

set_option maxRecDepth 100000 in
set_option maxHeartbeats 4000000 in
theorem askOutputs0 {w : World} (nodes : List ND) (ins : List IN) (flows : List FL) (an ai af ao : Option Addr) (cn ci cf co : Nat) (hp : AP w ⟨nodes, ins, flows, []⟩ an ai af ao cn ci cf co) (hf1 : Fr (flows.map (·.nm)) (fun _ => 0)) :
    Calls Try.prog 23 #[pv ⟨nodes, ins, flows, []⟩ an ai af ao cn ci cf co] w fun x w' => x = OkPair ∧ Below w.heap.size w w' := by
  have HF := Lib.hid hp.flows
  have hcap := hp.caps
  simp only at hcap
  have hfl : flows.length ≤ 9223372036854775807 := by omega
  have H1 := Lib.hid hf1
  clear hp hf1 hcap
  unfold pv OkPair
  simp only [List.length_nil]
  have hmk := fun w => run_makeMap (P := Try.prog) 72 w
  go_enter Try.func23, Try.ntmps23
  go_wp2
  go_loopw [15] (fun v wr => Hid (CtRel w w (w.heap.size + 1) (flows.map (·.nm)) (incs (flows.map (·.nm)) (fun _ => 0)) ⟨nodes, ins, flows, []⟩ an ai af ao cn ci cf co v wr)) (fun i _ => flows.length - (intOf i).toNat)
  case atStart => exact ⟨0, fun _ => 0, rfl, Nat.zero_le _, H1.out, rfl, by simpa using (CM.new (w.alloc _)).below ((Below.refl _ _).alloc (Nat.le_refl _) _), (Below.heap_alloc _ _ _ (by simp; omega)).trans ((Below.heap_alloc _ _ _ (by simp)).trans (heap_new w _)), (by repeat (first | (with_reducible exact Below.refl _ _) | ((with_reducible refine below_setAt ?_ ?_ _); (rotate_left; focus (first | omega | (simp; done) | (simp; omega)))) | ((with_reducible refine Below.alloc ?_ ?_ _); (rotate_left; focus (first | omega | (simp; done) | (simp; omega)))) | (with_reducible refine below_drewN ?_ _) | (with_reducible refine Below.drew ?_))), by omega⟩
  case round =>
    obtain ⟨i, c, rfl, hi, hfr, hin, hcm, hpb, hbel, _⟩ := hrel.out
    clear hrel
    rw [List.length_map] at hi
    have HFR := Lib.hid hfr
    have HIN := Lib.hid hin
    have HPB := Lib.hid hpb
    have HBEL := Lib.hid hbel
    have hplt := lt_of_block hpb
    have hszr := hbel.size
    have hmlt := hcm.lt
    unfold PBox at hpb
    simp only [List.length_nil] at hpb
    obtain ⟨⟨x0, x1, x2, x3⟩, xf⟩ := cells4 hpb
    obtain ⟨L, hM, hL⟩ := hcm
    have HM := Lib.hid hM
    have HL := Lib.hid hL
    clear hpb hfr hin hM hL
    by_cases hlt : i < flows.length
    · obtain ⟨bb, oo, rfl, hbb0, hin0⟩ := HF.out.at hlt
      have hin := hin0.later hbel hbb0
      have hbb := Nat.lt_of_lt_of_le hbb0 hszr
      have hfr := HFR.out
      rw [drop_nm (by simpa using hlt)] at hfr
      have h0 := hfr.1
      have HNX := Lib.hid (fun (w2 w3 : World) => CtRel.next (w := w) (wr := wr) (w2 := w2) (w3 := w3) (l := flows.map (·.nm)) (show i < (flows.map (·.nm)).length by simpa using hlt) HFR.out HIN.out HPB.out HBEL.out (show w.heap.size < w.heap.size + 1 by omega))
      rw [List.getElem_map] at h0 HNX
      obtain ⟨x, hx⟩ : ∃ x, flows[i] = x := ⟨_, rfl⟩
      rw [hx] at hin h0 HNX
      obtain ⟨nm, ⟨k1, nm1, n1, d1, args1, a1⟩, fa⟩ := x
      obtain ⟨ad, cap, y0, y1, y2, y3, y4, y5, y6, y7, hae, hfn⟩ := hin.cells
      simp only at h0 HNX
      have HG := Lib.hid (show (getS nm L).getD (.int .i64 0) = .int .i64 0 by rw [HL.out, h0])
      have HPT := Lib.hid (cm_put HL.out h0)
      have hie : (i : Int) < (flows.length : Int) := by omega
      clear hbel hin hin0 hx hfn hbb0 hfr hae h0
      go_wp2_with (first | (at_lookup; refine wpList_lookC namesMap _ rfl _ _ rfl (w.heap.size + 1) L nm _ rfl rfl (HM.out.below (by repeat (first | (with_reducible exact Below.refl _ _) | ((with_reducible refine below_setAt ?_ ?_ _); (rotate_left; focus (first | omega | (simp; done) | (simp; omega)))) | ((with_reducible refine Below.alloc ?_ ?_ _); (rotate_left; focus (first | omega | (simp; done) | (simp; omega)))) | (with_reducible refine below_drewN ?_ _) | (with_reducible refine Below.drew ?_)))) HG.out ?_) | (at_mapUpdate; refine wpList_putS namesMap _ rfl _ _ _ rfl (w.heap.size + 1) L nm (.int .i64 1) rfl rfl rfl (HM.out.below (by repeat (first | (with_reducible exact Below.refl _ _) | ((with_reducible refine below_setAt ?_ ?_ _); (rotate_left; focus (first | omega | (simp; done) | (simp; omega)))) | ((with_reducible refine Below.alloc ?_ ?_ _); (rotate_left; focus (first | omega | (simp; done) | (simp; omega)))) | (with_reducible refine below_drewN ?_ _) | (with_reducible refine Below.drew ?_)))) ?_; intro arr clock hm2))
      refine ⟨HNX.out _ _ (by repeat (first | (with_reducible exact Below.refl _ _) | ((with_reducible refine below_setAt ?_ ?_ _); (rotate_left; focus (first | omega | (simp; done) | (simp; omega)))) | ((with_reducible refine Below.alloc ?_ ?_ _); (rotate_left; focus (first | omega | (simp; done) | (simp; omega)))) | (with_reducible refine below_drewN ?_ _) | (with_reducible refine Below.drew ?_))) (upon_putM (Upon.refl _ _) _) ⟨_, hm2, HPT.out⟩, by simp [intOf]; omega⟩
    · have hie' : decide ((i : Int) < (flows.length : Int)) = false := decide_eq_false (by omega)
      clear hbel
      go_wp2
      go_loopw [28] (fun v wr => Hid (v = .int .i64 0 ∧ Below w.heap.size w wr)) (fun i _ => 0)
      case atStart => exact ⟨rfl, HBEL.out⟩
      case round =>
        obtain ⟨rfl, hbel⟩ := hrel.out
        clear hrel
        have HB := Lib.hid hbel
        clear hbel
        go_wp2
        go_ret2
        exact ⟨rfl, HB.out⟩

end Go.Proofs.Ytjcmjlkihfcdcaa.syn

namespace Go.Proofs.Ytjcmjlkihfcdcaa.syn
open Go.RowKit Go.Shelf
set_option linter.unusedVariables false
set_option linter.unusedSimpArgs false
attribute [local go_sem] Oper.semAt_some

theorem wpListIn_lookC {F : Fence} {nF : Nat} {T K E : TypeId} {z : Value} (M : StrMap T K E z) (w : World) {ops : Array Oper} {rest : List Oper} {o : Oper} {a : Act} {Q : Exit → Act → World → Prop}
    (hg : o.guard = none) (m x : Operand) (hop : o.op = Op.lookup T m x false) (mb : Nat) (L : List (ByteArray × Value)) (k : ByteArray) (v : Value)
    (hm : a.eval m = .map (some mb)) (hx : a.eval x = .string k) (h : MapS w mb L) (hs : (getS k L).getD z = v)
    (hK : wpListIn F nF Try.prog ops Q rest (a.put o.dst v) w) :
    wpListIn F nF Try.prog ops Q (o :: rest) a w := by
  refine wpListIn_plain hg fun K' hK' => ?_
  have hrun := map_lookS M h k false
  rw [hs, if_neg (by decide)] at hrun
  unfold Oper.wpIn
  refine ⟨by simp [Oper.about, hop], ?_⟩
  rw [Oper.semAt_plain F _ _ (by rw [hop]; intro c hc'; cases hc')]
  simp [execOp, hop, hm, hx, hrun, Result.andThen]
  exact hK' _ _ hK

theorem wpListIn_putS {F : Fence} {nF : Nat} {T K E : TypeId} {z : Value} (M : StrMap T K E z) (w : World) {ops : Array Oper} {rest : List Oper} {o : Oper} {a : Act} {Q : Exit → Act → World → Prop}
    (hg : o.guard = none) (m x v : Operand) (hop : o.op = Op.mapUpdate T m x v) (mb : Nat) (L : List (ByteArray × Value)) (k : ByteArray) (u : Value)
    (hm : a.eval m = .map (some mb)) (hx : a.eval x = .string k) (hv : a.eval v = u) (h : MapS w mb L)
    (hK : ∀ arr clock, MapS (World.putM w mb (.map arr clock)) mb (putS k u L) → wpListIn F nF Try.prog ops Q rest (a.put o.dst undef) (World.putM w mb (.map arr clock))) :
    wpListIn F nF Try.prog ops Q (o :: rest) a w := by
  refine wpListIn_plain hg fun K' hK' => ?_
  obtain ⟨arr, clock, hrun, h1⟩ := map_putS M h k u
  unfold Oper.wpIn
  refine ⟨by simp [Oper.about, hop], ?_⟩
  rw [Oper.semAt_plain F _ _ (by rw [hop]; intro c hc'; cases hc')]
  simp [execOp, hop, hm, hx, hv, hrun, Result.andThen]
  exact hK' _ _ (hK arr clock h1)

theorem askExpr_any {w : World} (mb mb2 : Nat) (c : ByteArray → Int) (k n d a : Int) (nm : ByteArray) (ad : Option Addr) (len cap : Nat) (h : CM w mb c) (h2 : MapS w mb2 []) :
    Calls Try.prog 42 #[.agg #[.int .i64 k, .string nm, .int .i64 n, .int .i64 d, .slice ad len cap, .int .i64 a], .map (some mb), .map (some mb2)] w fun x w' => (∃ er : Int, x = .returned (.int .i64 er) ∧ (k = 1 → c nm = 1 → er = 0)) ∧ Below w.heap.size w w' := by
  have HH := Lib.hid (fun (w' : World) (hb : Below w.heap.size w w') => has_any (w := w') mb c nm (h.below hb))
  have H2 := Lib.hid h2
  clear h h2
  by_cases hk : k = 1
  · subst hk
    by_cases hc : 0 < c nm
    · rw [decide_eq_true hc] at HH
      clear hc
      go_enter Try.func42, Try.ntmps42
      go_wp2_with (go_at_call 40; go_loud (refine (HH.out _ (by repeat (first | (with_reducible exact Below.refl _ _) | ((with_reducible refine below_setAt ?_ ?_ _); (rotate_left; focus (first | omega | (simp; done) | (simp; omega)))) | ((with_reducible refine Below.alloc ?_ ?_ _); (rotate_left; focus (first | omega | (simp; done) | (simp; omega)))) | (with_reducible refine below_drewN ?_ _) | (with_reducible refine Below.drew ?_)))).mono ?_; rintro x w1 ⟨rfl, rfl⟩))
      go_ret
      exact ⟨⟨0, rfl, fun _ _ => rfl⟩, (by repeat (first | (with_reducible exact Below.refl _ _) | ((with_reducible refine below_setAt ?_ ?_ _); (rotate_left; focus (first | omega | (simp; done) | (simp; omega)))) | ((with_reducible refine Below.alloc ?_ ?_ _); (rotate_left; focus (first | omega | (simp; done) | (simp; omega)))) | (with_reducible refine below_drewN ?_ _) | (with_reducible refine Below.drew ?_)))⟩
    · rw [decide_eq_false hc] at HH
      have HC := Lib.hid hc
      clear hc
      go_enter Try.func42, Try.ntmps42
      go_wp2_with (go_at_call 40; go_loud (refine (HH.out _ (by repeat (first | (with_reducible exact Below.refl _ _) | ((with_reducible refine below_setAt ?_ ?_ _); (rotate_left; focus (first | omega | (simp; done) | (simp; omega)))) | ((with_reducible refine Below.alloc ?_ ?_ _); (rotate_left; focus (first | omega | (simp; done) | (simp; omega)))) | (with_reducible refine below_drewN ?_ _) | (with_reducible refine Below.drew ?_)))).mono ?_; rintro x w1 ⟨rfl, rfl⟩))
      go_ret
      exact ⟨⟨3, rfl, fun _ h => absurd (show 0 < c nm by omega) (by have := HC.out; omega)⟩, (by repeat (first | (with_reducible exact Below.refl _ _) | ((with_reducible refine below_setAt ?_ ?_ _); (rotate_left; focus (first | omega | (simp; done) | (simp; omega)))) | ((with_reducible refine Below.alloc ?_ ?_ _); (rotate_left; focus (first | omega | (simp; done) | (simp; omega)))) | (with_reducible refine below_drewN ?_ _) | (with_reducible refine Below.drew ?_)))⟩
  · have hk' : (k == 1) = false := beq_eq_false_iff_ne.2 hk
    have HK := Lib.hid hk
    by_cases hk2 : k = 2
    · subst hk2
      clear hk
      go_enter Try.func42, Try.ntmps42
      go_wp2_with (at_lookup; refine wpList_lookS_no2 intsMap _ rfl _ _ rfl mb2 [] nm rfl rfl (H2.out.below (by repeat (first | (with_reducible exact Below.refl _ _) | ((with_reducible refine below_setAt ?_ ?_ _); (rotate_left; focus (first | omega | (simp; done) | (simp; omega)))) | ((with_reducible refine Below.alloc ?_ ?_ _); (rotate_left; focus (first | omega | (simp; done) | (simp; omega)))) | (with_reducible refine below_drewN ?_ _) | (with_reducible refine Below.drew ?_)))) rfl ?_)
      go_ret
      exact ⟨⟨3, rfl, fun h => absurd h HK.out⟩, (by repeat (first | (with_reducible exact Below.refl _ _) | ((with_reducible refine below_setAt ?_ ?_ _); (rotate_left; focus (first | omega | (simp; done) | (simp; omega)))) | ((with_reducible refine Below.alloc ?_ ?_ _); (rotate_left; focus (first | omega | (simp; done) | (simp; omega)))) | (with_reducible refine below_drewN ?_ _) | (with_reducible refine Below.drew ?_)))⟩
    · have hk2' : (k == 2) = false := beq_eq_false_iff_ne.2 hk2
      clear hk hk2
      go_enter Try.func42, Try.ntmps42
      go_wp2
      go_ret
      exact ⟨⟨0, rfl, fun h => absurd h HK.out⟩, (by repeat (first | (with_reducible exact Below.refl _ _) | ((with_reducible refine below_setAt ?_ ?_ _); (rotate_left; focus (first | omega | (simp; done) | (simp; omega)))) | ((with_reducible refine Below.alloc ?_ ?_ _); (rotate_left; focus (first | omega | (simp; done) | (simp; omega)))) | (with_reducible refine below_drewN ?_ _) | (with_reducible refine Below.drew ?_)))⟩

def CuRel (W0 : World) (mb : Nat) (l : List ByteArray) (cE : ByteArray → Int) (v : Value) (wr : World) : Prop :=
  ∃ (i : Nat) (c : ByteArray → Int), v = .int .i64 (i : Int) ∧ i ≤ l.length ∧ Fr (l.drop i) c ∧ incs (l.drop i) c = cE ∧ CM wr mb c ∧ Upon mb W0 wr

set_option maxRecDepth 100000 in
set_option maxHeartbeats 4000000 in
theorem askExprs1 {w : World} (ins : List IN) (flows : List FL) (an ai af ao : Option Addr) (cn ci cf co : Nat) (hp : AP w ⟨[], ins, flows, []⟩ an ai af ao cn ci cf co)
    (hf1 : Fr (ins.map (·.nm)) (fun _ => 0)) (hf2 : Fr (flows.map (·.nm)) (incs (ins.map (·.nm)) (fun _ => 0))) (hk : ∀ e ∈ itemsF flows, e.k = 1 ∧ incs (flows.map (·.nm)) (incs (ins.map (·.nm)) (fun _ => 0)) e.nm = 1) :
    Calls Try.prog 22 #[pv ⟨[], ins, flows, []⟩ an ai af ao cn ci cf co] w fun x w' => x = OkPair ∧ Below w.heap.size w w' := by
  have HI := Lib.hid hp.ins
  have HF := Lib.hid hp.flows
  have hcap := hp.caps
  simp only at hcap
  have hil : ins.length ≤ 9223372036854775807 := by omega
  have hfl : flows.length ≤ 9223372036854775807 := by omega
  have HC := Lib.hid hcap.2.2.1
  have H1 := Lib.hid hf1
  have H2 := Lib.hid hf2
  have HK := Lib.hid hk
  clear hp hf1 hf2 hcap hk
  unfold pv OkPair
  simp only [List.length_nil]
  have hmk := fun w => run_makeMap (P := Try.prog) 72 w
  have hmk2 := fun w => run_makeMap (P := Try.prog) 71 w
  have HWI := Lib.hid (fun w => within_any (w := w) af flows.length cf)
  refine (callsIn_wide (n := 6)).1 ?_
  refine callsIn_of_wp_marks Try.func22 rfl trivial ?_ rfl
  simp only [Try.ntmps22, List.size_toArray, List.length_cons, List.length_nil, Nat.reduceAdd, Nat.reduceSub, Array.replicate_succ, Array.replicate_zero, List.push_toArray, List.append_toArray, List.nil_append, List.cons_append]
  gi_wp2_with fail
  have bP : PBox ((((((( w.alloc (.cells #[.slice an 0 cn, .slice ai ins.length ci, .slice af flows.length cf, .slice ao 0 co] 27)).alloc (.cells #[.int .i64 0] 3)).alloc (.cells #[.int .i64 0] 30)).alloc (.map #[] 0)).alloc (.map #[] 0)).alloc (.cells #[.map (some (w.heap.size + 1 + 1 + 1))] 72)).alloc (.cells #[.map (some (w.heap.size + 1 + 1 + 1 + 1))] 71)) w.heap.size ⟨[], ins, flows, []⟩ an ai af ao cn ci cf co :=
    (Below.heap_alloc _ _ _ (by first | omega | (simp; done) | (simp; omega))).trans ((Below.heap_alloc _ _ _ (by first | omega | (simp; done) | (simp; omega))).trans ((Below.heap_alloc _ _ _ (by first | omega | (simp; done) | (simp; omega))).trans ((Below.heap_alloc _ _ _ (by first | omega | (simp; done) | (simp; omega))).trans ((Below.heap_alloc _ _ _ (by first | omega | (simp; done) | (simp; omega))).trans ((Below.heap_alloc _ _ _ (by first | omega | (simp; done) | (simp; omega))).trans (heap_new w _))))))
  have bA : Boxed ((((((( w.alloc (.cells #[.slice an 0 cn, .slice ai ins.length ci, .slice af flows.length cf, .slice ao 0 co] 27)).alloc (.cells #[.int .i64 0] 3)).alloc (.cells #[.int .i64 0] 30)).alloc (.map #[] 0)).alloc (.map #[] 0)).alloc (.cells #[.map (some (w.heap.size + 1 + 1 + 1))] 72)).alloc (.cells #[.map (some (w.heap.size + 1 + 1 + 1 + 1))] 71)) (w.heap.size + 1) 3 (.int .i64 0) := by
    have h := ((((((Boxed.new (w.alloc (.cells #[.slice an 0 cn, .slice ai ins.length ci, .slice af flows.length cf, .slice ao 0 co] 27)) 3 (.int .i64 0)).alloc (.cells #[.int .i64 0] 30)).alloc (.map #[] 0)).alloc (.map #[] 0)).alloc (.cells #[.map (some (w.heap.size + 1 + 1 + 1))] 72)).alloc (.cells #[.map (some (w.heap.size + 1 + 1 + 1 + 1))] 71))
    simp only [World.size_alloc] at h
    exact h
  have bE : Boxed ((((((( w.alloc (.cells #[.slice an 0 cn, .slice ai ins.length ci, .slice af flows.length cf, .slice ao 0 co] 27)).alloc (.cells #[.int .i64 0] 3)).alloc (.cells #[.int .i64 0] 30)).alloc (.map #[] 0)).alloc (.map #[] 0)).alloc (.cells #[.map (some (w.heap.size + 1 + 1 + 1))] 72)).alloc (.cells #[.map (some (w.heap.size + 1 + 1 + 1 + 1))] 71)) (w.heap.size + 1 + 1) 30 (.int .i64 0) := by
    have h := (((((Boxed.new ((w.alloc (.cells #[.slice an 0 cn, .slice ai ins.length ci, .slice af flows.length cf, .slice ao 0 co] 27)).alloc (.cells #[.int .i64 0] 3)) 30 (.int .i64 0)).alloc (.map #[] 0)).alloc (.map #[] 0)).alloc (.cells #[.map (some (w.heap.size + 1 + 1 + 1))] 72)).alloc (.cells #[.map (some (w.heap.size + 1 + 1 + 1 + 1))] 71))
    simp only [World.size_alloc] at h
    exact h
  have hCM0 : CM ((((((( w.alloc (.cells #[.slice an 0 cn, .slice ai ins.length ci, .slice af flows.length cf, .slice ao 0 co] 27)).alloc (.cells #[.int .i64 0] 3)).alloc (.cells #[.int .i64 0] 30)).alloc (.map #[] 0)).alloc (.map #[] 0)).alloc (.cells #[.map (some (w.heap.size + 1 + 1 + 1))] 72)).alloc (.cells #[.map (some (w.heap.size + 1 + 1 + 1 + 1))] 71)) (w.heap.size + 1 + 1 + 1) (fun _ => 0) := by
    have h := (CM.new (((w.alloc (.cells #[.slice an 0 cn, .slice ai ins.length ci, .slice af flows.length cf, .slice ao 0 co] 27)).alloc (.cells #[.int .i64 0] 3)).alloc (.cells #[.int .i64 0] 30))).below (((((Below.refl _ _).alloc (Nat.le_refl _) (.map #[] 0)).alloc (by simp) (.cells #[.map (some (w.heap.size + 1 + 1 + 1))] 72)).alloc (by first | omega | (simp; done) | (simp; omega)) (.cells #[.map (some (w.heap.size + 1 + 1 + 1 + 1))] 71)))
    simp only [World.size_alloc] at h
    exact h
  have bM : Boxed ((((((( w.alloc (.cells #[.slice an 0 cn, .slice ai ins.length ci, .slice af flows.length cf, .slice ao 0 co] 27)).alloc (.cells #[.int .i64 0] 3)).alloc (.cells #[.int .i64 0] 30)).alloc (.map #[] 0)).alloc (.map #[] 0)).alloc (.cells #[.map (some (w.heap.size + 1 + 1 + 1))] 72)).alloc (.cells #[.map (some (w.heap.size + 1 + 1 + 1 + 1))] 71)) (w.heap.size + 1 + 1 + 1 + 1 + 1) 72 (.map (some (w.heap.size + 1 + 1 + 1))) := by
    have h := (Boxed.new (((((w.alloc (.cells #[.slice an 0 cn, .slice ai ins.length ci, .slice af flows.length cf, .slice ao 0 co] 27)).alloc (.cells #[.int .i64 0] 3)).alloc (.cells #[.int .i64 0] 30)).alloc (.map #[] 0)).alloc (.map #[] 0)) 72 (.map (some (w.heap.size + 1 + 1 + 1)))).alloc (.cells #[.map (some (w.heap.size + 1 + 1 + 1 + 1))] 71)
    simp only [World.size_alloc] at h
    exact h
  have bN : Boxed ((((((( w.alloc (.cells #[.slice an 0 cn, .slice ai ins.length ci, .slice af flows.length cf, .slice ao 0 co] 27)).alloc (.cells #[.int .i64 0] 3)).alloc (.cells #[.int .i64 0] 30)).alloc (.map #[] 0)).alloc (.map #[] 0)).alloc (.cells #[.map (some (w.heap.size + 1 + 1 + 1))] 72)).alloc (.cells #[.map (some (w.heap.size + 1 + 1 + 1 + 1))] 71)) (w.heap.size + 1 + 1 + 1 + 1 + 1 + 1) 71 (.map (some (w.heap.size + 1 + 1 + 1 + 1))) := by
    have h := Boxed.new ((((((w.alloc (.cells #[.slice an 0 cn, .slice ai ins.length ci, .slice af flows.length cf, .slice ao 0 co] 27)).alloc (.cells #[.int .i64 0] 3)).alloc (.cells #[.int .i64 0] 30)).alloc (.map #[] 0)).alloc (.map #[] 0)).alloc (.cells #[.map (some (w.heap.size + 1 + 1 + 1))] 72)) 71 (.map (some (w.heap.size + 1 + 1 + 1 + 1)))
    simp only [World.size_alloc] at h
    exact h
  have hB0 : Below w.heap.size w ((((((( w.alloc (.cells #[.slice an 0 cn, .slice ai ins.length ci, .slice af flows.length cf, .slice ao 0 co] 27)).alloc (.cells #[.int .i64 0] 3)).alloc (.cells #[.int .i64 0] 30)).alloc (.map #[] 0)).alloc (.map #[] 0)).alloc (.cells #[.map (some (w.heap.size + 1 + 1 + 1))] 72)).alloc (.cells #[.map (some (w.heap.size + 1 + 1 + 1 + 1))] 71)) := (by repeat (first | (with_reducible exact Below.refl _ _) | ((with_reducible refine below_setAt ?_ ?_ _); (rotate_left; focus (first | omega | (simp; done) | (simp; omega)))) | ((with_reducible refine Below.alloc ?_ ?_ _); (rotate_left; focus (first | omega | (simp; done) | (simp; omega)))) | (with_reducible refine below_drewN ?_ _) | (with_reducible refine Below.drew ?_)))
  have hsz : ((((((( w.alloc (.cells #[.slice an 0 cn, .slice ai ins.length ci, .slice af flows.length cf, .slice ao 0 co] 27)).alloc (.cells #[.int .i64 0] 3)).alloc (.cells #[.int .i64 0] 30)).alloc (.map #[] 0)).alloc (.map #[] 0)).alloc (.cells #[.map (some (w.heap.size + 1 + 1 + 1))] 72)).alloc (.cells #[.map (some (w.heap.size + 1 + 1 + 1 + 1))] 71)).heap.size = w.heap.size + 7 := by simp
  have hMM0 : MapS ((((((( w.alloc (.cells #[.slice an 0 cn, .slice ai ins.length ci, .slice af flows.length cf, .slice ao 0 co] 27)).alloc (.cells #[.int .i64 0] 3)).alloc (.cells #[.int .i64 0] 30)).alloc (.map #[] 0)).alloc (.map #[] 0)).alloc (.cells #[.map (some (w.heap.size + 1 + 1 + 1))] 72)).alloc (.cells #[.map (some (w.heap.size + 1 + 1 + 1 + 1))] 71)) (w.heap.size + 1 + 1 + 1 + 1) [] := by
    have h := (MapS.new ((((w.alloc (.cells #[.slice an 0 cn, .slice ai ins.length ci, .slice af flows.length cf, .slice ao 0 co] 27)).alloc (.cells #[.int .i64 0] 3)).alloc (.cells #[.int .i64 0] 30)).alloc (.map #[] 0))).below (((Below.refl _ _).alloc (Nat.le_refl _) (.cells #[.map (some (w.heap.size + 1 + 1 + 1))] 72)).alloc (by first | omega | (simp; done) | (simp; omega)) (.cells #[.map (some (w.heap.size + 1 + 1 + 1 + 1))] 71))
    simp only [World.size_alloc] at h
    exact h
  obtain ⟨W0, hW0⟩ : ∃ W0, ((((((( w.alloc (.cells #[.slice an 0 cn, .slice ai ins.length ci, .slice af flows.length cf, .slice ao 0 co] 27)).alloc (.cells #[.int .i64 0] 3)).alloc (.cells #[.int .i64 0] 30)).alloc (.map #[] 0)).alloc (.map #[] 0)).alloc (.cells #[.map (some (w.heap.size + 1 + 1 + 1))] 72)).alloc (.cells #[.map (some (w.heap.size + 1 + 1 + 1 + 1))] 71)) = W0 := ⟨_, rfl⟩
  rw [hW0] at bP bA bE bM bN hB0 hsz hCM0 hMM0 ⊢
  clear hW0
  have BP := Lib.hid bP
  have BA := Lib.hid bA
  have BE := Lib.hid bE
  have BM := Lib.hid bM
  have BN := Lib.hid bN
  have HB0 := Lib.hid hB0
  have HM2 := Lib.hid hMM0
  clear bP bA bE bM bN hB0 hMM0
  gi_loopw [19] (fun v wr => Hid (CuRel W0 (w.heap.size + 1 + 1 + 1) (ins.map (·.nm)) (incs (ins.map (·.nm)) (fun _ => 0)) v wr)) (fun i _ => ins.length - (intOf i).toNat)
  case atStart => exact ⟨0, fun _ => 0, rfl, Nat.zero_le _, H1.out, rfl, hCM0, Upon.refl _ _⟩
  case round =>
    clear hCM0
    obtain ⟨i, c, rfl, hi, hfr, hin, hcm, hup⟩ := hrel.out
    clear hrel
    rw [List.length_map] at hi
    have HFR := Lib.hid hfr
    have HIN := Lib.hid hin
    have HUP := Lib.hid hup
    have hszr := hup.size
    have hbel := HB0.out.trans (hup.below (B := w.heap.size) (by omega) (by omega))
    have HBEL := Lib.hid hbel
    have bM1 : Boxed wr (w.heap.size + 1 + 1 + 1 + 1 + 1) 72 (.map (some (w.heap.size + 1 + 1 + 1))) := (hup.block _ (by omega) (by omega)).trans BM.out
    have cM := bM1.cell
    have l5 : w.heap.size + 1 + 1 + 1 + 1 + 1 < wr.heap.size := by omega
    have l0 : w.heap.size < wr.heap.size := by omega
    have hpb := (hup.block _ (by omega) (by omega)).trans BP.out
    simp only [List.length_nil] at hpb
    obtain ⟨⟨x0, x1, x2, x3⟩, xf⟩ := cells4 hpb
    obtain ⟨L, hM, hL⟩ := hcm
    have HM := Lib.hid hM
    have HL := Lib.hid hL
    clear hup hfr hin hM hL hpb
    by_cases hlt : i < ins.length
    · obtain ⟨bb, oo, rfl, hbb0, hin0⟩ := HI.out.at hlt
      have hin := inSta w wr bb _ _ hbel hbb0 hin0
      have hbb : bb < wr.heap.size := by omega
      have hfr := HFR.out
      have hin2 := HIN.out
      rw [drop_nm (by simpa using hlt)] at hfr hin2
      have h0 := hfr.1
      have HN1 := Lib.hid hfr.2
      have HN2 := Lib.hid (show incs _ (inc c _) = _ from hin2)
      rw [List.getElem_map] at h0 HN1 HN2
      obtain ⟨x, hx⟩ : ∃ x, ins[i] = x := ⟨_, rfl⟩
      rw [hx] at hin h0 HN1 HN2
      obtain ⟨nm, per, ph, fa⟩ := x
      obtain ⟨y0, y1, y2, y3, hfn⟩ := hin
      simp only at y0 y1 y2 y3 h0 HN1 HN2
      have HG := Lib.hid (show (getS nm L).getD (.int .i64 0) = .int .i64 0 by rw [HL.out, h0])
      have HPT := Lib.hid (cm_put HL.out h0)
      have hie : (i : Int) < (ins.length : Int) := by omega
      clear hbel hin0 hx hfn hbb0 hfr h0 hin2
      gi_wp2_with (first | (gi_at_lookup; refine wpListIn_lookC namesMap _ rfl _ _ rfl (w.heap.size + 1 + 1 + 1) L nm _ rfl rfl (HM.out.below (by repeat (first | (with_reducible exact Below.refl _ _) | ((with_reducible refine below_setAt ?_ ?_ _); (rotate_left; focus (first | omega | (simp; done) | (simp; omega)))) | ((with_reducible refine Below.alloc ?_ ?_ _); (rotate_left; focus (first | omega | (simp; done) | (simp; omega)))) | (with_reducible refine below_drewN ?_ _) | (with_reducible refine Below.drew ?_)))) HG.out ?_) | (gi_at_mapUpdate; refine wpListIn_putS namesMap _ rfl _ _ _ rfl (w.heap.size + 1 + 1 + 1) L nm (.int .i64 1) rfl rfl rfl (HM.out.below (by repeat (first | (with_reducible exact Below.refl _ _) | ((with_reducible refine below_setAt ?_ ?_ _); (rotate_left; focus (first | omega | (simp; done) | (simp; omega)))) | ((with_reducible refine Below.alloc ?_ ?_ _); (rotate_left; focus (first | omega | (simp; done) | (simp; omega)))) | (with_reducible refine below_drewN ?_ _) | (with_reducible refine Below.drew ?_)))) ?_; intro arr clock hm2))
      refine ⟨⟨i + 1, inc c nm, by go_num, by rw [List.length_map]; omega, HN1.out, HN2.out, ⟨_, hm2, HPT.out⟩, HUP.out.trans (upon_putM ((Upon.refl _ _).alloc _) _)⟩, by simp [intOf]; omega⟩
    · have hie : i = ins.length := by omega
      have HC1 := Lib.hid (show c = incs (ins.map (·.nm)) (fun _ => 0) by have := HIN.out; rw [hie, List.drop_of_length_le (by simp)] at this; exact this)
      have hie' : decide ((i : Int) < (ins.length : Int)) = false := decide_eq_false (by omega)
      have hcm := Lib.hid (show CM wr (w.heap.size + 1 + 1 + 1) c from ⟨L, HM.out, HL.out⟩)
      clear hbel
      gi_wp2_with fail
      gi_loopw [32] (fun v wr => Hid (CuRel W0 (w.heap.size + 1 + 1 + 1) (flows.map (·.nm)) (incs (flows.map (·.nm)) (incs (ins.map (·.nm)) (fun _ => 0))) v wr)) (fun i _ => flows.length - (intOf i).toNat)
      case atStart => exact ⟨0, c, rfl, Nat.zero_le _, by rw [HC1.out]; exact H2.out, by rw [HC1.out]; rfl, hcm.out, HUP.out⟩
      case round =>
        clear HFR HIN HUP HBEL hszr bM1 cM l5 l0 x0 x1 x2 x3 xf HM HL HC1 hie hie' hlt hcm
        obtain ⟨i, c, rfl, hi, hfr, hin, hcm, hup⟩ := hrel.out
        clear hrel
        rw [List.length_map] at hi
        have HFR := Lib.hid hfr
        have HIN := Lib.hid hin
        have HUP := Lib.hid hup
        have hszr := hup.size
        have hbel := HB0.out.trans (hup.below (B := w.heap.size) (by omega) (by omega))
        have HBEL := Lib.hid hbel
        have bM1 : Boxed wr (w.heap.size + 1 + 1 + 1 + 1 + 1) 72 (.map (some (w.heap.size + 1 + 1 + 1))) := (hup.block _ (by omega) (by omega)).trans BM.out
        have cM := bM1.cell
        have l5 : w.heap.size + 1 + 1 + 1 + 1 + 1 < wr.heap.size := by omega
        have l0 : w.heap.size < wr.heap.size := by omega
        have hpb := (hup.block _ (by omega) (by omega)).trans BP.out
        simp only [List.length_nil] at hpb
        obtain ⟨⟨x0, x1, x2, x3⟩, xf⟩ := cells4 hpb
        obtain ⟨L, hM, hL⟩ := hcm
        have HM := Lib.hid hM
        have HL := Lib.hid hL
        clear hup hfr hin hM hL hpb
        by_cases hlt : i < flows.length
        · obtain ⟨bb, oo, rfl, hbb0, hin0⟩ := HF.out.at hlt
          have hin := hin0.later hbel hbb0
          have hbb : bb < wr.heap.size := by omega
          have hfr := HFR.out
          have hin2 := HIN.out
          rw [drop_nm (by simpa using hlt)] at hfr hin2
          have h0 := hfr.1
          have HN1 := Lib.hid hfr.2
          have HN2 := Lib.hid (show incs _ (inc c _) = _ from hin2)
          rw [List.getElem_map] at h0 HN1 HN2
          obtain ⟨x, hx⟩ : ∃ x, flows[i] = x := ⟨_, rfl⟩
          rw [hx] at hin h0 HN1 HN2
          obtain ⟨nm, ⟨k1, nm1, n1, d1, args1, a1⟩, fa⟩ := x
          obtain ⟨ad, cap, y0, y1, y2, y3, y4, y5, y6, y7, hae, hfn⟩ := hin.cells
          simp only at h0 HN1 HN2
          have HG := Lib.hid (show (getS nm L).getD (.int .i64 0) = .int .i64 0 by rw [HL.out, h0])
          have HPT := Lib.hid (cm_put HL.out h0)
          have hie : (i : Int) < (flows.length : Int) := by omega
          clear hbel hin hin0 hx hfn hbb0 hfr h0 hin2 hae
          gi_wp2_with (first | (gi_at_lookup; refine wpListIn_lookC namesMap _ rfl _ _ rfl (w.heap.size + 1 + 1 + 1) L nm _ rfl rfl (HM.out.below (by repeat (first | (with_reducible exact Below.refl _ _) | ((with_reducible refine below_setAt ?_ ?_ _); (rotate_left; focus (first | omega | (simp; done) | (simp; omega)))) | ((with_reducible refine Below.alloc ?_ ?_ _); (rotate_left; focus (first | omega | (simp; done) | (simp; omega)))) | (with_reducible refine below_drewN ?_ _) | (with_reducible refine Below.drew ?_)))) HG.out ?_) | (gi_at_mapUpdate; refine wpListIn_putS namesMap _ rfl _ _ _ rfl (w.heap.size + 1 + 1 + 1) L nm (.int .i64 1) rfl rfl rfl (HM.out.below (by repeat (first | (with_reducible exact Below.refl _ _) | ((with_reducible refine below_setAt ?_ ?_ _); (rotate_left; focus (first | omega | (simp; done) | (simp; omega)))) | ((with_reducible refine Below.alloc ?_ ?_ _); (rotate_left; focus (first | omega | (simp; done) | (simp; omega)))) | (with_reducible refine below_drewN ?_ _) | (with_reducible refine Below.drew ?_)))) ?_; intro arr clock hm2))
          refine ⟨⟨i + 1, inc c nm, by go_num, by rw [List.length_map]; omega, HN1.out, HN2.out, ⟨_, hm2, HPT.out⟩, HUP.out.trans (upon_putM ((Upon.refl _ _).alloc _) _)⟩, by simp [intOf]; omega⟩
        · have hie : i = flows.length := by omega
          have HC2 := Lib.hid (show c = incs (flows.map (·.nm)) (incs (ins.map (·.nm)) (fun _ => 0)) by have := HIN.out; rw [hie, List.drop_of_length_le (by simp)] at this; exact this)
          have hie' : decide ((i : Int) < (flows.length : Int)) = false := decide_eq_false (by omega)
          have hcm := Lib.hid (show CM wr (w.heap.size + 1 + 1 + 1) c from ⟨L, HM.out, HL.out⟩)
          clear hbel
          gi_wp2_with fail
          gi_loopw [45] (fun v wr' => Hid (v = .int .i64 0 ∧ wr' = wr)) (fun i _ => 0)
          case atStart => exact ⟨rfl, rfl⟩
          case round =>
            obtain ⟨rfl, hww⟩ := hrel.out
            clear hrel
            first | subst hww | skip
            gi_wp2_with (refine ⟨trivial, ?_⟩; gi_at_call 41; refine (callsIn_wide.2 (HWI.out _)).mono ?_; rintro e w' ⟨rfl, rfl⟩)
            subst hie
            have hcm1 := hcm.out
            have hN1 : Boxed wr (w.heap.size + 1 + 1 + 1 + 1 + 1 + 1) 71 (.map (some (w.heap.size + 1 + 1 + 1 + 1))) := (HUP.out.block _ (by omega) (by omega)).trans BN.out
            have hA1 : Boxed wr (w.heap.size + 1) 3 (.int .i64 0) := (HUP.out.block _ (by omega) (by omega)).trans BA.out
            have hE1 : Boxed wr (w.heap.size + 1 + 1) 30 (.int .i64 0) := (HUP.out.block _ (by omega) (by omega)).trans BE.out
            have bS := Boxed.new wr 24 (.slice af flows.length cf)
            have hB1 : Below wr.heap.size wr (wr.alloc (.cells #[.slice af flows.length cf] 24)) := (Below.refl _ _).alloc (Nat.le_refl _) _
            have hsz1 : (wr.alloc (.cells #[.slice af flows.length cf] 24)).heap.size = wr.heap.size + 1 := by simp
            have hm2 : MapS wr (w.heap.size + 1 + 1 + 1 + 1) [] := by
              obtain ⟨arr, ck, ha, hb⟩ := HM2.out
              exact ⟨arr, ck, (HUP.out.block _ (lt_of_block ha) (by omega)).trans ha, hb⟩
            obtain ⟨W1, hW1⟩ : ∃ W1, wr.alloc (.cells #[.slice af flows.length cf] 24) = W1 := ⟨_, rfl⟩
            rw [hW1] at bS hB1 hsz1 ⊢
            clear hW1
            have HX := Lib.hid (show ∀ W, Below W1.heap.size W1 W → Boxed W (w.heap.size + 1 + 1 + 1 + 1 + 1) 72 (.map (some (w.heap.size + 1 + 1 + 1))) ∧ Boxed W (w.heap.size + 1 + 1 + 1 + 1 + 1 + 1) 71 (.map (some (w.heap.size + 1 + 1 + 1 + 1))) ∧ Boxed W (w.heap.size + 1) 3 (.int .i64 0) ∧ Boxed W (w.heap.size + 1 + 1) 30 (.int .i64 0) ∧ CM W (w.heap.size + 1 + 1 + 1) c ∧ MapS W (w.heap.size + 1 + 1 + 1 + 1) [] ∧ Below w.heap.size w W from by
              intro W hW
              have h1 : Below wr.heap.size wr W := hB1.trans (hW.mono (by omega))
              exact ⟨(h1.block _ (by omega)).trans bM1, (h1.block _ (by omega)).trans hN1, (h1.block _ (by omega)).trans hA1, (h1.block _ (by omega)).trans hE1, hcm1.below h1, hm2.below h1, HBEL.out.trans (h1.mono (by omega))⟩)
            have HWL := Lib.hid (show Below w.heap.size w W1 from HBEL.out.trans (hB1.mono (by omega)))
            have hszw : w.heap.size ≤ W1.heap.size := by omega
            clear hN1 hA1 hE1 hm2 hcm1 hB1 HM HL hcm bM1 cM
            refine wpIn_rangeFunc_ownH (encs := fun x : VX w => #[.agg #[.int .i64 x.e.k, .string x.e.nm, .int .i64 x.e.n, .int .i64 x.e.d, .slice x.ad x.e.args.len x.cap, .int .i64 x.e.a]]) rfl (by omega) (gf := 50) (lb := #[.pointer (some ⟨wr.heap.size, 0, none⟩)]) rfl trivial (enters_of Try.func50 (by kernel_rfl) rfl)
              (within_stops (W0 := w) Fence.wide rfl trivial trivial rfl _ wr.heap.size flows af cf HF.out HC.out.1 HC.out.2 W1 (by omega) HWL.out bS.cell) (fun h k => h.trans k) (fun W l o o' hl h hc _ => KC.putObj W l o o' (by omega) h hc) (Below.refl _ _) (fun _ => rfl)
              (fun pre W => Below W1.heap.size W1 W)
              (fun cc pre W => cc = .ret ∧ ∃ x ∈ pre, ¬ (x.e.k = 1 ∧ c x.e.nm = 1))
              (ownFrom_below (Nat.le_refl _) (Nat.le_refl _))
              (fun cc => ownFrom_pure _ _)
              (Below.refl _ _)
              (fun x a' W => ∃ Bx, W1.heap.size ≤ Bx ∧ W.heap[Bx]? = some (.cells #[.int .i64 x.e.k, .string x.e.nm, .int .i64 x.e.n, .int .i64 x.e.d, .slice x.ad x.e.args.len x.cap, .int .i64 x.e.a] 39 (0, 0)) ∧
                a' = { tmps := #[.agg #[.slice an 0 cn, .slice ai ins.length ci, .slice af flows.length cf, .slice ao 0 co], .pointer (some ⟨w.heap.size, 0, none⟩), .pointer (some ⟨w.heap.size + 1, 0, none⟩), .pointer (some ⟨w.heap.size + 1 + 1, 0, none⟩), .pointer (some ⟨w.heap.size + 1 + 1 + 1 + 1 + 1, 0, none⟩), .pointer (some ⟨w.heap.size + 1 + 1 + 1 + 1 + 1 + 1, 0, none⟩), undef, u7, undef, u9, undef, u11, .pointer (some ⟨Bx, 0, none⟩), undef, .map (some (w.heap.size + 1 + 1 + 1)), .map (some (w.heap.size + 1 + 1 + 1 + 1)), .pointer (some ⟨w.heap.size, 1, none⟩), .slice ai ins.length ci, .int .i64 (ins.length : Int), .int .i64 (ins.length : Int), .bool false, u21, u22, u23, u24, u25, u26, u27, u28, .pointer (some ⟨w.heap.size, 2, none⟩), .slice af flows.length cf, .int .i64 (flows.length : Int), .int .i64 (flows.length : Int), .bool false, u34, u35, u36, u37, u38, u39, u40, u41, .pointer (some ⟨w.heap.size, 0, none⟩), .slice an 0 cn, .int .i64 0, .int .i64 0, .bool false, u47, u48, u49, u50, u51, u52, u53, u54, u55, .pointer (some ⟨w.heap.size, 2, none⟩), .slice af flows.length cf, .func (.func 50) #[] #[.pointer (some ⟨wr.heap.size, 0, none⟩)], .agg #[.int .i64 x.e.k, .string x.e.nm, .int .i64 x.e.n, .int .i64 x.e.d, .slice x.ad x.e.args.len x.cap, .int .i64 x.e.a], undef, undef, undef, undef, undef, undef, undef, undef, undef], defers := [] })
              (fun x a' _ X Y row hs hg hrw => by
                obtain ⟨Bx, h1, h2, h3⟩ := hs
                refine ⟨Bx, h1, (hg.block Bx (Array.getElem?_eq_some_iff.1 h2).1 (fun e => ?_)).trans h2, h3⟩
                obtain ⟨_, o, ho, hc⟩ := hrw Bx e.symm
                rw [h2] at ho; cases ho; cases hc)
              ?assign ?body ?done ?stop
            case assign =>
              rintro l pre x W K hBW hK
              gi_wp2
              exact hK _ _ ((KeepsOthers.alloc _ _).from _) ((KC.refl _ W).alloc (Nat.le_trans hszw hBW.size) _) (hBW.alloc hBW.size _) ⟨W.heap.size, hBW.size, heap_new W _, rfl⟩
            case body =>
              rintro l pre ⟨⟨k1, nm1, n1, d1, args1, a1⟩, ad1, cap1, hok⟩ a' W hl ⟨r, hr⟩ hBW ⟨Bx, hBx, hxb, rfl⟩ hlt
              simp only at hxb
              obtain ⟨bM2, bN2, bA2, bE2, hcm2, hm2, hbw2⟩ := HX.out W hBW
              have cM := bM2.cell
              have cN := bN2.cell
              have cA := bA2.cell
              have fA := bA2.frozen
              have cE := bE2.cell
              have fE := bE2.frozen
              obtain ⟨⟨x0, x1, x2, x3, x4, x5⟩, xf⟩ := cells6' hxb
              have hsW := hBW.size
              have HCC := Lib.hid (askExpr_any (w := W) (w.heap.size + 1 + 1 + 1) (w.heap.size + 1 + 1 + 1 + 1) c k1 n1 d1 a1 nm1 ad1 args1.len cap1 hcm2 hm2)
              have HBW := Lib.hid hBW
              clear hcm2 hm2 hBW
              gi_wp2_with (refine ⟨trivial, ?_⟩; gi_at_call 42; refine (CallsIn.inRound l (callsIn_wide.2 HCC.out)).mono ?_; rintro e w2 ⟨⟨er, rfl, her⟩, hb2⟩; have HER := Lib.hid her; clear her; have bA3 : Boxed w2 (w.heap.size + 1) 3 (.int .i64 0) := (hb2.block _ bA2.lt).trans bA2; have bE3 : Boxed w2 (w.heap.size + 1 + 1) 30 (.int .i64 0) := (hb2.block _ bE2.lt).trans bE2; have cA3 := bA3.cell; have fA3 := bA3.frozen; have cE3 := bE3.cell; have fE3 := bE3.frozen; have bX3 := (hb2.block _ (lt_of_block hxb)).trans hxb; obtain ⟨⟨v0, v1, v2, v3, v4, v5⟩, vf⟩ := cells6' bX3; clear x0 x1 x2 x3 x4 x5 xf)
              · have hne : er ≠ 0 := by rename_i hq; simpa using hq
                refine ⟨(show KeepsFrom W1.heap.size W w2 from ⟨hb2.size, fun k o _ hk _ => (hb2.block k (lt_of_block hk)).trans hk⟩).trans (((KeepsOthers.setCell _ _ _).trans (KeepsOthers.setCell _ _ _)).from _), rfl, _, List.mem_append_right _ (List.mem_singleton.2 rfl), fun hk => hne (HER.out hk.1 hk.2)⟩
              · exact ⟨⟨hb2.size, fun k o _ hk _ => (hb2.block k (lt_of_block hk)).trans hk⟩, (KC.refl _ W).of_below hb2 (Nat.le_trans hszw hsW), HBW.out.trans (hb2.mono hsW)⟩
            case done =>
              rintro D zs W hD hzs hBW hK
              obtain ⟨bM2, bN2, bA1, bE1, hcm2, hm2, hB1⟩ := HX.out W hBW
              have cA := bA1.cell
              have fA := bA1.frozen
              have cE := bE1.cell
              have fE := bE1.frozen
              gi_wp2
              have hK2 : ((W.setCell ⟨w.heap.size + 1, 0, none⟩ (.int .i64 0)).setCell ⟨w.heap.size + 1 + 1, 0, none⟩ (.int .i64 0)).heap[D]? = some (.deferred (some [])) := ((KeepsOthers.setCell _ _ _).trans (KeepsOthers.setCell _ _ _)).same D _ hK rfl
              refine ⟨by simp, .inl ⟨_, _, rfl, run_takeDeferred hK2, ?_⟩⟩
              have bA3 := (((bA1.set (.int .i64 0)).other (show w.heap.size + 1 ≠ w.heap.size + 1 + 1 by omega) (.int .i64 0)).kept (grownBy_putObj' _ D (.deferred none)) (by intro e; injection e with e; omega)).cell
              have bE3 := (((bE1.other (show w.heap.size + 1 + 1 ≠ w.heap.size + 1 by omega) (.int .i64 0)).set (.int .i64 0)).kept (grownBy_putObj' _ D (.deferred none)) (by intro e; injection e with e; omega)).cell
              refine ⟨.tuple #[.int .i64 0, .int .i64 0], ?_, ?_, ?_⟩
              · simp only [results, Try.results22]; go_simp
              · rfl
              · exact ((hB1.setCell (p := ⟨w.heap.size + 1, 0, none⟩) (by simp) _).setCell (p := ⟨w.heap.size + 1 + 1, 0, none⟩) (by simp; omega) _).trans (KC.putObj (n₀ := w.heap.size) _ D _ _ (by omega) hK2 rfl).below
            case stop =>
              rintro D cc pre W hD hpre ⟨rfl, x, hx, hno⟩ hK
              exfalso
              refine hno ?_
              have hx2 : x.e ∈ itemsF flows := by
                obtain ⟨t, ht⟩ := hpre
                rw [← ht]
                exact List.mem_append_left _ (List.mem_map_of_mem hx)
              have := HK.out x.e hx2
              rw [HC2.out]; exact this
end Go.Proofs.Ytjcmjlkihfcdcaa.syn

namespace Go.Proofs.Ytjcmjlkihfcdcaa.syn
open Go.RowKit
set_option linter.unusedVariables false
set_option linter.unusedSimpArgs false

def NmsRel (W2 : World) (v : Value) (wr : World) : Prop := ∃ j : Nat, v = .int .i64 (j : Int) ∧ j ≤ 4 ∧ Below W2.heap.size W2 wr

set_option maxRecDepth 100000 in
set_option maxHeartbeats 4000000 in
theorem names0_any {w : World} (ins : List IN) (flows : List FL) (an ai af ao : Option Addr) (cn ci cf co : Nat) (hp : AP w ⟨[], ins, flows, []⟩ an ai af ao cn ci cf co) (hs : sumF flows ≤ 8000)
    (hf1 : Fr (ins.map (·.nm)) (fun _ => 0)) (hf2 : Fr (flows.map (·.nm)) (incs (ins.map (·.nm)) (fun _ => 0))) (hf3 : Fr (flows.map (·.nm)) (fun _ => 0)) (hk : ∀ e ∈ itemsF flows, e.k = 1 ∧ incs (flows.map (·.nm)) (incs (ins.map (·.nm)) (fun _ => 0)) e.nm = 1) :
    Calls Try.prog 7 #[pv ⟨[], ins, flows, []⟩ an ai af ao cn ci cf co] w fun x w' => x = OkPair ∧ Below w.heap.size w w' := by
  have HFT := Lib.hid (fun (w' : World) (hb : Below w.heap.size w w') => fits_any ⟨[], ins, flows, []⟩ an ai af ao cn ci cf co (hp.below hb) (by simpa [sumN] using hs))
  have H0 := Lib.hid (fun (w' : World) => askNodes0 (w := w') ins flows [] an ai af ao cn ci cf co)
  have H1 := Lib.hid (fun (w' : World) (hb : Below w.heap.size w w') => askSources_any (w := w') [] ins flows [] an ai af ao cn ci cf co (hp.below hb) hf1 hf2)
  have H2 := Lib.hid (fun (w' : World) (hb : Below w.heap.size w w') => askExprs1 (w := w') ins flows an ai af ao cn ci cf co (hp.below hb) hf1 hf2 hk)
  have H3 := Lib.hid (fun (w' : World) (hb : Below w.heap.size w w') => askOutputs0 (w := w') [] ins flows an ai af ao cn ci cf co (hp.below hb) hf3)
  clear hp hf1 hf2 hf3 hk hs
  unfold pv OkPair at *
  simp only [List.length_nil] at HFT H0 H1 H2 H3 ⊢
  go_enter Try.func7, Try.ntmps7
  go_wp2_with (go_at_call 19; refine (HFT.out _ (by repeat (first | (with_reducible exact Below.refl _ _) | ((with_reducible refine below_setAt ?_ ?_ _); (rotate_left; focus (first | omega | (simp; done) | (simp; omega)))) | ((with_reducible refine Below.alloc ?_ ?_ _); (rotate_left; focus (first | omega | (simp; done) | (simp; omega)))) | (with_reducible refine below_drewN ?_ _) | (with_reducible refine Below.drew ?_)))).mono ?_; rintro x w1 ⟨rfl, hb1⟩; obtain ⟨hc1, hf1⟩ := bcell hb1; have b1 : w.heap.size < w1.heap.size := sz_of hb1 (by first | omega | (simp; done) | (simp; omega)))
  obtain ⟨W2, hW2⟩ : ∃ W2, w1.alloc (Obj.cells #[.func (.func 20) #[] #[], .func (.func 21) #[] #[], .func (.func 22) #[] #[], .func (.func 23) #[] #[]] 32) = W2 := ⟨_, rfl⟩
  obtain ⟨fb, hfb⟩ : ∃ fb, w1.heap.size = fb := ⟨_, rfl⟩
  have HPB := Lib.hid (show W2.heap[w.heap.size]? = some (.cells #[.slice an 0 cn, .slice ai ins.length ci, .slice af flows.length cf, .slice ao 0 co] 27 (0, 0)) from by rw [← hW2]; exact (Below.heap_alloc _ _ _ b1).trans ((hb1.block _ (by first | omega | (simp; done) | (simp; omega))).trans (heap_new w _)))
  have HFB := Lib.hid (show W2.heap[fb]? = some _ from by rw [← hW2, ← hfb]; exact heap_new w1 _)
  have HB2 := Lib.hid (show Below w.heap.size w W2 from by rw [← hW2]; exact (by repeat (first | (with_reducible exact Below.refl _ _) | ((with_reducible refine below_setAt ?_ ?_ _); (rotate_left; focus (first | omega | (simp; done) | (simp; omega)))) | ((with_reducible refine Below.alloc ?_ ?_ _); (rotate_left; focus (first | omega | (simp; done) | (simp; omega)))) | (with_reducible refine below_drewN ?_ _) | (with_reducible refine Below.drew ?_) | ((with_reducible refine Below.trans ?_ (Below.mono hb1 ?_)); (rotate_left; focus (first | omega | (simp; done) | (simp; omega)))))))
  have hsz2 : W2.heap.size = fb + 1 := by rw [← hW2, ← hfb]; simp
  rw [hfb] at b1
  try rw [hW2]
  try rw [hfb]
  clear hW2 hfb hb1 hc1 hf1
  go_loopw [13] (fun v wr => Hid (NmsRel W2 v wr)) (fun i _ => 4 - (intOf i).toNat)
  case atStart => exact ⟨0, rfl, by omega, Below.refl _ _⟩
  case round =>
    obtain ⟨j, rfl, hj, hbel⟩ := hrel.out
    clear hrel
    have hszr := hbel.size
    have hpb := (hbel.block _ (by omega)).trans HPB.out
    have hfbk := (hbel.block _ (by omega)).trans HFB.out
    obtain ⟨⟨p0, p1, p2, p3⟩, pf⟩ := cells4 hpb
    obtain ⟨⟨q0, q1, q2, q3⟩, qf⟩ := cells4 hfbk
    have HBW := Lib.hid (HB2.out.trans (hbel.mono (by omega)))
    have HB := Lib.hid hbel
    clear hpb hfbk hbel
    match j, hj with
    | 0, _ =>
      go_wp2_with (go_at_call 20; go_loud (refine (H0.out _).mono ?_; rintro x w3 ⟨rfl, hb3⟩))
      refine ⟨⟨1, by go_num, by omega, HB.out.trans (hb3.mono hszr)⟩, by simp [intOf]⟩
    | 1, _ =>
      go_wp2_with (go_at_call 21; go_loud (refine (H1.out _ HBW.out).mono ?_; rintro x w3 ⟨rfl, hb3⟩))
      refine ⟨⟨2, by go_num, by omega, HB.out.trans (hb3.mono hszr)⟩, by simp [intOf]⟩
    | 2, _ =>
      go_wp2_with (go_at_call 22; go_loud (refine (H2.out _ HBW.out).mono ?_; rintro x w3 ⟨rfl, hb3⟩))
      refine ⟨⟨3, by go_num, by omega, HB.out.trans (hb3.mono hszr)⟩, by simp [intOf]⟩
    | 3, _ =>
      go_wp2_with (go_at_call 23; go_loud (refine (H3.out _ HBW.out).mono ?_; rintro x w3 ⟨rfl, hb3⟩))
      refine ⟨⟨4, by go_num, by omega, HB.out.trans (hb3.mono hszr)⟩, by simp [intOf]⟩
    | 4, _ =>
      go_wp2
      go_ret2
      exact ⟨rfl, HBW.out⟩
    | j + 5, h => exact absurd h (by omega)

def xNm : ByteArray := ⟨#[120]⟩
def fNm : ByteArray := ⟨#[102]⟩
def insA : List IN := [⟨xNm, 10, 0, 0⟩]
def flowsA : List FL := [⟨fNm, ⟨1, xNm, 0, 0, .nil, 0⟩, 0⟩]

theorem findA : findP (env0 insA) flowsA = some (upd (upd (fun _ => none) xNm (10, 0)) fNm (10, 0)) := by rfl
theorem callsA : callsOK (upd (upd (fun _ => none) xNm (10, 0)) fNm (10, 0)) flowsA = true := by rfl
theorem mapA : flowsA.map (fun f => clkAt (upd (upd (fun _ => none) xNm (10, 0)) fNm (10, 0)) f.nm) = [(10, 0)] := by rfl
theorem nuA : NU (env0 insA) flowsA := ⟨rfl, trivial⟩

theorem check0_any {w : World} (ai af : Option Addr) (cn ci cf co : Nat) (an ao : Option Addr) (hp : AP w ⟨[], insA, flowsA, []⟩ an ai af ao cn ci cf co) :
    Calls Try.prog 8 #[pv ⟨[], insA, flowsA, []⟩ an ai af ao cn ci cf co] w fun x w' => (∃ v, x = .returned (.tuple #[v, .int .i64 0, .int .i64 0]) ∧ ClkRow w' v [(10, 0)]) ∧ Below w.heap.size w w' := by
  have HNM := Lib.hid (fun (w' : World) (hb : Below w.heap.size w w') => names0_any (w := w') insA flowsA an ai af ao cn ci cf co (hp.below hb) (by decide) ⟨rfl, trivial⟩ ⟨rfl, trivial⟩ ⟨rfl, trivial⟩ (by
    intro e he
    have : e = ⟨1, xNm, 0, 0, .nil, 0⟩ := by simpa [itemsF, itemsL, flowsA] using he
    subst this
    exact ⟨rfl, rfl⟩))
  have hcl : ∀ (w' : World), Below w.heap.size w w' → Calls Try.prog 12 #[pv ⟨[], insA, flowsA, []⟩ an ai af ao cn ci cf co] w' fun x w2 => (∃ v, x = .returned (.tuple #[v, .int .i64 0, .int .i64 0]) ∧ ClkRow w2 v [(10, 0)]) ∧ Below w'.heap.size w' w2 := by
    intro w' hb
    refine (clocks_any (w := w') ⟨[], insA, flowsA, []⟩ an ai af ao cn ci cf co (hp.below hb) (by decide) (by decide) nuA ?_).mono ?_
    · intro env h1 _ f hf
      have h2 := findA
      simp only at h1
      rw [h1] at h2
      injection h2 with h2
      subst h2
      have : f = ⟨fNm, ⟨1, xNm, 0, 0, .nil, 0⟩, 0⟩ := by simpa [flowsA] using hf
      subst this
      exact ⟨10, 0, rfl, rfl⟩
    · rintro x w2 ⟨h1, h2⟩
      refine ⟨?_, h2⟩
      simp only [findA, callsA, if_true, mapA] at h1
      exact h1
  have HCL := Lib.hid hcl
  clear hp hcl
  unfold pv OkPair at *
  simp only [List.length_nil] at HNM HCL ⊢
  go_enter Try.func8, Try.ntmps8
  go_wp2_with (first | (go_at_call 7; go_loud (refine (HNM.out _ (by repeat (first | (with_reducible exact Below.refl _ _) | ((with_reducible refine below_setAt ?_ ?_ _); (rotate_left; focus (first | omega | (simp; done) | (simp; omega)))) | ((with_reducible refine Below.alloc ?_ ?_ _); (rotate_left; focus (first | omega | (simp; done) | (simp; omega)))) | (with_reducible refine below_drewN ?_ _) | (with_reducible refine Below.drew ?_)))).mono ?_; rintro x w1 ⟨rfl, hb1⟩; obtain ⟨hc1, hf1⟩ := bcell hb1; have b1 : w.heap.size < w1.heap.size := sz_of hb1 (by first | omega | (simp; done) | (simp; omega)))) | (go_at_call 12; go_loud (refine (HCL.out _ (by repeat (first | (with_reducible exact Below.refl _ _) | ((with_reducible refine below_setAt ?_ ?_ _); (rotate_left; focus (first | omega | (simp; done) | (simp; omega)))) | ((with_reducible refine Below.alloc ?_ ?_ _); (rotate_left; focus (first | omega | (simp; done) | (simp; omega)))) | (with_reducible refine below_drewN ?_ _) | (with_reducible refine Below.drew ?_) | ((with_reducible refine Below.trans ?_ (Below.mono hb1 ?_)); (rotate_left; focus (first | omega | (simp; done) | (simp; omega))))))).mono ?_; rintro x w2 ⟨⟨v, rfl, hv⟩, hb2⟩)))
  go_ret3
  exact ⟨⟨v, rfl, hv⟩, (by repeat (first | (with_reducible exact Below.refl _ _) | ((with_reducible refine below_setAt ?_ ?_ _); (rotate_left; focus (first | omega | (simp; done) | (simp; omega)))) | ((with_reducible refine Below.alloc ?_ ?_ _); (rotate_left; focus (first | omega | (simp; done) | (simp; omega)))) | (with_reducible refine below_drewN ?_ _) | (with_reducible refine Below.drew ?_) | ((with_reducible refine Below.trans ?_ (Below.mono hb2 ?_)); (rotate_left; focus (first | omega | (simp; done) | (simp; omega)))) | ((with_reducible refine Below.trans ?_ (Below.mono hb1 ?_)); (rotate_left; focus (first | omega | (simp; done) | (simp; omega))))))⟩

theorem rowInA {w : World} {b : Nat} (h : w.heap[b]? = some (.cells #[.string xNm, .int .i64 10, .int .i64 0, .int .i64 0] 47 (0, 0))) : Row InC 4 w insA (some ⟨b, 0, none⟩) := by
  obtain ⟨⟨x0, x1, x2, x3⟩, xf⟩ := cells4 h
  refine .inr ⟨b, 0, rfl, lt_of_block h, fun i hi => ?_⟩
  have hi0 : i = 0 := by simp [insA] at hi; omega
  subst hi0
  show InC w b (0 + 0 * 4) (⟨xNm, 10, 0, 0⟩ : IN)
  exact ⟨x0, x1, x2, x3, (by decide : xNm.size ≤ 9223372036854775807), (⟨by decide, by decide⟩ : I64 10), (⟨by decide, by decide⟩ : I64 0), (⟨by decide, by decide⟩ : I64 0)⟩
theorem rowFlA {w : World} {b : Nat} (h : w.heap[b]? = some (.cells #[.string fNm, .int .i64 1, .string xNm, .int .i64 0, .int .i64 0, .slice none 0 0, .int .i64 0, .int .i64 0] 41 (0, 0))) : Row FlC 8 w flowsA (some ⟨b, 0, none⟩) := by
  have y : ∀ o, w.cell? ⟨b, o, none⟩ = (#[.string fNm, .int .i64 1, .string xNm, .int .i64 0, .int .i64 0, .slice none 0 0, .int .i64 0, .int .i64 0] : Array Value)[o]? := fun o => by simp [World.cell?, h]
  refine .inr ⟨b, 0, rfl, lt_of_block h, fun i hi => ?_⟩
  have hi0 : i = 0 := by simp [flowsA] at hi; omega
  subst hi0
  show FlC w b (0 + 0 * 8) (⟨fNm, ⟨1, xNm, 0, 0, .nil, 0⟩, 0⟩ : FL)
  exact ⟨(y 0).trans rfl, ⟨none, 0, (y 1).trans rfl, (y 2).trans rfl, (y 3).trans rfl, (y 4).trans rfl, (y 5).trans rfl, (y 6).trans rfl, ⟨⟨(⟨by decide, by decide⟩ : I64 1), (⟨by decide, by decide⟩ : I64 0), (⟨by decide, by decide⟩ : I64 0), (⟨by decide, by decide⟩ : I64 0), (by decide : xNm.size ≤ 9223372036854775807)⟩, ⟨Nat.le_refl _, by decide⟩, .inl rfl⟩⟩, (y 7).trans rfl, (by decide : fNm.size ≤ 9223372036854775807), (⟨by decide, by decide⟩ : I64 0)⟩

set_option maxRecDepth 100000 in
set_option maxHeartbeats 4000000 in
theorem awake_any (w : World) : Calls Try.prog 5 #[] w fun x w' => x = .returned (.bool true) ∧ Below w.heap.size w w' := by
  have HCK := Lib.hid (fun (w' : World) (h1 : w'.heap[w.heap.size]? = some (.cells #[.string ⟨#[120]⟩, .int .i64 10, .int .i64 0, .int .i64 0] 47 (0, 0))) (h2 : w'.heap[w.heap.size + 1]? = some (.cells #[.string ⟨#[102]⟩, .int .i64 1, .string ⟨#[120]⟩, .int .i64 0, .int .i64 0, .slice none 0 0, .int .i64 0, .int .i64 0] 41 (0, 0))) =>
    check0_any (w := w') (some ⟨w.heap.size, 0, none⟩) (some ⟨w.heap.size + 1, 0, none⟩) 0 1 1 0 none none ⟨.inl rfl, rowInA h1, rowFlA h2, .inl rfl, by decide⟩)
  unfold pv at HCK
  simp only [List.length_nil, insA, flowsA, List.length_cons, Nat.zero_add] at HCK
  go_enter Try.func5, Try.ntmps5
  go_wp2_with (go_at_call 8; go_loud (refine (HCK.out _ ((Below.heap_alloc _ _ _ (by first | omega | (simp; done) | (simp; omega))).trans ((Below.heap_alloc _ _ _ (by first | omega | (simp; done) | (simp; omega))).trans (heap_new w _))) ((Below.heap_alloc _ _ _ (by first | omega | (simp; done) | (simp; omega))).trans (by simpa using heap_new (w.alloc _) _))).mono ?_; rintro x w1 ⟨⟨v, rfl, b, rfl, hlt, hc⟩, hb1⟩; have c0 := (hc 0 (by simp)).1; have c1 := (hc 0 (by simp)).2; simp at c0 c1; clear hc))
  go_ret
  exact ⟨rfl, (by repeat (first | (with_reducible exact Below.refl _ _) | ((with_reducible refine below_setAt ?_ ?_ _); (rotate_left; focus (first | omega | (simp; done) | (simp; omega)))) | ((with_reducible refine Below.alloc ?_ ?_ _); (rotate_left; focus (first | omega | (simp; done) | (simp; omega)))) | (with_reducible refine below_drewN ?_ _) | (with_reducible refine Below.drew ?_) | ((with_reducible refine Below.trans ?_ (Below.mono hb1 ?_)); (rotate_left; focus (first | omega | (simp; done) | (simp; omega))))))⟩
end Go.Proofs.Ytjcmjlkihfcdcaa.syn
