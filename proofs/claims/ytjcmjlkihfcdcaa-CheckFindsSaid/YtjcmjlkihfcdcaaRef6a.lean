/-
  The reference's places of names: Flow, Node.
-/
import Derived.Test.YtjcmjlkihfcdcaaChk11
import Derived.Test.YtjcmjlkihfcdcaaName
namespace Go.Proofs.Ytjcmjlkihfcdcaa.syn
open Go.RowKit
set_option linter.unusedVariables false
set_option linter.unusedSimpArgs false

def fstIx {α : Type} (f : α → ByteArray) (nm : ByteArray) : List α → Nat → Option Nat
  | [], _ => none
  | x :: l, i => if f x = nm then some i else fstIx f nm l (i + 1)
theorem fstIx_some {α : Type} (f : α → ByteArray) (nm : ByteArray) : ∀ (l : List α) (i k : Nat), fstIx f nm l i = some k → ∃ j, k = i + j ∧ ∃ x, l[j]? = some x ∧ f x = nm := by
  intro l
  induction l with
  | nil => intro i k h; cases h
  | cons x l ih =>
    intro i k h
    unfold fstIx at h
    by_cases hx : f x = nm
    · rw [if_pos hx] at h; injection h with h; exact ⟨0, by omega, x, rfl, hx⟩
    · rw [if_neg hx] at h
      obtain ⟨j, h1, y, h2, h3⟩ := ih (i + 1) k h
      exact ⟨j + 1, by omega, y, by simpa using h2, h3⟩
theorem fstIx_none {α : Type} (f : α → ByteArray) (nm : ByteArray) : ∀ (l : List α) (i : Nat), fstIx f nm l i = none → ∀ x ∈ l, f x ≠ nm := by
  intro l
  induction l with
  | nil => intro i _ x hx; cases hx
  | cons x l ih =>
    intro i h y hy
    unfold fstIx at h
    by_cases hx : f x = nm
    · rw [if_pos hx] at h; cases h
    · rw [if_neg hx] at h
      rcases List.mem_cons.1 hy with rfl | hy
      · exact hx
      · exact ih (i + 1) h y hy
/-- Where a name stands: an input's place, or a flow's behind them; -1. -/
def flowIx (p : PG) (nm : ByteArray) : Int := match fstIx IN.nm nm p.ins 0 with
  | some i => (i : Int)
  | none => match fstIx FL.nm nm p.flows 0 with
    | some i => (p.ins.length : Int) + (i : Int)
    | none => -1
def nodeIx (p : PG) (nm : ByteArray) : Int := match fstIx ND.nm nm p.nodes 0 with
  | some i => (i : Int)
  | none => -1

def FxRel (w : World) (p : PG) (an ai af ao : Option Addr) (cn ci cf co : Nat) (len : Nat) (S : Nat → Prop) (v : Value) (wr : World) : Prop :=
  ∃ i : Nat, v = .int .i64 (i : Int) ∧ i ≤ len ∧ PBox wr w.heap.size p an ai af ao cn ci cf co ∧ Below w.heap.size w wr ∧ S i

theorem str_eq_dec (a b : ByteArray) : (a.toList == b.toList) = decide (a = b) := str_beq a b

set_option maxRecDepth 100000 in
set_option maxHeartbeats 2000000 in
theorem flow_any {w : World} (p : PG) (an ai af ao : Option Addr) (cn ci cf co : Nat) (nm : ByteArray) (hp : AP w p an ai af ao cn ci cf co) (h1 : p.ins.length ≤ 1000) (h2 : p.flows.length ≤ 1000) :
    Calls Try.prog 26 #[pv p an ai af ao cn ci cf co, .string nm] w fun x w' => x = .returned (.int .i64 (flowIx p nm)) ∧ Below w.heap.size w w' := by
  obtain ⟨nodes, ins, flows, outs⟩ := p
  have HI := Lib.hid hp.ins
  have HF := Lib.hid hp.flows
  clear hp
  simp only at h1 h2
  unfold pv
  simp only
  obtain ⟨r, hr⟩ : ∃ r, flowIx ⟨nodes, ins, flows, outs⟩ nm = r := ⟨_, rfl⟩
  rw [hr]
  have HR := Lib.hid hr
  clear hr
  go_enter Try.func26, Try.ntmps26
  go_wp2
  go_loopw [5] (fun v wr => Hid (FxRel w ⟨nodes, ins, flows, outs⟩ an ai af ao cn ci cf co ins.length (fun i => fstIx IN.nm nm (ins.drop i) i = fstIx IN.nm nm ins 0) v wr)) (fun i _ => ins.length - (intOf i).toNat)
  case atStart => exact ⟨0, rfl, Nat.zero_le _, heap_new w _, (by repeat (first | (with_reducible exact Below.refl _ _) | ((with_reducible refine below_setAt ?_ ?_ _); (rotate_left; focus (first | omega | (simp; done) | (simp; omega)))) | ((with_reducible refine Below.alloc ?_ ?_ _); (rotate_left; focus (first | omega | (simp; done) | (simp; omega)))) | (with_reducible refine below_drewN ?_ _) | (with_reducible refine Below.drew ?_))), rfl⟩
  case round =>
    obtain ⟨i, rfl, hi, hpb, hbel, hS⟩ := hrel.out
    clear hrel
    try simp only at hS
    unfold PBox at hpb
    simp only at hpb
    obtain ⟨⟨x0, x1, x2, x3⟩, xf⟩ := cells4 hpb
    have HPB := Lib.hid hpb
    have HBEL := Lib.hid hbel
    have hszr := hbel.size
    by_cases hlt : i < ins.length
    · obtain ⟨bb, oo, rfl, hbb0, hin0⟩ := HI.out.at hlt
      have hin := inSta w wr bb _ _ hbel hbb0 hin0
      have hbb := Nat.lt_of_lt_of_le hbb0 hszr
      obtain ⟨y0, _⟩ := hin
      rw [List.drop_eq_getElem_cons hlt, fstIx] at hS
      obtain ⟨x, hx⟩ : ∃ x, ins[i] = x := ⟨_, rfl⟩
      rw [hx] at y0 hS
      obtain ⟨nmx, per, ph, fa⟩ := x
      simp only at y0 hS
      have hq := str_beq nmx nm
      have hie : (i : Int) < (ins.length : Int) := by omega
      clear hbel hpb hin0 hx hbb0
      by_cases he : nmx = nm
      · rw [if_pos he] at hS
        rw [decide_eq_true he] at hq
        have h3 : r = (i : Int) := by rw [← HR.out]; unfold flowIx; simp only; rw [← hS]
        subst h3
        clear hS he
        go_wp2
        go_ret
        exact ⟨rfl, HBEL.out⟩
      · rw [if_neg he] at hS
        rw [decide_eq_false he] at hq
        have HS := Lib.hid hS
        clear hS he
        go_wp2
        refine ⟨⟨i + 1, by go_num, by omega, HPB.out, HBEL.out, HS.out⟩, by simp [intOf]; omega⟩
    · have hie : i = ins.length := by omega
      subst hie
      have HS := Lib.hid (show none = fstIx IN.nm nm ins 0 by rw [List.drop_length] at hS; exact hS)
      clear hS hbel hpb
      go_wp2
      go_loopw [6] (fun v wr => Hid (FxRel w ⟨nodes, ins, flows, outs⟩ an ai af ao cn ci cf co flows.length (fun i => fstIx FL.nm nm (flows.drop i) i = fstIx FL.nm nm flows 0) v wr)) (fun i _ => flows.length - (intOf i).toNat)
      case atStart => exact ⟨0, rfl, Nat.zero_le _, HPB.out, HBEL.out, rfl⟩
      case round =>
        clear HPB HBEL hszr x0 x1 x2 x3 xf
        obtain ⟨i, rfl, hi, hpb, hbel, hS⟩ := hrel.out
        clear hrel
        try simp only at hS
        unfold PBox at hpb
        simp only at hpb
        obtain ⟨⟨x0, x1, x2, x3⟩, xf⟩ := cells4 hpb
        have HPB := Lib.hid hpb
        have HBEL := Lib.hid hbel
        have hszr := hbel.size
        by_cases hlt : i < flows.length
        · obtain ⟨bb, oo, rfl, hbb0, hfl0⟩ := HF.out.at hlt
          have hfl := flSta w wr bb _ _ hbel hbb0 hfl0
          have hbb := Nat.lt_of_lt_of_le hbb0 hszr
          obtain ⟨y0, _⟩ := hfl
          rw [List.drop_eq_getElem_cons hlt, fstIx] at hS
          obtain ⟨x, hx⟩ : ∃ x, flows[i] = x := ⟨_, rfl⟩
          rw [hx] at y0 hS
          obtain ⟨nmx, ex, fa⟩ := x
          simp only at y0 hS
          have hq := str_beq nmx nm
          have hie : (i : Int) < (flows.length : Int) := by omega
          clear hbel hpb hfl0 hx hbb0
          by_cases he : nmx = nm
          · rw [if_pos he] at hS
            rw [decide_eq_true he] at hq
            have h3 : r = (ins.length : Int) + (i : Int) := by rw [← HR.out]; unfold flowIx; simp only; rw [← HS.out]; simp only; rw [← hS]
            subst h3
            clear hS he
            go_wp2
            go_ret
            exact ⟨rfl, HBEL.out⟩
          · rw [if_neg he] at hS
            rw [decide_eq_false he] at hq
            have HS2 := Lib.hid hS
            clear hS he
            go_wp2
            refine ⟨⟨i + 1, by go_num, by omega, HPB.out, HBEL.out, HS2.out⟩, by simp [intOf]; omega⟩
        · have hie : i = flows.length := by omega
          subst hie
          have h4 : none = fstIx FL.nm nm flows 0 := by rw [List.drop_length] at hS; exact hS
          have h3 : r = -1 := by rw [← HR.out]; unfold flowIx; simp only; rw [← HS.out]; simp only; rw [← h4]
          subst h3
          clear hS hbel hpb h4
          go_wp2
          go_ret
          exact ⟨rfl, HBEL.out⟩

set_option maxRecDepth 100000 in
set_option maxHeartbeats 2000000 in
theorem node_any {w : World} (p : PG) (an ai af ao : Option Addr) (cn ci cf co : Nat) (nm : ByteArray) (hp : AP w p an ai af ao cn ci cf co) (h1 : p.nodes.length ≤ 1000) :
    Calls Try.prog 24 #[pv p an ai af ao cn ci cf co, .string nm] w fun x w' => x = .returned (.int .i64 (nodeIx p nm)) ∧ Below w.heap.size w w' := by
  obtain ⟨nodes, ins, flows, outs⟩ := p
  have HN := Lib.hid hp.nodes
  clear hp
  simp only at h1
  unfold pv
  simp only
  obtain ⟨r, hr⟩ : ∃ r, nodeIx ⟨nodes, ins, flows, outs⟩ nm = r := ⟨_, rfl⟩
  rw [hr]
  have HR := Lib.hid hr
  clear hr
  go_enter Try.func24, Try.ntmps24
  go_wp2
  go_loopw [5] (fun v wr => Hid (FxRel w ⟨nodes, ins, flows, outs⟩ an ai af ao cn ci cf co nodes.length (fun i => fstIx ND.nm nm (nodes.drop i) i = fstIx ND.nm nm nodes 0) v wr)) (fun i _ => nodes.length - (intOf i).toNat)
  case atStart => exact ⟨0, rfl, Nat.zero_le _, heap_new w _, (by repeat (first | (with_reducible exact Below.refl _ _) | ((with_reducible refine below_setAt ?_ ?_ _); (rotate_left; focus (first | omega | (simp; done) | (simp; omega)))) | ((with_reducible refine Below.alloc ?_ ?_ _); (rotate_left; focus (first | omega | (simp; done) | (simp; omega)))) | (with_reducible refine below_drewN ?_ _) | (with_reducible refine Below.drew ?_))), rfl⟩
  case round =>
    obtain ⟨i, rfl, hi, hpb, hbel, hS⟩ := hrel.out
    clear hrel
    try simp only at hS
    unfold PBox at hpb
    simp only at hpb
    obtain ⟨⟨x0, x1, x2, x3⟩, xf⟩ := cells4 hpb
    have HPB := Lib.hid hpb
    have HBEL := Lib.hid hbel
    have hszr := hbel.size
    by_cases hlt : i < nodes.length
    · obtain ⟨bb, oo, rfl, hbb0, hin0⟩ := HN.out.at hlt
      have hin := nodeSta w wr bb _ _ hbel hbb0 hin0
      have hbb := Nat.lt_of_lt_of_le hbb0 hszr
      obtain ⟨y0, _⟩ := hin
      rw [List.drop_eq_getElem_cons hlt, fstIx] at hS
      obtain ⟨x, hx⟩ : ∃ x, nodes[i] = x := ⟨_, rfl⟩
      rw [hx] at y0 hS
      obtain ⟨nmx, ps, bud, bd, fa⟩ := x
      simp only at y0 hS
      have hq := str_beq nmx nm
      have hie : (i : Int) < (nodes.length : Int) := by omega
      clear hbel hpb hin0 hx hbb0
      by_cases he : nmx = nm
      · rw [if_pos he] at hS
        rw [decide_eq_true he] at hq
        have h3 : r = (i : Int) := by rw [← HR.out]; unfold nodeIx; simp only; rw [← hS]
        subst h3
        clear hS he
        go_wp2
        go_ret
        exact ⟨rfl, HBEL.out⟩
      · rw [if_neg he] at hS
        rw [decide_eq_false he] at hq
        have HS := Lib.hid hS
        clear hS he
        go_wp2
        refine ⟨⟨i + 1, by go_num, by omega, HPB.out, HBEL.out, HS.out⟩, by simp [intOf]; omega⟩
    · have hie : i = nodes.length := by omega
      subst hie
      have h4 : none = fstIx ND.nm nm nodes 0 := by rw [List.drop_length] at hS; exact hS
      have h3 : r = -1 := by rw [← HR.out]; unfold nodeIx; simp only; rw [← h4]
      subst h3
      clear hS hbel hpb h4
      go_wp2
      go_ret
      exact ⟨rfl, HBEL.out⟩

end Go.Proofs.Ytjcmjlkihfcdcaa.syn
