/-
  No more expressions than a text can make: fits.
-/
import Derived.Test.YtjcmjlkihfcdcaaChk6
namespace Go.Proofs.Ytjcmjlkihfcdcaa.syn
open Go.RowKit
set_option linter.unusedVariables false
set_option linter.unusedSimpArgs false

def sumN : List ND → Nat
  | [] => 0
  | n :: l => n.body.args.sz + 1 + sumN l
def sumF : List FL → Nat
  | [] => 0
  | f :: l => f.e.args.sz + 1 + sumF l
theorem cells4 {w : World} {b : Nat} {v0 v1 v2 v3 : Value} {t : TypeId} (h : w.heap[b]? = some (.cells #[v0, v1, v2, v3] t (0, 0))) :
    (w.cell? ⟨b, 0, none⟩ = some v0 ∧ w.cell? ⟨b, 1, none⟩ = some v1 ∧ w.cell? ⟨b, 2, none⟩ = some v2 ∧ w.cell? ⟨b, 3, none⟩ = some v3) ∧ ∀ o, w.frozen? ⟨b, o, none⟩ = false := by
  refine ⟨⟨?_, ?_, ?_, ?_⟩, ?_⟩
  all_goals first | (intro o; simp [World.frozen?, h]) | simp [World.cell?, h]
theorem drop_nd {l : List ND} {i : Nat} (h : i < l.length) : l.drop i = l[i] :: l.drop (i + 1) := by rw [List.drop_eq_getElem_cons h]
theorem NodeC.cells {w : World} {b o : Nat} {nm nm1 : ByteArray} {ps : List ByteArray} {bud k1 n1 d1 a1 fa : Int} {args1 : PL} (h : NodeC w b o ⟨nm, ps, bud, ⟨k1, nm1, n1, d1, args1, a1⟩, fa⟩) : ∃ pa pc ad cap,
    w.cell? ⟨b, o, none⟩ = some (.string nm) ∧ w.cell? ⟨b, o + 1, none⟩ = some (.slice pa ps.length pc) ∧ w.cell? ⟨b, o + 2, none⟩ = some (.int .i64 bud) ∧ w.cell? ⟨b, o + 3, none⟩ = some (.int .i64 k1) ∧ w.cell? ⟨b, o + 4, none⟩ = some (.string nm1) ∧
    w.cell? ⟨b, o + 5, none⟩ = some (.int .i64 n1) ∧ w.cell? ⟨b, o + 6, none⟩ = some (.int .i64 d1) ∧ w.cell? ⟨b, o + 7, none⟩ = some (.slice ad args1.len cap) ∧ w.cell? ⟨b, o + 8, none⟩ = some (.int .i64 a1) ∧ w.cell? ⟨b, o + 9, none⟩ = some (.int .i64 fa) ∧
    AE w ⟨k1, nm1, n1, d1, args1, a1⟩ ad cap ∧ (ps.length ≤ pc ∧ pc ≤ 9223372036854775807 ∧ Row StrC 1 w ps pa) ∧ (nm.size ≤ 9223372036854775807 ∧ I64 bud ∧ I64 fa) := by
  obtain ⟨x0, ⟨pa, pc, x1, p1, p2, p3⟩, x2, ⟨ad, cap, x3, x4, x5, x6, x7, x8, hae⟩, x9, hfn⟩ := h
  exact ⟨pa, pc, ad, cap, x0, x1, x2, x3, x4, x5, x6, x7, x8, x9, hae, ⟨p1, p2, p3⟩, hfn⟩

/-- The cells of what came in, in a later world. -/
theorem FlC.later {w wr : World} {b o : Nat} {f : FL} (h : FlC w b o f) (hb : Below w.heap.size w wr) (hlt : b < w.heap.size) : FlC wr b o f := flSta w wr b o f hb hlt h
def PBox (w : World) (b : Nat) (p : PG) (an ai af ao : Option Addr) (cn ci cf co : Nat) : Prop := w.heap[b]? = some (.cells #[.slice an p.nodes.length cn, .slice ai p.ins.length ci, .slice af p.flows.length cf, .slice ao p.outs.length co] 27 (0, 0))
def FtRel (w : World) (p : PG) (an ai af ao : Option Addr) (cn ci cf co : Nat) (len : Nat) (tot : Nat → Nat) (v : Value) (wr : World) : Prop :=
  ∃ (i : Nat) (r : Int), v = .int .i64 (i : Int) ∧ i ≤ len ∧ RoomIs wr (w.heap.size + 1) r ∧ (tot i : Int) ≤ r ∧ r ≤ 8000 ∧ PBox wr w.heap.size p an ai af ao cn ci cf co ∧ Below w.heap.size w wr

set_option maxRecDepth 100000 in
set_option maxHeartbeats 4000000 in
theorem fits_any {w : World} (p : PG) (an ai af ao : Option Addr) (cn ci cf co : Nat) (hp : AP w p an ai af ao cn ci cf co) (hs : sumN p.nodes + sumF p.flows ≤ 8000) :
    Calls Try.prog 19 #[pv p an ai af ao cn ci cf co] w fun x w' => x = .returned (.bool true) ∧ Below w.heap.size w w' := by
  obtain ⟨nodes, ins, flows, outs⟩ := p
  obtain ⟨hn, hi, hf, ho, hcap⟩ := hp
  simp only at hn hi hf ho hcap hs
  have HN := Lib.hid hn
  have HF := Lib.hid hf
  have hnl : nodes.length ≤ 9223372036854775807 := by omega
  have hfl : flows.length ≤ 9223372036854775807 := by omega
  clear hn hi hf ho
  unfold pv
  simp only
  go_enter Try.func19, Try.ntmps19
  go_wp2
  go_loopw [13] (fun v wr => Hid (FtRel w ⟨nodes, ins, flows, outs⟩ an ai af ao cn ci cf co nodes.length (fun i => sumN (nodes.drop i) + sumF flows) v wr)) (fun i _ => nodes.length - (intOf i).toNat)
  case atStart => exact ⟨0, 8000, rfl, Nat.zero_le _, by simpa [RoomIs] using heap_new (w.alloc _) _, by simp only [List.drop_zero]; omega, by omega, (heap_alloc_old _ _ (by simp)).trans (heap_new w _), (by repeat (first | (with_reducible exact Below.refl _ _) | ((with_reducible refine below_setAt ?_ ?_ _); (rotate_left; focus (first | omega | (simp; done) | (simp; omega)))) | ((with_reducible refine Below.alloc ?_ ?_ _); (rotate_left; focus (first | omega | (simp; done) | (simp; omega)))) | (with_reducible refine below_drewN ?_ _) | (with_reducible refine Below.drew ?_)))⟩
  case round =>
    obtain ⟨i, r, rfl, hi, hroom, hr1, hr2, hpb, hbel⟩ := hrel.out
    clear hrel
    simp only at hr1
    unfold PBox at hpb
    simp only at hpb
    obtain ⟨⟨x0, x1, x2, x3⟩, xf⟩ := cells4 hpb
    have HPB := Lib.hid hpb
    have HROOM := Lib.hid hroom
    have HBEL := Lib.hid hbel
    have hltr := lt_of_block hroom
    have hltp := lt_of_block hpb
    have hszr := hbel.size
    clear hpb hroom
    by_cases hlt : i < nodes.length
    · obtain ⟨bb, oo, rfl, hbb0, hnd0⟩ := HN.out.at hlt
      have hnd := nodeSta w wr bb _ _ hbel hbb0 hnd0
      have hbb := Nat.lt_of_lt_of_le hbb0 hszr
      rw [drop_nd hlt] at hr1
      obtain ⟨n, hn⟩ : ∃ n, nodes[i] = n := ⟨_, rfl⟩
      rw [hn] at hnd hnd0 hr1
      obtain ⟨nm, ps, bud, ⟨k1, nm1, n1, d1, args1, a1⟩, fa⟩ := n
      simp only [sumN] at hr1
      obtain ⟨pa, pc, ad, cap, y0, y1, y2, y3, y4, y5, y6, y7, y8, y9, hae, hps, hfn⟩ := hnd.cells
      obtain ⟨_, _, ad', cap', _, _, _, _, _, _, _, y7', _, _, hae', _, _⟩ := hnd0.cells
      have hee := (hbel.cell (p := ⟨bb, oo + i * 10 + 7, none⟩) hbb0).trans y7'
      rw [y7] at hee
      injection hee with hee; injection hee with he1 he2 he3
      subst he1; subst he3
      have HE := Lib.hid hae'
      have HC := Lib.hid (fun w' hb hr => visit_any ⟨k1, nm1, n1, d1, args1, a1⟩ w w' ad cap (w.heap.size + 1) r HE.out hb (by omega) hr (by show (args1.sz : Int) + 1 ≤ r; omega) (by omega))
      unfold takeV at HC
      simp only at HC
      have hie : (i : Int) < (nodes.length : Int) := by omega
      clear hbel hnd hnd0 hae hae' y7' hps hfn hbb0
      go_wp2_with (go_at_call 37; go_loud (refine (HC.out _ (by repeat (first | (with_reducible exact Below.refl _ _) | ((with_reducible refine below_setAt ?_ ?_ _); (rotate_left; focus (first | omega | (simp; done) | (simp; omega)))) | ((with_reducible refine Below.alloc ?_ ?_ _); (rotate_left; focus (first | omega | (simp; done) | (simp; omega)))) | (with_reducible refine below_drewN ?_ _) | (with_reducible refine Below.drew ?_) | ((with_reducible refine Below.trans ?_ (Below.mono HBEL.out ?_)); (rotate_left; focus (first | omega | (simp; done) | (simp; omega)))))) ((heap_alloc_old _ _ hltr).trans HROOM.out)).mono ?_; rintro x w2 ⟨rfl, hrm2, hu2⟩))
      refine ⟨⟨i + 1, r - (args1.sz + 1), by go_num, by omega, hrm2, by simp only; omega, by omega, (hu2.block _ (by simp; omega) (by omega)).trans ((heap_alloc_old _ _ hltp).trans HPB.out), (HBEL.out.alloc (by omega) _).trans (hu2.below (by simp; omega) (by omega))⟩, by simp [intOf]; omega⟩
    · have hie : i = nodes.length := by omega
      subst hie
      have HR1 := Lib.hid (show (sumF flows : Int) ≤ r by rw [List.drop_length] at hr1; simpa [sumN] using hr1)
      clear hbel hr1
      go_wp2
      go_loopw [26] (fun v wr => Hid (FtRel w ⟨nodes, ins, flows, outs⟩ an ai af ao cn ci cf co flows.length (fun i => sumF (flows.drop i)) v wr)) (fun i _ => flows.length - (intOf i).toNat)
      case atStart => exact ⟨0, r, rfl, Nat.zero_le _, HROOM.out, by simpa using HR1.out, by omega, HPB.out, HBEL.out⟩
      case round =>
        clear HROOM HBEL HPB HR1 hltr hltp hszr x0 x1 x2 x3 xf
        obtain ⟨i, r, rfl, hi, hroom, hr1, hr2, hpb, hbel⟩ := hrel.out
        clear hrel
        simp only at hr1
        unfold PBox at hpb
        simp only at hpb
        obtain ⟨⟨x0, x1, x2, x3⟩, xf⟩ := cells4 hpb
        have HPB := Lib.hid hpb
        have HROOM := Lib.hid hroom
        have HBEL := Lib.hid hbel
        have hltr := lt_of_block hroom
        have hltp := lt_of_block hpb
        have hszr := hbel.size
        clear hpb hroom
        by_cases hlt : i < flows.length
        · obtain ⟨bb, oo, rfl, hbb0, hfl0⟩ := HF.out.at hlt
          have hfl' := hfl0.later hbel hbb0
          have hbb := Nat.lt_of_lt_of_le hbb0 hszr
          rw [drop_fl hlt] at hr1
          obtain ⟨f, hf⟩ : ∃ f, flows[i] = f := ⟨_, rfl⟩
          rw [hf] at hfl' hfl0 hr1
          obtain ⟨nm, ⟨k1, nm1, n1, d1, args1, a1⟩, fa⟩ := f
          simp only [sumF] at hr1
          obtain ⟨ad, cap, y0, y1, y2, y3, y4, y5, y6, y7, hae, hfn⟩ := hfl'.cells
          obtain ⟨ad', cap', _, _, _, _, _, y5', _, _, hae', _⟩ := hfl0.cells
          have hee := (hbel.cell (p := ⟨bb, oo + i * 8 + 5, none⟩) hbb0).trans y5'
          rw [y5] at hee
          injection hee with hee; injection hee with he1 he2 he3
          subst he1; subst he3
          have HE := Lib.hid hae'
          have HC := Lib.hid (fun w' hb hr => visit_any ⟨k1, nm1, n1, d1, args1, a1⟩ w w' ad cap (w.heap.size + 1) r HE.out hb (by omega) hr (by show (args1.sz : Int) + 1 ≤ r; omega) (by omega))
          unfold takeV at HC
          simp only at HC
          have hie : (i : Int) < (flows.length : Int) := by omega
          clear hbel hfl' hfl0 hae hae' y5' hfn hbb0
          go_wp2_with (go_at_call 37; go_loud (refine (HC.out _ (by repeat (first | (with_reducible exact Below.refl _ _) | ((with_reducible refine below_setAt ?_ ?_ _); (rotate_left; focus (first | omega | (simp; done) | (simp; omega)))) | ((with_reducible refine Below.alloc ?_ ?_ _); (rotate_left; focus (first | omega | (simp; done) | (simp; omega)))) | (with_reducible refine below_drewN ?_ _) | (with_reducible refine Below.drew ?_) | ((with_reducible refine Below.trans ?_ (Below.mono HBEL.out ?_)); (rotate_left; focus (first | omega | (simp; done) | (simp; omega)))))) ((heap_alloc_old _ _ hltr).trans HROOM.out)).mono ?_; rintro x w2 ⟨rfl, hrm2, hu2⟩))
          refine ⟨⟨i + 1, r - (args1.sz + 1), by go_num, by omega, hrm2, by simp only; omega, by omega, (hu2.block _ (by simp; omega) (by omega)).trans ((heap_alloc_old _ _ hltp).trans HPB.out), (HBEL.out.alloc (by omega) _).trans (hu2.below (by simp; omega) (by omega))⟩, by simp [intOf]; omega⟩
        · clear hbel
          go_wp2
          go_ret
          exact ⟨rfl, HBEL.out⟩

end Go.Proofs.Ytjcmjlkihfcdcaa.syn
