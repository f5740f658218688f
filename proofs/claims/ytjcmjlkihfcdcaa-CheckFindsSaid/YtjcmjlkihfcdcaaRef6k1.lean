/-
  The reference's Clock of a name.
-/
import Derived.Test.YtjcmjlkihfcdcaaRef6k
namespace Go.Proofs.Ytjcmjlkihfcdcaa.rclk
open Go.RowKit syn
set_option linter.unusedVariables false
set_option linter.unusedSimpArgs false

set_option maxRecDepth 100000 in
set_option maxHeartbeats 8000000 in
theorem clock_name (nodes : List ND) (ins : List IN) (flows : List FL) (outs : List OU) (an ai af ao : Option Addr) (cn ci cf co : Nat) (hl2 : ins.length ≤ 1000) (hl3 : flows.length ≤ 1000) (C : List (Int × Int)) (hC : C.length ≤ 1000) (nm : ByteArray) (n d a : Int) (args : PL) :
    ClockSaid ⟨nodes, ins, flows, outs⟩ an ai af ao cn ci cf co C ⟨1, nm, n, d, args, a⟩ := by
  intro w ad cap al cl hp hae hcl hx h1 h2 h3
  have HP := Lib.hid hp
  have HCL := Lib.hid hcl
  have HFL := Lib.hid (fun (w' : World) (h : Below w.heap.size w w') => flow_any (w := w') ⟨nodes, ins, flows, outs⟩ an ai af ao cn ci cf co nm (HP.out.below h) hl2 hl3)
  have hr : rclkE (envC ⟨nodes, ins, flows, outs⟩ C) ⟨1, nm, n, d, args, a⟩ = some (envC ⟨nodes, ins, flows, outs⟩ C nm) := by unfold rclkE rclk1; rw [if_pos rfl]
  have g1 : 0 ≤ flowIx ⟨nodes, ins, flows, outs⟩ nm := by
    simp only [nm1] at h1; simpa using h1
  have g2 : flowIx ⟨nodes, ins, flows, outs⟩ nm < (ins.length : Int) + (C.length : Int) := by
    have h := h3
    unfold ahE at h
    rw [Bool.and_eq_true] at h
    have h := h.1
    simp only [ah1] at h; simpa using h
  rw [hr]
  have he : envC ⟨nodes, ins, flows, outs⟩ C nm = envC ⟨nodes, ins, flows, outs⟩ C nm := rfl
  unfold envC at he
  generalize hfi : flowIx ⟨nodes, ins, flows, outs⟩ nm = fi at HFL g1 g2 he
  obtain ⟨q, rfl⟩ : ∃ q : Nat, fi = (q : Int) := ⟨fi.toNat, by omega⟩
  rw [Int.toNat_natCast] at he
  simp only [hfi, Int.toNat_natCast] at he
  have HC := Lib.hid (CW.new w nodes ins flows outs an ai af ao cn ci cf co 1 nm n d a args ad cap)
  have h64 : cn ≤ 9223372036854775807 := hp.caps.1.2
  have HEQ : Hid (envC ⟨nodes, ins, flows, outs⟩ C nm = (if q < ins.length then ((ins[q]?).map (fun x => (x.per, x.ph))).getD (0, 0) else C.getD (q - ins.length) (0, 0))) := by
    show _ = _; unfold envC; simp only [hfi, Int.toNat_natCast]
  have hlA := hae.len
  simp only at hlA
  unfold pv at HFL ⊢
  simp only at HFL ⊢
  clear hp hcl hx h1 h2 h3 hr hfi he hae
  by_cases hq : q < ins.length
  · obtain ⟨bb, oo, rfl, hbb0, hin0⟩ := HP.out.ins.at hq
    have HIN := Lib.hid hin0
    have hq' : (q : Int) < (ins.length : Int) := by omega
    have hev : Hid (envC ⟨nodes, ins, flows, outs⟩ C nm = (ins[q].per, ins[q].ph)) := by
      show _ = _
      rw [HEQ.out, if_pos hq, List.getElem?_eq_getElem hq]; rfl
    obtain ⟨x, hxi⟩ : ∃ x, ins[q] = x := ⟨_, rfl⟩
    rw [hxi] at hev HIN
    clear hin0 HEQ hxi g2
    obtain ⟨inm, per, ph, fa⟩ := x
    simp only at hev HIN
    go_enter Try.func11, Try.ntmps11
    go_wp2_with (go_at_call 26; go_loud (refine (HFL.out _ (by repeat (first | (with_reducible exact Below.refl _ _) | ((with_reducible refine below_setAt ?_ ?_ _); (rotate_left; focus (first | omega | (simp; done) | (simp; omega)))) | ((with_reducible refine Below.alloc ?_ ?_ _); (rotate_left; focus (first | omega | (simp; done) | (simp; omega)))) | (with_reducible refine below_drewN ?_ _) | (with_reducible refine Below.drew ?_)))).mono ?_; rintro x w1 ⟨rfl, hb1⟩; have HC1 := Lib.hid (HC.out.keep hb1); have h1_0 := HC1.out.pbox; unfold PBox at h1_0; simp only at h1_0; obtain ⟨⟨z0, z1, z2, z3⟩, zf⟩ := cells4 h1_0; have h1_1 := HC1.out.ebox; simp only at h1_1; obtain ⟨⟨e0, e1, e2, e3, e4, e5⟩, ef⟩ := cells6' h1_1; obtain ⟨⟨r0, r1⟩, ⟨rf0, rf1⟩, rl⟩ := cells2c HC1.out.rbox; clear h1_0 h1_1; obtain ⟨y0, y1, y2, y3, _⟩ := inSta w w1 bb _ _ HC1.out.below hbb0 HIN.out; simp only at y0 y1 y2 y3))
    go_region
    all_goals
      go_wp2
      exact bodyPost_ret (v := .tuple #[.agg #[.int .i64 per, .int .i64 ph], .bool true]) (by simp only [results, Try.results11]; go_simp) rfl ⟨⟨per, ph, true, rfl, by rw [hev.out]; rfl⟩, (by repeat (first | (with_reducible exact Below.refl _ _) | ((with_reducible refine below_setAt ?_ ?_ _); (rotate_left; focus (first | omega | (simp; done) | (simp; omega)))) | ((with_reducible refine Below.alloc ?_ ?_ _); (rotate_left; focus (first | omega | (simp; done) | (simp; omega)))) | (with_reducible refine below_drewN ?_ _) | (with_reducible refine Below.drew ?_) | ((with_reducible refine Below.trans ?_ (Below.mono HC1.out.below ?_)); (rotate_left; focus (first | omega | (simp; done) | (simp; omega))))))⟩
  · obtain ⟨j, rfl⟩ : ∃ j : Nat, q = ins.length + j := ⟨q - ins.length, by omega⟩
    have hj : j < C.length := by omega
    obtain ⟨bb, oo, rfl, hbb0, _⟩ := HCL.out j hj
    have hev : Hid (envC ⟨nodes, ins, flows, outs⟩ C nm = C.getD j (0, 0)) := by
      show _ = _
      rw [HEQ.out, if_neg hq, Nat.add_sub_cancel_left]
    obtain ⟨x, hxi⟩ : ∃ x, C.getD j (0, 0) = x := ⟨_, rfl⟩
    rw [hxi] at hev
    have HXI := Lib.hid hxi
    have hq' : decide ((((ins.length + j : Nat)) : Int) < (ins.length : Int)) = false := decide_eq_false (by omega)
    have hq2 : decide (((ins.length : Int) + (j : Int)) < (ins.length : Int)) = false := decide_eq_false (by omega)
    have hq3 : ((ins.length + j : Nat) : Int) - (ins.length : Int) = (j : Int) := by omega
    have hq4 : (ins.length : Int) + (j : Int) - (ins.length : Int) = (j : Int) := by omega
    have hq5 : (j : Int) < (C.length : Int) := by omega
    clear HEQ hxi g2
    obtain ⟨per, ph⟩ := x
    go_enter Try.func11, Try.ntmps11
    go_wp2_with (go_at_call 26; go_loud (refine (HFL.out _ (by repeat (first | (with_reducible exact Below.refl _ _) | ((with_reducible refine below_setAt ?_ ?_ _); (rotate_left; focus (first | omega | (simp; done) | (simp; omega)))) | ((with_reducible refine Below.alloc ?_ ?_ _); (rotate_left; focus (first | omega | (simp; done) | (simp; omega)))) | (with_reducible refine below_drewN ?_ _) | (with_reducible refine Below.drew ?_)))).mono ?_; rintro x w1 ⟨rfl, hb1⟩; have HC1 := Lib.hid (HC.out.keep hb1); have h1_0 := HC1.out.pbox; unfold PBox at h1_0; simp only at h1_0; obtain ⟨⟨z0, z1, z2, z3⟩, zf⟩ := cells4 h1_0; have h1_1 := HC1.out.ebox; simp only at h1_1; obtain ⟨⟨e0, e1, e2, e3, e4, e5⟩, ef⟩ := cells6' h1_1; obtain ⟨⟨r0, r1⟩, ⟨rf0, rf1⟩, rl⟩ := cells2c HC1.out.rbox; clear h1_0 h1_1; obtain ⟨b9, o9, e9, _, y0, y1⟩ := HCL.out.below HC1.out.below (Nat.le_refl _) j hj; injection e9 with e9; injection e9 with p9 q9; subst p9; subst q9; rw [HXI.out] at y0 y1; simp only at y0 y1))
    exact bodyPost_ret (v := .tuple #[.agg #[.int .i64 per, .int .i64 ph], .bool true]) (by simp only [results, Try.results11]; go_simp) rfl ⟨⟨per, ph, true, rfl, by rw [hev.out]; rfl⟩, (by repeat (first | (with_reducible exact Below.refl _ _) | ((with_reducible refine below_setAt ?_ ?_ _); (rotate_left; focus (first | omega | (simp; done) | (simp; omega)))) | ((with_reducible refine Below.alloc ?_ ?_ _); (rotate_left; focus (first | omega | (simp; done) | (simp; omega)))) | (with_reducible refine below_drewN ?_ _) | (with_reducible refine Below.drew ?_) | ((with_reducible refine Below.trans ?_ (Below.mono HC1.out.below ?_)); (rotate_left; focus (first | omega | (simp; done) | (simp; omega))))))⟩
end Go.Proofs.Ytjcmjlkihfcdcaa.rclk
