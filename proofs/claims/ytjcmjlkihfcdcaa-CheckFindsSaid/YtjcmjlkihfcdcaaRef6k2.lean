/-
  The reference's Clock of an operator.
-/
import Derived.Test.YtjcmjlkihfcdcaaRef6k1
namespace Go.Proofs.Ytjcmjlkihfcdcaa.rclk
open Go.RowKit syn
set_option linter.unusedVariables false
set_option linter.unusedSimpArgs false

/-- What the call of the first argument leaves. -/
def K9 (w : World) (p : PG) (an ai af ao : Option Addr) (cn ci cf co : Nat) (e : PE) (ad : Option Addr) (cap : Nat) (r : Option (Int × Int)) (s9 s10 : Value) (W : World) : Prop :=
  ∃ (b9 : Nat) (p9 f9 : Int) (b : Bool), s9 = .pointer (some ⟨b9, 0, none⟩) ∧ s10 = .bool b ∧ r = (if b = true then some (p9, f9) else none) ∧ CW w p an ai af ao cn ci cf co e ad cap W ∧ w.heap.size + 1 + 1 < b9 ∧ b9 < W.heap.size ∧
    W.cell? ⟨b9, 0, none⟩ = some (.int .i64 p9) ∧ W.cell? ⟨b9, 1, none⟩ = some (.int .i64 f9)

/-- An argument of a row, its contract laid. -/
theorem first_said {p : PG} {C : List (Int × Int)} {k n d a k9 n9 d9 a9 : Int} {nm nm9 : ByteArray} {args9 tl : PL} (hx : exprOK ⟨k, nm, n, d, .cons k9 nm9 n9 d9 args9 a9 tl, a⟩ = true)
    (h2 : nmL p (.cons k9 nm9 n9 d9 args9 a9 tl) = true) (h3 : ahE p ((p.ins.length : Int) + (C.length : Int)) ⟨k, nm, n, d, .cons k9 nm9 n9 d9 args9 a9 tl, a⟩ = true) :
    exprOK ⟨k9, nm9, n9, d9, args9, a9⟩ = true ∧ nm1 p k9 nm9 = true ∧ nmL p args9 = true ∧ ahE p ((p.ins.length : Int) + (C.length : Int)) ⟨k9, nm9, n9, d9, args9, a9⟩ = true := by
  simp only [exprOK, exR, nmL, ahE, ahL, Bool.and_eq_true] at hx h2 h3 ⊢
  exact ⟨hx.1.1, h2.1.1, h2.1.2, h3.2.1⟩

set_option maxRecDepth 100000 in
set_option maxHeartbeats 8000000 in
theorem clock_op (nodes : List ND) (ins : List IN) (flows : List FL) (outs : List OU) (an ai af ao : Option Addr) (cn ci cf co : Nat) (C : List (Int × Int)) (hC : C.length ≤ 1000) (k : Int) (hk : k ≠ 1 ∧ k ≠ 2) (nm : ByteArray) (n d a k9 n9 d9 a9 : Int) (nm9 : ByteArray) (args9 tl : PL)
    (ih : ∀ e' : PE, e'.args.sz < (PL.cons k9 nm9 n9 d9 args9 a9 tl).sz → ClockSaid ⟨nodes, ins, flows, outs⟩ an ai af ao cn ci cf co C e') :
    ClockSaid ⟨nodes, ins, flows, outs⟩ an ai af ao cn ci cf co C ⟨k, nm, n, d, .cons k9 nm9 n9 d9 args9 a9 tl, a⟩ := by
  intro w ad cap al cl hp hae hcl hx h1 h2 h3
  obtain ⟨g1, g2, g3, g4⟩ := first_said hx h2 h3
  obtain ⟨_, hst⟩ := hae.len
  obtain ⟨_, _, hrow⟩ := RestP.start hae.args
  obtain ⟨b, o, rfl, hb, y0, y1, y2, y3, y5, hn, ⟨ad1, cap1, y4, hcap1, hcm1, hd1⟩, ht⟩ := hrow.resolve_left (by intro h; cases h)
  have HIC := Lib.hid (fun (W' : World) (h : Below w.heap.size w W') => ih ⟨k9, nm9, n9, d9, args9, a9⟩ (by simp only [PL.sz]; omega) W' ad1 cap1 al cl (hp.below h) ((show AE w ⟨k9, nm9, n9, d9, args9, a9⟩ ad1 cap1 from ⟨hn, ⟨hcap1, hcm1⟩, hd1⟩).below h) (hcl.below h (Nat.le_refl _)) g1 g2 g3 g4)
  have HC := Lib.hid (CW.new w nodes ins flows outs an ai af ao cn ci cf co k nm n d a (.cons k9 nm9 n9 d9 args9 a9 tl) (some ⟨b, o, none⟩) cap)
  have HK := Lib.hid hk
  have k1 : (k == 1) = false := beq_eq_false_iff_ne.2 hk.1
  have k2 : (k == 2) = false := beq_eq_false_iff_ne.2 hk.2
  have hln : (PL.cons k9 nm9 n9 d9 args9 a9 tl).len = tl.len + 1 := rfl
  have hl0 : (0 : Int) < ((tl.len + 1 : Nat) : Int) := by omega
  have hl1 : (0 : Int) < (tl.len : Int) + 1 := by omega
  have hl2 : 0 < tl.len + 1 := by omega
  have HRE := Lib.hid (show rclkE (envC ⟨nodes, ins, flows, outs⟩ C) ⟨k, nm, n, d, .cons k9 nm9 n9 d9 args9 a9 tl, a⟩ = rclk1 (envC ⟨nodes, ins, flows, outs⟩ C) k nm n d (rclkE (envC ⟨nodes, ins, flows, outs⟩ C) ⟨k9, nm9, n9, d9, args9, a9⟩ :: rclkL (envC ⟨nodes, ins, flows, outs⟩ C) tl) from rfl)
  generalize rclkE (envC ⟨nodes, ins, flows, outs⟩ C) ⟨k9, nm9, n9, d9, args9, a9⟩ = r9 at HIC HRE
  rw [HRE.out]
  generalize rclkL (envC ⟨nodes, ins, flows, outs⟩ C) tl = rs at HRE ⊢
  simp only [hln] at HC hst ⊢
  unfold pv at HIC ⊢
  simp only at HIC ⊢
  rw [show o + 0 * 6 = o by omega] at y0 y1 y2 y3 y4 y5
  clear hp hae hcl hx h1 h2 h3 g1 g2 g3 g4 hrow hn ht hd1 hk HRE ih
  go_enter Try.func11, Try.ntmps11
  go_wp2
  obtain ⟨W3, hW3⟩ : ∃ W3, (((w.alloc (.cells #[.slice an nodes.length cn, .slice ai ins.length ci, .slice af flows.length cf, .slice ao outs.length co] 27)).alloc (.cells #[.int .i64 k, .string nm, .int .i64 n, .int .i64 d, .slice (some ⟨b, o, none⟩) (tl.len + 1) cap, .int .i64 a] 39)).alloc (.cells #[.int .i64 0, .int .i64 0] 43)) = W3 := ⟨_, rfl⟩
  rw [hW3] at HC ⊢
  clear hW3
  have hb3 := HC.out.below
  have l3 := HC.out.lt
  have l2 : w.heap.size + 1 < W3.heap.size := by omega
  have l1 : w.heap.size < W3.heap.size := by omega
  have h3_0 := HC.out.pbox
  unfold PBox at h3_0
  simp only at h3_0
  obtain ⟨⟨z0, z1, z2, z3⟩, zf⟩ := cells4 h3_0
  have h3_1 := HC.out.ebox
  simp only [hln] at h3_1
  obtain ⟨⟨e0, e1, e2, e3, e4, e5⟩, ef⟩ := cells6' h3_1
  clear h3_0 h3_1
  have yc : ∀ o, W3.cell? ⟨b, o, none⟩ = w.cell? ⟨b, o, none⟩ := fun o => hb3.cell (p := ⟨b, o, none⟩) hb
  rw [← yc] at y0 y1 y2 y3 y4 y5
  clear yc
  have hbw : b < W3.heap.size := Nat.lt_of_lt_of_le hb hb3.size
  have HB3 := Lib.hid hb3
  clear hb3
  go_cut [9, 10] from 49 to 58 (fun s9 s10 W => Hid (K9 w ⟨nodes, ins, flows, outs⟩ an ai af ao cn ci cf co ⟨k, nm, n, d, .cons k9 nm9 n9 d9 args9 a9 tl, a⟩ (some ⟨b, o, none⟩) cap r9 s9 s10 W))
  case first =>
    go_region_with (go_at_call 11; go_loud (refine (HIC.out _ (by repeat (first | (with_reducible exact Below.refl _ _) | ((with_reducible refine below_setAt ?_ ?_ _); (rotate_left; focus (first | omega | (simp; done) | (simp; omega)))) | ((with_reducible refine Below.alloc ?_ ?_ _); (rotate_left; focus (first | omega | (simp; done) | (simp; omega)))) | (with_reducible refine below_drewN ?_ _) | (with_reducible refine Below.drew ?_) | ((with_reducible refine Below.trans ?_ (Below.mono HB3.out ?_)); (rotate_left; focus (first | omega | (simp; done) | (simp; omega))))))).mono ?_; rintro x w2 ⟨⟨p9, f9, b9, rfl, hr9⟩, hb2⟩; have s2 : W3.heap.size ≤ w2.heap.size := (by have := hb2.size; simp at this; omega); try (have q0 : w2.cell? ⟨W3.heap.size, 0, none⟩ = some (.int .i64 0) := (hb2.cell (p := ⟨W3.heap.size, 0, none⟩) (by simp)).trans (by go_simp); have q1 : w2.cell? ⟨W3.heap.size, 1, none⟩ = some (.int .i64 0) := (hb2.cell (p := ⟨W3.heap.size, 1, none⟩) (by simp)).trans (by go_simp); have q2 : w2.frozen? ⟨W3.heap.size, 0, none⟩ = false := (hb2.frozen (p := ⟨W3.heap.size, 0, none⟩) (by simp)).trans (by go_simp); have q3 : w2.frozen? ⟨W3.heap.size, 1, none⟩ = false := (hb2.frozen (p := ⟨W3.heap.size, 1, none⟩) (by simp)).trans (by go_simp); have s3 : W3.heap.size < w2.heap.size := sz_of hb2 (by first | omega | (simp; done) | (simp; omega)))))
    all_goals
      go_wp2_with fail
      go_meet
      first
        | exact ⟨w2.heap.size, p9, f9, b9, rfl, rfl, hr9, ((HC.out.drew).keep hb2).alloc _, by omega, by simp, by go_simp, by go_simp⟩
        | exact ⟨W3.heap.size, p9, f9, b9, rfl, rfl, hr9, ((((HC.out.alloc _).drew).keep hb2).set (by omega) _).set (by omega) _, by omega, by simp; omega, by go_simp, by go_simp⟩
  case rest =>
    obtain ⟨b9, p9, f9, b1, rfl, rfl, hr, hcw, hb9, hb9l, c0, c1⟩ := hcut.out
    have HCW := Lib.hid hcw
    have HR := Lib.hid hr
    clear hcut z0 z1 z2 z3 zf e0 e1 e2 e3 e4 e5 ef y0 y1 y2 y3 y4 y5 HC HB3 l1 l2 l3 hbw HIC hr
    have h3_0 := hcw.ebox
    simp only [hln] at h3_0
    obtain ⟨⟨e0, e1, e2, e3, e4, e5⟩, ef⟩ := cells6' h3_0
    obtain ⟨⟨r0, r1⟩, ⟨rf0, rf1⟩, rl⟩ := cells2c hcw.rbox
    have l2 : w.heap.size + 1 < wc.heap.size := by omega
    have l1 : w.heap.size < wc.heap.size := by omega
    clear h3_0 hcw
    cases b1 with
    | false =>
      go_wp2
      exact bodyPost_ret (v := .tuple #[.agg #[.int .i64 0, .int .i64 0], .bool false]) (by simp only [results, Try.results11]; go_simp) rfl ⟨⟨0, 0, false, rfl, by rw [HR.out]; unfold rclk1; rw [if_neg HK.out.1]; rfl⟩, (by repeat (first | (with_reducible exact Below.refl _ _) | ((with_reducible refine below_setAt ?_ ?_ _); (rotate_left; focus (first | omega | (simp; done) | (simp; omega)))) | ((with_reducible refine Below.alloc ?_ ?_ _); (rotate_left; focus (first | omega | (simp; done) | (simp; omega)))) | (with_reducible refine below_drewN ?_ _) | (with_reducible refine Below.drew ?_) | ((with_reducible refine Below.trans ?_ (Below.mono HCW.out.below ?_)); (rotate_left; focus (first | omega | (simp; done) | (simp; omega))))))⟩
    | true =>
      have HAP := Lib.hid (fun w => clock.refApply_any p9 f9 k n d w)
      rcases hap : clock.applyP p9 f9 k n d with ⟨P, F, E⟩
      rw [hap] at HAP
      simp only [clock.ansT, clock.ansC] at HAP
      have hfin : Hid (rclk1 (envC ⟨nodes, ins, flows, outs⟩ C) k nm n d (r9 :: rs) = (if (E == 0) = true then some (P, F) else none)) := by
        show _ = _
        rw [HR.out]
        unfold rclk1
        rw [if_neg HK.out.1]
        simp only [if_true, if_neg HK.out.2, hap, beq_iff_eq]
      clear hap
      go_wp2_with (go_at_call 28; go_loud (refine (HAP.out _).mono ?_; rintro x w3 ⟨rfl, hb3⟩; have s3 : wc.heap.size ≤ w3.heap.size := hb3.size; have t0 : w.heap.size + 1 + 1 < w3.heap.size := (by omega); have HC3 := Lib.hid (HCW.out.keep hb3); obtain ⟨⟨v0, v1⟩, ⟨vf0, vf1⟩, vl⟩ := cells2c HC3.out.rbox))
      exact bodyPost_ret (v := .tuple #[.agg #[.int .i64 P, .int .i64 F], .bool (E == 0)]) (by simp only [results, Try.results11]; go_simp) rfl ⟨⟨P, F, E == 0, rfl, hfin.out⟩, (by repeat (first | (with_reducible exact Below.refl _ _) | ((with_reducible refine below_setAt ?_ ?_ _); (rotate_left; focus (first | omega | (simp; done) | (simp; omega)))) | ((with_reducible refine Below.alloc ?_ ?_ _); (rotate_left; focus (first | omega | (simp; done) | (simp; omega)))) | (with_reducible refine below_drewN ?_ _) | (with_reducible refine Below.drew ?_) | ((with_reducible refine Below.trans ?_ (Below.mono HC3.out.below ?_)); (rotate_left; focus (first | omega | (simp; done) | (simp; omega))))))⟩
end Go.Proofs.Ytjcmjlkihfcdcaa.rclk
