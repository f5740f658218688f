/-
  The reference's Clock of a call.
-/
import Derived.Test.YtjcmjlkihfcdcaaRef6k2
namespace Go.Proofs.Ytjcmjlkihfcdcaa.rclk
open Go.RowKit syn
set_option linter.unusedVariables false
set_option linter.unusedSimpArgs false

def CkRel (w : World) (p : PG) (an ai af ao : Option Addr) (cn ci cf co : Nat) (C : List (Int × Int)) (e : PE) (ad : Option Addr) (cap : Nat) (b9 : Nat) (p9 f9 : Int) (A : Bool) (v10 v11 : Value) (wr : World) : Prop :=
  ∃ (i : Nat) (rest : PL) (b : Bool), v11 = .int .i64 (i : Int) ∧ v10 = .bool b ∧ 1 ≤ i ∧ RestP wr ad e.args rest i ∧ (b && (rclkL (envC p C) rest).all (fun x => decide (x = some (p9, f9)))) = A ∧
    exR rest = true ∧ nmL p rest = true ∧ ahL p ((p.ins.length : Int) + (C.length : Int)) rest = true ∧ CW w p an ai af ao cn ci cf co e ad cap wr ∧ w.heap.size + 1 + 1 < b9 ∧ b9 < wr.heap.size ∧
    wr.cell? ⟨b9, 0, none⟩ = some (.int .i64 p9) ∧ wr.cell? ⟨b9, 1, none⟩ = some (.int .i64 f9)
theorem cell_keep {wr W : World} (hb : Below wr.heap.size wr W) {b o : Nat} {v : Value} (hlt : b < wr.heap.size) (h : wr.cell? ⟨b, o, none⟩ = some v) : W.cell? ⟨b, o, none⟩ = some v := (hb.cell (p := ⟨b, o, none⟩) hlt).trans h
/-- What the call of a further argument leaves. -/
def K12 (w : World) (p : PG) (an ai af ao : Option Addr) (cn ci cf co : Nat) (e : PE) (ad : Option Addr) (cap : Nat) (wr : World) (b9 : Nat) (p9 f9 : Int) (r : Option (Int × Int)) (s12 s13 : Value) (W : World) : Prop :=
  ∃ (b2 : Nat) (p2 f2 : Int) (b : Bool), s12 = .pointer (some ⟨b2, 0, none⟩) ∧ s13 = .bool b ∧ r = (if b = true then some (p2, f2) else none) ∧ CW w p an ai af ao cn ci cf co e ad cap W ∧ Below wr.heap.size wr W ∧
    W.cell? ⟨b2, 0, none⟩ = some (.int .i64 p2) ∧ W.cell? ⟨b2, 1, none⟩ = some (.int .i64 f2) ∧ W.cell? ⟨b9, 0, none⟩ = some (.int .i64 p9) ∧ W.cell? ⟨b9, 1, none⟩ = some (.int .i64 f9)

theorem K12.make {w : World} {p : PG} {an ai af ao : Option Addr} {cn ci cf co : Nat} {e : PE} {ad : Option Addr} {cap : Nat} {wr W : World} {b9 : Nat} {p9 f9 : Int} {r : Option (Int × Int)} {b2 : Nat} {p2 f2 : Int} {b : Bool} (hr : r = (if b = true then some (p2, f2) else none))
    (hcw : CW w p an ai af ao cn ci cf co e ad cap wr) (hb : Below wr.heap.size wr W) (hlt : b9 < wr.heap.size) (hc : wr.cell? ⟨b9, 0, none⟩ = some (.int .i64 p9) ∧ wr.cell? ⟨b9, 1, none⟩ = some (.int .i64 f9)) (h0 : W.cell? ⟨b2, 0, none⟩ = some (.int .i64 p2)) (h1 : W.cell? ⟨b2, 1, none⟩ = some (.int .i64 f2)) :
    K12 w p an ai af ao cn ci cf co e ad cap wr b9 p9 f9 r (.pointer (some ⟨b2, 0, none⟩)) (.bool b) W :=
  ⟨b2, p2, f2, b, rfl, rfl, hr, hcw.keep hb, hb, h0, h1, cell_keep hb hlt hc.1, cell_keep hb hlt hc.2⟩

set_option maxRecDepth 100000 in
set_option maxHeartbeats 8000000 in
theorem clock_call (nodes : List ND) (ins : List IN) (flows : List FL) (outs : List OU) (an ai af ao : Option Addr) (cn ci cf co : Nat) (C : List (Int × Int)) (hC : C.length ≤ 1000) (nm : ByteArray) (n d a k9 n9 d9 a9 : Int) (nm9 : ByteArray) (args9 tl : PL)
    (ih : ∀ e' : PE, e'.args.sz < (PL.cons k9 nm9 n9 d9 args9 a9 tl).sz → ClockSaid ⟨nodes, ins, flows, outs⟩ an ai af ao cn ci cf co C e') :
    ClockSaid ⟨nodes, ins, flows, outs⟩ an ai af ao cn ci cf co C ⟨2, nm, n, d, .cons k9 nm9 n9 d9 args9 a9 tl, a⟩ := by
  intro w ad cap al cl hp hae hcl hx h1 h2 h3
  obtain ⟨g1, g2, g3, g4⟩ := first_said hx h2 h3
  obtain ⟨_, hst⟩ := hae.len
  obtain ⟨_, _, hrow⟩ := RestP.start hae.args
  obtain ⟨b, o, rfl, hb, y0, y1, y2, y3, y5, hn, ⟨ad1, cap1, y4, hcap1, hcm1, hd1⟩, ht⟩ := hrow.resolve_left (by intro h; cases h)
  have HIC := Lib.hid (fun (W' : World) (h : Below w.heap.size w W') => ih ⟨k9, nm9, n9, d9, args9, a9⟩ (by simp only [PL.sz]; omega) W' ad1 cap1 al cl (hp.below h) ((show AE w ⟨k9, nm9, n9, d9, args9, a9⟩ ad1 cap1 from ⟨hn, ⟨hcap1, hcm1⟩, hd1⟩).below h) (hcl.below h (Nat.le_refl _)) g1 g2 g3 g4)
  have HC := Lib.hid (CW.new w nodes ins flows outs an ai af ao cn ci cf co 2 nm n d a (.cons k9 nm9 n9 d9 args9 a9 tl) (some ⟨b, o, none⟩) cap)
  have hln : (PL.cons k9 nm9 n9 d9 args9 a9 tl).len = tl.len + 1 := rfl
  have hl0 : (0 : Int) < ((tl.len + 1 : Nat) : Int) := by omega
  have hl1 : (0 : Int) < (tl.len : Int) + 1 := by omega
  have hl2 : 0 < tl.len + 1 := by omega
  have HRE := Lib.hid (show rclkE (envC ⟨nodes, ins, flows, outs⟩ C) ⟨2, nm, n, d, .cons k9 nm9 n9 d9 args9 a9 tl, a⟩ = rclk1 (envC ⟨nodes, ins, flows, outs⟩ C) 2 nm n d (rclkE (envC ⟨nodes, ins, flows, outs⟩ C) ⟨k9, nm9, n9, d9, args9, a9⟩ :: rclkL (envC ⟨nodes, ins, flows, outs⟩ C) tl) from rfl)
  generalize rclkE (envC ⟨nodes, ins, flows, outs⟩ C) ⟨k9, nm9, n9, d9, args9, a9⟩ = r9 at HIC HRE
  rw [HRE.out]
  simp only [hln] at HC hst ⊢
  unfold pv at HIC ⊢
  simp only at HIC ⊢
  rw [show o + 0 * 6 = o by omega] at y0 y1 y2 y3 y4 y5
  have hcond : exR tl = true ∧ nmL ⟨nodes, ins, flows, outs⟩ tl = true ∧ ahL ⟨nodes, ins, flows, outs⟩ ((ins.length : Int) + (C.length : Int)) tl = true := by
    simp only [exprOK, exR, nmL, ahE, ahL, Bool.and_eq_true] at hx h2 h3
    exact ⟨hx.1.2, h2.2, h3.2.2⟩
  have HCO := Lib.hid hcond
  have HIH := Lib.hid ih
  have HP := Lib.hid hp
  have HCL := Lib.hid hcl
  have HST := Lib.hid (RestP.start hae.args).tail
  clear ih hcond hp hae hcl hx h1 h2 h3 g1 g2 g3 g4 hrow hn ht hd1 HRE
  go_enter Try.func11, Try.ntmps11
  go_wp2
  obtain ⟨W3, hW3⟩ : ∃ W3, (((w.alloc (.cells #[.slice an nodes.length cn, .slice ai ins.length ci, .slice af flows.length cf, .slice ao outs.length co] 27)).alloc (.cells #[.int .i64 2, .string nm, .int .i64 n, .int .i64 d, .slice (some ⟨b, o, none⟩) (tl.len + 1) cap, .int .i64 a] 39)).alloc (.cells #[.int .i64 0, .int .i64 0] 43)) = W3 := ⟨_, rfl⟩
  rw [hW3] at HC ⊢
  clear hW3
  have hb3 := HC.out.below
  have l3 := HC.out.lt
  have l2 : w.heap.size + 1 < W3.heap.size := by omega
  have l1 : w.heap.size < W3.heap.size := by omega
  have h3_0 := HC.out.pbox
  unfold PBox at h3_0
  simp only at h3_0
  obtain ⟨⟨z0, z1, z2, z3⟩, zf⟩ := cells4 h3_0
  have h3_1 := HC.out.ebox
  simp only [hln] at h3_1
  obtain ⟨⟨e0, e1, e2, e3, e4, e5⟩, ef⟩ := cells6' h3_1
  clear h3_0 h3_1
  have yc : ∀ o, W3.cell? ⟨b, o, none⟩ = w.cell? ⟨b, o, none⟩ := fun o => hb3.cell (p := ⟨b, o, none⟩) hb
  rw [← yc] at y0 y1 y2 y3 y4 y5
  clear yc
  have hbw : b < W3.heap.size := Nat.lt_of_lt_of_le hb hb3.size
  have HB3 := Lib.hid hb3
  clear hb3
  go_cut [9, 10] from 49 to 58 (fun s9 s10 W => Hid (K9 w ⟨nodes, ins, flows, outs⟩ an ai af ao cn ci cf co ⟨2, nm, n, d, .cons k9 nm9 n9 d9 args9 a9 tl, a⟩ (some ⟨b, o, none⟩) cap r9 s9 s10 W))
  case first =>
    go_region_with (go_at_call 11; go_loud (refine (HIC.out _ (by repeat (first | (with_reducible exact Below.refl _ _) | ((with_reducible refine below_setAt ?_ ?_ _); (rotate_left; focus (first | omega | (simp; done) | (simp; omega)))) | ((with_reducible refine Below.alloc ?_ ?_ _); (rotate_left; focus (first | omega | (simp; done) | (simp; omega)))) | (with_reducible refine below_drewN ?_ _) | (with_reducible refine Below.drew ?_) | ((with_reducible refine Below.trans ?_ (Below.mono HB3.out ?_)); (rotate_left; focus (first | omega | (simp; done) | (simp; omega))))))).mono ?_; rintro x w2 ⟨⟨p9, f9, b9, rfl, hr9⟩, hb2⟩; have s2 : W3.heap.size ≤ w2.heap.size := (by have := hb2.size; simp at this; omega); try (have q0 : w2.cell? ⟨W3.heap.size, 0, none⟩ = some (.int .i64 0) := (hb2.cell (p := ⟨W3.heap.size, 0, none⟩) (by simp)).trans (by go_simp); have q1 : w2.cell? ⟨W3.heap.size, 1, none⟩ = some (.int .i64 0) := (hb2.cell (p := ⟨W3.heap.size, 1, none⟩) (by simp)).trans (by go_simp); have q2 : w2.frozen? ⟨W3.heap.size, 0, none⟩ = false := (hb2.frozen (p := ⟨W3.heap.size, 0, none⟩) (by simp)).trans (by go_simp); have q3 : w2.frozen? ⟨W3.heap.size, 1, none⟩ = false := (hb2.frozen (p := ⟨W3.heap.size, 1, none⟩) (by simp)).trans (by go_simp); have s3 : W3.heap.size < w2.heap.size := sz_of hb2 (by first | omega | (simp; done) | (simp; omega)))))
    all_goals
      go_wp2_with fail
      go_meet
      first
        | exact ⟨w2.heap.size, p9, f9, b9, rfl, rfl, hr9, ((HC.out.drew).keep hb2).alloc _, by omega, by simp, by go_simp, by go_simp⟩
        | exact ⟨W3.heap.size, p9, f9, b9, rfl, rfl, hr9, ((((HC.out.alloc _).drew).keep hb2).set (by omega) _).set (by omega) _, by omega, by simp; omega, by go_simp, by go_simp⟩
  case rest =>
    obtain ⟨b9, p9, f9, b1, rfl, rfl, hr, hcw, hb9, hb9l, c0, c1⟩ := hcut.out
    have HCW := Lib.hid hcw
    have HR := Lib.hid hr
    obtain ⟨A, hA⟩ : ∃ A : Bool, (b1 && (rclkL (envC ⟨nodes, ins, flows, outs⟩ C) tl).all (fun x => decide (x = some (p9, f9)))) = A := ⟨_, rfl⟩
    have hfin : Hid (rclk1 (envC ⟨nodes, ins, flows, outs⟩ C) 2 nm n d (r9 :: rclkL (envC ⟨nodes, ins, flows, outs⟩ C) tl) = (if A = true then some (p9, f9) else none)) := by
      show _ = _
      rw [hr, ← hA]
      unfold rclk1
      rw [if_neg (by decide)]
      cases b1 <;> simp
    have HAA := Lib.hid hA
    clear hcut z0 z1 z2 z3 zf e0 e1 e2 e3 e4 e5 ef y0 y1 y2 y3 y4 y5 HC HB3 l1 l2 l3 hbw HIC hr hA
    have HC0 := Lib.hid (And.intro c0 c1)
    have h3_0 := hcw.ebox
    simp only [hln] at h3_0
    obtain ⟨⟨e0, e1, e2, e3, e4, e5⟩, ef⟩ := cells6' h3_0
    have l2 : w.heap.size + 1 < wc.heap.size := by omega
    have l1 : w.heap.size < wc.heap.size := by omega
    clear h3_0 hcw c0 c1
    go_wp2
    go_loopw [10, 11] (fun v10 v11 wr => Hid (CkRel w ⟨nodes, ins, flows, outs⟩ an ai af ao cn ci cf co C ⟨2, nm, n, d, .cons k9 nm9 n9 d9 args9 a9 tl, a⟩ (some ⟨b, o, none⟩) cap b9 p9 f9 A v10 v11 wr)) (fun _ i _ => tl.len + 1 - (intOf i).toNat)
    case atStart =>
      exact ⟨1, tl, b1, rfl, rfl, Nat.le_refl _, (HST.out.below HCW.out.below), HAA.out, HCO.out.1, HCO.out.2.1, HCO.out.2.2, HCW.out, hb9, hb9l, HC0.out.1, HC0.out.2⟩
    case round =>
      clear e0 e1 e2 e3 e4 e5 ef l1 l2 hb9l HCW HC0 HAA HST
      obtain ⟨i, rest, bq, rfl, rfl, hi1, hrest, hAq, hx1, hx2, hx3, hcw, _, hb9l, c0, c1⟩ := hrel.out
      clear hrel
      have HCW := Lib.hid hcw
      have HAQ := Lib.hid hAq
      have HRS := Lib.hid hrest
      have HXX := Lib.hid (And.intro hx1 (And.intro hx2 hx3))
      have HC0 := Lib.hid (And.intro c0 c1)
      have h3_0 := hcw.ebox
      simp only [hln] at h3_0
      obtain ⟨⟨e0, e1, e2, e3, e4, e5⟩, ef⟩ := cells6' h3_0
      obtain ⟨⟨r0, r1⟩, ⟨rf0, rf1⟩, rl⟩ := cells2c hcw.rbox
      have h3_1 := hcw.pbox
      unfold PBox at h3_1
      simp only at h3_1
      obtain ⟨⟨z0, z1, z2, z3⟩, zf⟩ := cells4 h3_1
      have l2 : w.heap.size + 1 < wr.heap.size := by omega
      have l1 : w.heap.size < wr.heap.size := by omega
      have hil := hrest.1
      simp only [hln] at hil
      clear h3_0 h3_1 hcw hAq hrest hx1 hx2 hx3
      cases rest with
      | nil =>
        have hil' : decide ((i : Int) < ((tl.len + 1 : Nat) : Int)) = false := decide_eq_false (by simp only [PL.len] at hil; omega)
        have hil2 : decide ((i : Int) < (tl.len : Int) + 1) = false := decide_eq_false (by simp only [PL.len] at hil; omega)
        have hAb : bq = A := by have := HAQ.out; simp only [rclkL, List.all_nil, Bool.and_true] at this; exact this
        subst hAb
        go_wp2
        exact bodyPost_ret (v := .tuple #[.agg #[.int .i64 p9, .int .i64 f9], .bool bq]) (by simp only [results, Try.results11]; go_simp) rfl ⟨⟨p9, f9, bq, rfl, hfin.out⟩, (by repeat (first | (with_reducible exact Below.refl _ _) | ((with_reducible refine below_setAt ?_ ?_ _); (rotate_left; focus (first | omega | (simp; done) | (simp; omega)))) | ((with_reducible refine Below.alloc ?_ ?_ _); (rotate_left; focus (first | omega | (simp; done) | (simp; omega)))) | (with_reducible refine below_drewN ?_ _) | (with_reducible refine Below.drew ?_) | ((with_reducible refine Below.trans ?_ (Below.mono HCW.out.below ?_)); (rotate_left; focus (first | omega | (simp; done) | (simp; omega))))))⟩
      | cons k8 nm8 n8 d8 args8 a8 tl8 =>
        have hil' : (i : Int) < ((tl.len + 1 : Nat) : Int) := by simp only [PL.len] at hil; omega
        have hil2 : (i : Int) < (tl.len : Int) + 1 := by simp only [PL.len] at hil; omega
        cases bq with
        | false =>
          have hAb : false = A := by have := HAQ.out; rw [Bool.false_and] at this; exact this
          subst hAb
          go_wp2
          exact bodyPost_ret (v := .tuple #[.agg #[.int .i64 p9, .int .i64 f9], .bool false]) (by simp only [results, Try.results11]; go_simp) rfl ⟨⟨p9, f9, false, rfl, hfin.out⟩, (by repeat (first | (with_reducible exact Below.refl _ _) | ((with_reducible refine below_setAt ?_ ?_ _); (rotate_left; focus (first | omega | (simp; done) | (simp; omega)))) | ((with_reducible refine Below.alloc ?_ ?_ _); (rotate_left; focus (first | omega | (simp; done) | (simp; omega)))) | (with_reducible refine below_drewN ?_ _) | (with_reducible refine Below.drew ?_) | ((with_reducible refine Below.trans ?_ (Below.mono HCW.out.below ?_)); (rotate_left; focus (first | omega | (simp; done) | (simp; omega))))))⟩
        | true =>
          obtain ⟨b', o', hbo, hb, y0, y1, y2, y3, y5, hn, ⟨ad8, cap8, y4, hcap8, hcm8, hd8⟩, ht⟩ := HRS.out.2.2.resolve_left (by intro h; cases h)
          injection hbo with hbo; injection hbo with q1_ q2_; subst q1_; subst q2_
          have hsz8 := HRS.out.2.1
          simp only [PL.sz] at hsz8
          obtain ⟨gx1, gx2, gx3⟩ := HXX.out
          simp only [exR, nmL, ahL, Bool.and_eq_true] at gx1 gx2 gx3
          have HIC := Lib.hid (fun (W' : World) (h : Below w.heap.size w W') (h' : Below wr.heap.size wr W') => HIH.out ⟨k8, nm8, n8, d8, args8, a8⟩ (by simp only [PL.sz]; omega) W' ad8 cap8 al cl (HP.out.below h) ((show AE wr ⟨k8, nm8, n8, d8, args8, a8⟩ ad8 cap8 from ⟨hn, ⟨hcap8, hcm8⟩, hd8⟩).below h') (HCL.out.below h (Nat.le_refl _)) (by simp only [exprOK, Bool.and_eq_true]; exact gx1.1) gx2.1.1 gx2.1.2 (by simp only [ahE, Bool.and_eq_true]; exact gx3.1))
          have hAe : Hid ((decide (rclkE (envC ⟨nodes, ins, flows, outs⟩ C) ⟨k8, nm8, n8, d8, args8, a8⟩ = some (p9, f9)) && (rclkL (envC ⟨nodes, ins, flows, outs⟩ C) tl8).all (fun x => decide (x = some (p9, f9)))) = A) := by
            have := HAQ.out
            rw [Bool.true_and] at this
            exact this
          generalize rclkE (envC ⟨nodes, ins, flows, outs⟩ C) ⟨k8, nm8, n8, d8, args8, a8⟩ = r8 at HIC hAe
          have HX8 := Lib.hid (And.intro gx1.2 (And.intro gx2.2 gx3.2))
          unfold pv at HIC
          simp only at HIC
          clear gx1 gx2 gx3 hn hd8 ht HAQ
          go_wp2
          go_cut [12, 13] from 62 to 88 (fun s12 s13 W => Hid (K12 w ⟨nodes, ins, flows, outs⟩ an ai af ao cn ci cf co ⟨2, nm, n, d, .cons k9 nm9 n9 d9 args9 a9 tl, a⟩ (some ⟨b, o, none⟩) cap wr b9 p9 f9 r8 s12 s13 W))
          case first =>
            go_region_with (go_at_call 11; go_loud (refine (HIC.out _ (by repeat (first | (with_reducible exact Below.refl _ _) | ((with_reducible refine below_setAt ?_ ?_ _); (rotate_left; focus (first | omega | (simp; done) | (simp; omega)))) | ((with_reducible refine Below.alloc ?_ ?_ _); (rotate_left; focus (first | omega | (simp; done) | (simp; omega)))) | (with_reducible refine below_drewN ?_ _) | (with_reducible refine Below.drew ?_) | ((with_reducible refine Below.trans ?_ (Below.mono HCW.out.below ?_)); (rotate_left; focus (first | omega | (simp; done) | (simp; omega)))))) (by repeat (first | (with_reducible exact Below.refl _ _) | ((with_reducible refine below_setAt ?_ ?_ _); (rotate_left; focus (first | omega | (simp; done) | (simp; omega)))) | ((with_reducible refine Below.alloc ?_ ?_ _); (rotate_left; focus (first | omega | (simp; done) | (simp; omega)))) | (with_reducible refine below_drewN ?_ _) | (with_reducible refine Below.drew ?_)))).mono ?_; rintro x w2 ⟨⟨p2, f2, b2, rfl, hr2⟩, hb2⟩; have s2 : wr.heap.size ≤ w2.heap.size := (by have := hb2.size; simp at this; omega); try (have q0 : w2.cell? ⟨wr.heap.size, 0, none⟩ = some (.int .i64 0) := (hb2.cell (p := ⟨wr.heap.size, 0, none⟩) (by simp)).trans (by go_simp); have q1 : w2.cell? ⟨wr.heap.size, 1, none⟩ = some (.int .i64 0) := (hb2.cell (p := ⟨wr.heap.size, 1, none⟩) (by simp)).trans (by go_simp); have q2 : w2.frozen? ⟨wr.heap.size, 0, none⟩ = false := (hb2.frozen (p := ⟨wr.heap.size, 0, none⟩) (by simp)).trans (by go_simp); have q3 : w2.frozen? ⟨wr.heap.size, 1, none⟩ = false := (hb2.frozen (p := ⟨wr.heap.size, 1, none⟩) (by simp)).trans (by go_simp); have s3 : wr.heap.size < w2.heap.size := sz_of hb2 (by first | omega | (simp; done) | (simp; omega)))))
            all_goals
              go_wp2_with fail
              go_meet
              first
                | exact K12.make (b2 := w2.heap.size) (p2 := p2) (f2 := f2) (b := b2) hr2 HCW.out (by repeat (first | (with_reducible exact Below.refl _ _) | ((with_reducible refine below_setAt ?_ ?_ _); (rotate_left; focus (first | omega | (simp; done) | (simp; omega)))) | ((with_reducible refine Below.alloc ?_ ?_ _); (rotate_left; focus (first | omega | (simp; done) | (simp; omega)))) | (with_reducible refine below_drewN ?_ _) | (with_reducible refine Below.drew ?_) | ((with_reducible refine Below.trans ?_ (Below.mono hb2 ?_)); (rotate_left; focus (first | omega | (simp; done) | (simp; omega)))))) hb9l HC0.out (by go_simp) (by go_simp)
                | exact K12.make (b2 := wr.heap.size) (p2 := p2) (f2 := f2) (b := b2) hr2 HCW.out (by repeat (first | (with_reducible exact Below.refl _ _) | ((with_reducible refine below_setAt ?_ ?_ _); (rotate_left; focus (first | omega | (simp; done) | (simp; omega)))) | ((with_reducible refine Below.alloc ?_ ?_ _); (rotate_left; focus (first | omega | (simp; done) | (simp; omega)))) | (with_reducible refine below_drewN ?_ _) | (with_reducible refine Below.drew ?_) | ((with_reducible refine Below.trans ?_ (Below.mono hb2 ?_)); (rotate_left; focus (first | omega | (simp; done) | (simp; omega)))))) hb9l HC0.out (by go_simp) (by go_simp)
          case rest =>
            obtain ⟨b2, p2, f2, bz, rfl, rfl, hr2, hcw2, hbw2, u0, u1, c0', c1'⟩ := hcut.out
            have HCW2 := Lib.hid hcw2
            have HBW2 := Lib.hid hbw2
            have HC2 := Lib.hid (And.intro c0' c1')
            clear hcut z0 z1 z2 z3 zf e0 e1 e2 e3 e4 e5 ef y0 y1 y2 y3 y4 y5 r0 r1 rf0 rf1 rl c0 c1 l1 l2 HIC hcw2 hbw2
            cases bz with
            | false =>
              have hA2 : Hid ((false && (rclkL (envC ⟨nodes, ins, flows, outs⟩ C) tl8).all (fun x => decide (x = some (p9, f9)))) = A) := by
                have h := hAe.out
                rw [hr2] at h
                exact h
              clear hr2
              go_wp2
              go_roundw
              case rel => first | exact ⟨i + 1, tl8, false, by go_num, rfl, by omega, HRS.out.tail.below HBW2.out, hA2.out, HX8.out.1, HX8.out.2.1, HX8.out.2.2, HCW2.out, hb9, Nat.lt_of_lt_of_le hb9l HBW2.out.size, HC2.out.1, HC2.out.2⟩ | ((repeat apply Exists.intro); exact ⟨⟨i + 1, tl8, false, by go_num, rfl, by omega, HRS.out.tail.below HBW2.out, hA2.out, HX8.out.1, HX8.out.2.1, HX8.out.2.2, HCW2.out, hb9, Nat.lt_of_lt_of_le hb9l HBW2.out.size, HC2.out.1, HC2.out.2⟩, rfl⟩)
              case measure => first | (simp [intOf]; done) | (simp [intOf]; omega)
            | true =>
              have hA2 : Hid ((decide (p2 = p9 ∧ f2 = f9) && (rclkL (envC ⟨nodes, ins, flows, outs⟩ C) tl8).all (fun x => decide (x = some (p9, f9)))) = A) := by
                have h := hAe.out
                rw [hr2] at h
                simp only [if_true] at h
                rw [show decide (some (p2, f2) = some (p9, f9)) = decide (p2 = p9 ∧ f2 = f9) by simp] at h
                exact h
              clear hr2 hAe
              by_cases h1 : p2 = p9
              · by_cases h2 : f2 = f9
                · rw [decide_eq_true ⟨h1, h2⟩] at hA2
                  subst h1; subst h2
                  go_wp2
                  all_goals first | exact ⟨⟨i + 1, tl8, true, by go_num, rfl, by omega, HRS.out.tail.below HBW2.out, hA2.out, HX8.out.1, HX8.out.2.1, HX8.out.2.2, HCW2.out, hb9, Nat.lt_of_lt_of_le hb9l HBW2.out.size, HC2.out.1, HC2.out.2⟩, by first | (simp [intOf]; done) | (simp [intOf]; omega)⟩ | (go_roundw; (case rel => first | exact ⟨i + 1, tl8, true, by go_num, rfl, by omega, HRS.out.tail.below HBW2.out, hA2.out, HX8.out.1, HX8.out.2.1, HX8.out.2.2, HCW2.out, hb9, Nat.lt_of_lt_of_le hb9l HBW2.out.size, HC2.out.1, HC2.out.2⟩ | ((repeat apply Exists.intro); exact ⟨⟨i + 1, tl8, true, by go_num, rfl, by omega, HRS.out.tail.below HBW2.out, hA2.out, HX8.out.1, HX8.out.2.1, HX8.out.2.2, HCW2.out, hb9, Nat.lt_of_lt_of_le hb9l HBW2.out.size, HC2.out.1, HC2.out.2⟩, rfl⟩)); (case measure => first | (simp [intOf]; done) | (simp [intOf]; omega)))
                · rw [decide_eq_false (fun h => h2 h.2)] at hA2
                  subst h1
                  go_wp2
                  all_goals first | exact ⟨⟨i + 1, tl8, false, by go_num, rfl, by omega, HRS.out.tail.below HBW2.out, hA2.out, HX8.out.1, HX8.out.2.1, HX8.out.2.2, HCW2.out, hb9, Nat.lt_of_lt_of_le hb9l HBW2.out.size, HC2.out.1, HC2.out.2⟩, by first | (simp [intOf]; done) | (simp [intOf]; omega)⟩ | (go_roundw; (case rel => first | exact ⟨i + 1, tl8, false, by go_num, rfl, by omega, HRS.out.tail.below HBW2.out, hA2.out, HX8.out.1, HX8.out.2.1, HX8.out.2.2, HCW2.out, hb9, Nat.lt_of_lt_of_le hb9l HBW2.out.size, HC2.out.1, HC2.out.2⟩ | ((repeat apply Exists.intro); exact ⟨⟨i + 1, tl8, false, by go_num, rfl, by omega, HRS.out.tail.below HBW2.out, hA2.out, HX8.out.1, HX8.out.2.1, HX8.out.2.2, HCW2.out, hb9, Nat.lt_of_lt_of_le hb9l HBW2.out.size, HC2.out.1, HC2.out.2⟩, rfl⟩)); (case measure => first | (simp [intOf]; done) | (simp [intOf]; omega)))
              · rw [decide_eq_false (fun h => h1 h.1)] at hA2
                go_wp2
                all_goals first | exact ⟨⟨i + 1, tl8, false, by go_num, rfl, by omega, HRS.out.tail.below HBW2.out, hA2.out, HX8.out.1, HX8.out.2.1, HX8.out.2.2, HCW2.out, hb9, Nat.lt_of_lt_of_le hb9l HBW2.out.size, HC2.out.1, HC2.out.2⟩, by first | (simp [intOf]; done) | (simp [intOf]; omega)⟩ | (go_roundw; (case rel => first | exact ⟨i + 1, tl8, false, by go_num, rfl, by omega, HRS.out.tail.below HBW2.out, hA2.out, HX8.out.1, HX8.out.2.1, HX8.out.2.2, HCW2.out, hb9, Nat.lt_of_lt_of_le hb9l HBW2.out.size, HC2.out.1, HC2.out.2⟩ | ((repeat apply Exists.intro); exact ⟨⟨i + 1, tl8, false, by go_num, rfl, by omega, HRS.out.tail.below HBW2.out, hA2.out, HX8.out.1, HX8.out.2.1, HX8.out.2.2, HCW2.out, hb9, Nat.lt_of_lt_of_le hb9l HBW2.out.size, HC2.out.1, HC2.out.2⟩, rfl⟩)); (case measure => first | (simp [intOf]; done) | (simp [intOf]; omega)))
end Go.Proofs.Ytjcmjlkihfcdcaa.rclk
