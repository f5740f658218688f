/-
  The law's look at names: do all stand ahead of a place?
-/
import Derived.Test.YtjcmjlkihfcdcaaRef6a
namespace Go.Proofs.Ytjcmjlkihfcdcaa.syn
open Go.RowKit
set_option linter.unusedVariables false
set_option linter.unusedSimpArgs false

def ah1 (p : PG) (most k : Int) (nm : ByteArray) : Bool := decide (k ≠ 1) || decide (flowIx p nm < most)
/-- Do all names of a row stand ahead of a place? -/
def ahL (p : PG) (most : Int) : PL → Bool
  | .nil => true
  | .cons k nm n d args a tl => (ah1 p most k nm && ahL p most args) && ahL p most tl
def ahE (p : PG) (most : Int) (e : PE) : Bool := ah1 p most e.k e.nm && ahL p most e.args
def AheadSaid (p : PG) (an ai af ao : Option Addr) (cn ci cf co : Nat) (most : Int) (e : PE) : Prop := ∀ (w : World) (ad : Option Addr) (cap : Nat), AP w p an ai af ao cn ci cf co → AE w e ad cap →
  Calls Try.prog 10 #[pv p an ai af ao cn ci cf co, .agg #[.int .i64 e.k, .string e.nm, .int .i64 e.n, .int .i64 e.d, .slice ad e.args.len cap, .int .i64 e.a], .int .i64 most] w fun x w' => x = .returned (.bool (ahE p most e)) ∧ Below w.heap.size w w'
def AhRel (w : World) (p : PG) (an ai af ao : Option Addr) (cn ci cf co : Nat) (most : Int) (e : PE) (ad : Option Addr) (cap : Nat) (v : Value) (wr : World) : Prop :=
  ∃ (i : Nat) (rest : PL), v = .int .i64 (i : Int) ∧ RestP wr ad e.args rest i ∧ ahL p most rest = ahL p most e.args ∧ PBox wr w.heap.size p an ai af ao cn ci cf co ∧
    wr.heap[w.heap.size + 1]? = some (.cells #[.int .i64 e.k, .string e.nm, .int .i64 e.n, .int .i64 e.d, .slice ad e.args.len cap, .int .i64 e.a] 39 (0, 0)) ∧ Below w.heap.size w wr

set_option maxRecDepth 100000 in
set_option maxHeartbeats 8000000 in
theorem ahead_step (p : PG) (an ai af ao : Option Addr) (cn ci cf co : Nat) (most : Int) (hl2 : p.ins.length ≤ 1000) (hl3 : p.flows.length ≤ 1000) (e : PE) (ih : ∀ e' : PE, e'.args.sz < e.args.sz → AheadSaid p an ai af ao cn ci cf co most e') : AheadSaid p an ai af ao cn ci cf co most e := by
  intro w ad cap hp hae
  obtain ⟨k, nmE, n, d, args, a⟩ := e
  have hlen := hae.len
  simp only at hlen ⊢
  have HA := Lib.hid hae
  have HIH := Lib.hid ih
  have HP := Lib.hid hp
  have HFL := Lib.hid (fun (w' : World) (h : Below w.heap.size w w') => flow_any (w := w') p an ai af ao cn ci cf co nmE (HP.out.below h) hl2 hl3)
  unfold pv at HFL ⊢
  have main : ∀ (W : World), PBox W w.heap.size p an ai af ao cn ci cf co → W.heap[w.heap.size + 1]? = some (.cells #[.int .i64 k, .string nmE, .int .i64 n, .int .i64 d, .slice ad args.len cap, .int .i64 a] 39 (0, 0)) → Below w.heap.size w W →
      AhRel w p an ai af ao cn ci cf co most ⟨k, nmE, n, d, args, a⟩ ad cap (.int .i64 0) W := fun W h1 h2 h3 => ⟨0, args, rfl, (RestP.start HA.out.args).below h3, rfl, h1, h2, h3⟩
  have HMAIN := Lib.hid main
  obtain ⟨r, hr⟩ : ∃ r, ahE p most ⟨k, nmE, n, d, args, a⟩ = r := ⟨_, rfl⟩
  rw [hr]
  have HR := Lib.hid (show (ah1 p most k nmE && ahL p most args) = r from hr)
  clear main hae ih hp hr
  by_cases hk : k = 1
  · subst hk
    by_cases hfx : flowIx p nmE < most
    · have HFX := Lib.hid hfx
      have hfx' : decide (most ≤ flowIx p nmE) = false := decide_eq_false (by omega)
      generalize hfi : flowIx p nmE = fi at HFL hfx hfx'
      clear hfi
      go_enter Try.func10, Try.ntmps10
      go_wp2_with (go_at_call 26; go_loud (refine (HFL.out _ (by repeat (first | (with_reducible exact Below.refl _ _) | ((with_reducible refine below_setAt ?_ ?_ _); (rotate_left; focus (first | omega | (simp; done) | (simp; omega)))) | ((with_reducible refine Below.alloc ?_ ?_ _); (rotate_left; focus (first | omega | (simp; done) | (simp; omega)))) | (with_reducible refine below_drewN ?_ _) | (with_reducible refine Below.drew ?_)))).mono ?_; rintro x w1 ⟨rfl, hb1⟩; obtain ⟨hc1, hf1⟩ := bcell hb1; have q1 : w.heap.size < w1.heap.size := sz_of hb1 (by first | omega | (simp; done) | (simp; omega)); have q2 : w.heap.size + 1 < w1.heap.size := sz_of hb1 (by first | omega | (simp; done) | (simp; omega))))
      have HK1 := Lib.hid (show ah1 p most 1 nmE = true from by unfold ah1; simp; exact HFX.out)
      go_loopw [7] (fun v wr => Hid (AhRel w p an ai af ao cn ci cf co most ⟨1, nmE, n, d, args, a⟩ ad cap v wr)) (fun i _ => args.len - (intOf i).toNat)
      case atStart => exact HMAIN.out _ ((hb1.block _ (by first | omega | (simp; done) | (simp; omega))).trans ((Below.heap_alloc _ _ _ (by simp)).trans (heap_new w _))) ((hb1.block _ (by first | omega | (simp; done) | (simp; omega))).trans (by simpa using heap_new (w.alloc _) _)) (by repeat (first | (with_reducible exact Below.refl _ _) | ((with_reducible refine below_setAt ?_ ?_ _); (rotate_left; focus (first | omega | (simp; done) | (simp; omega)))) | ((with_reducible refine Below.alloc ?_ ?_ _); (rotate_left; focus (first | omega | (simp; done) | (simp; omega)))) | (with_reducible refine below_drewN ?_ _) | (with_reducible refine Below.drew ?_) | ((with_reducible refine Below.trans ?_ (Below.mono hb1 ?_)); (rotate_left; focus (first | omega | (simp; done) | (simp; omega))))))
      case round =>
        obtain ⟨i, rest, rfl, hrest, hnmr, hpb, heb, hbel⟩ := hrel.out
        clear hrel
        simp only at heb hnmr
        unfold PBox at hpb
        obtain ⟨⟨z0, z1, z2, z3⟩, zf⟩ := cells4 hpb
        obtain ⟨⟨e0, e1, e2, e3, e4, e5⟩, ef⟩ := cells6' heb
        have HPB := Lib.hid hpb
        have HEB := Lib.hid heb
        have HBEL := Lib.hid hbel
        have HNR := Lib.hid hnmr
        have hil := hrest.1
        simp only at hil
        have HRS := Lib.hid hrest
        have hplt := lt_of_block hpb
        have helt := lt_of_block heb
        clear hpb heb hrest hnmr
        cases rest with
        | nil =>
          have hil' : (i : Int) = (args.len : Int) := by simp only [PL.len] at hil; omega
          have h1 : r = true := by rw [← HR.out, HK1.out, ← HNR.out]; rfl
          subst h1
          clear hbel
          go_wp2
          go_ret
          exact ⟨rfl, HBEL.out⟩
        | cons k9 nm9 n9 d9 args9 a9 tl =>
          have hil' : (i : Int) < (args.len : Int) := by simp only [PL.len] at hil; omega
          obtain ⟨b, o, rfl, hb, h0, h1, h2, h3, h5, hn, ⟨ad1, cap1, h4, hcap1, hcm1, hd1⟩, ht⟩ := HRS.out.2.2.resolve_left (by intro h; cases h)
          have hsub := HRS.out.2.1
          simp only [PL.sz] at hsub
          have HAX := Lib.hid (show AE wr ⟨k9, nm9, n9, d9, args9, a9⟩ ad1 cap1 from ⟨hn, ⟨hcap1, hcm1⟩, hd1⟩)
          have HC := Lib.hid (fun (W' : World) (hW : Below wr.heap.size wr W') => HIH.out ⟨k9, nm9, n9, d9, args9, a9⟩ (by show args9.sz < args.sz; omega) W' ad1 cap1 ((HP.out.below HBEL.out).below hW) (HAX.out.below hW))
          unfold pv at HC
          simp only at HC
          have hcons : ahL p most (.cons k9 nm9 n9 d9 args9 a9 tl) = (ahE p most ⟨k9, nm9, n9, d9, args9, a9⟩ && ahL p most tl) := rfl
          have hnn := HNR.out
          rw [hcons] at hnn
          clear hbel hn hd1 ht hcons
          cases hb2t : ahE p most ⟨k9, nm9, n9, d9, args9, a9⟩ with
          | true =>
            rw [hb2t] at HC hnn
            have HNN := Lib.hid (show ahL p most tl = ahL p most args from hnn)
            clear hnn hb2t
            go_wp2
            go_region_with (go_at_call 10; refine (HC.out _ (by repeat (first | (with_reducible exact Below.refl _ _) | ((with_reducible refine below_setAt ?_ ?_ _); (rotate_left; focus (first | omega | (simp; done) | (simp; omega)))) | ((with_reducible refine Below.alloc ?_ ?_ _); (rotate_left; focus (first | omega | (simp; done) | (simp; omega)))) | (with_reducible refine below_drewN ?_ _) | (with_reducible refine Below.drew ?_)))).mono ?_; rintro x w2 ⟨rfl, hb2⟩)
            all_goals go_wp2
            all_goals (go_roundw; (case rel => first | exact ⟨i + 1, tl, by go_num, HRS.out.tail.below (by repeat (first | (with_reducible exact Below.refl _ _) | ((with_reducible refine below_setAt ?_ ?_ _); (rotate_left; focus (first | omega | (simp; done) | (simp; omega)))) | ((with_reducible refine Below.alloc ?_ ?_ _); (rotate_left; focus (first | omega | (simp; done) | (simp; omega)))) | (with_reducible refine below_drewN ?_ _) | (with_reducible refine Below.drew ?_) | ((with_reducible refine Below.trans ?_ (Below.mono hb2 ?_)); (rotate_left; focus (first | omega | (simp; done) | (simp; omega)))))), HNN.out, (hb2.block _ hplt).trans HPB.out, (hb2.block _ helt).trans HEB.out, (by repeat (first | (with_reducible exact Below.refl _ _) | ((with_reducible refine below_setAt ?_ ?_ _); (rotate_left; focus (first | omega | (simp; done) | (simp; omega)))) | ((with_reducible refine Below.alloc ?_ ?_ _); (rotate_left; focus (first | omega | (simp; done) | (simp; omega)))) | (with_reducible refine below_drewN ?_ _) | (with_reducible refine Below.drew ?_) | ((with_reducible refine Below.trans ?_ (Below.mono hb2 ?_)); (rotate_left; focus (first | omega | (simp; done) | (simp; omega)))) | ((with_reducible refine Below.trans ?_ (Below.mono HBEL.out ?_)); (rotate_left; focus (first | omega | (simp; done) | (simp; omega))))))⟩ | ((repeat apply Exists.intro); exact ⟨⟨i + 1, tl, by go_num, HRS.out.tail.below (by repeat (first | (with_reducible exact Below.refl _ _) | ((with_reducible refine below_setAt ?_ ?_ _); (rotate_left; focus (first | omega | (simp; done) | (simp; omega)))) | ((with_reducible refine Below.alloc ?_ ?_ _); (rotate_left; focus (first | omega | (simp; done) | (simp; omega)))) | (with_reducible refine below_drewN ?_ _) | (with_reducible refine Below.drew ?_) | ((with_reducible refine Below.trans ?_ (Below.mono hb2 ?_)); (rotate_left; focus (first | omega | (simp; done) | (simp; omega)))))), HNN.out, (hb2.block _ hplt).trans HPB.out, (hb2.block _ helt).trans HEB.out, (by repeat (first | (with_reducible exact Below.refl _ _) | ((with_reducible refine below_setAt ?_ ?_ _); (rotate_left; focus (first | omega | (simp; done) | (simp; omega)))) | ((with_reducible refine Below.alloc ?_ ?_ _); (rotate_left; focus (first | omega | (simp; done) | (simp; omega)))) | (with_reducible refine below_drewN ?_ _) | (with_reducible refine Below.drew ?_) | ((with_reducible refine Below.trans ?_ (Below.mono hb2 ?_)); (rotate_left; focus (first | omega | (simp; done) | (simp; omega)))) | ((with_reducible refine Below.trans ?_ (Below.mono HBEL.out ?_)); (rotate_left; focus (first | omega | (simp; done) | (simp; omega))))))⟩, rfl⟩)); (case measure => simp [intOf]; omega))
          | false =>
            rw [hb2t] at HC hnn
            have h1 : r = false := by rw [← HR.out, HK1.out, ← hnn]; rfl
            subst h1
            clear hnn hb2t
            go_wp2
            go_region_with (go_at_call 10; refine (HC.out _ (by repeat (first | (with_reducible exact Below.refl _ _) | ((with_reducible refine below_setAt ?_ ?_ _); (rotate_left; focus (first | omega | (simp; done) | (simp; omega)))) | ((with_reducible refine Below.alloc ?_ ?_ _); (rotate_left; focus (first | omega | (simp; done) | (simp; omega)))) | (with_reducible refine below_drewN ?_ _) | (with_reducible refine Below.drew ?_)))).mono ?_; rintro x w2 ⟨rfl, hb2⟩)
            all_goals go_wp2
            all_goals (go_ret; exact ⟨rfl, (by repeat (first | (with_reducible exact Below.refl _ _) | ((with_reducible refine below_setAt ?_ ?_ _); (rotate_left; focus (first | omega | (simp; done) | (simp; omega)))) | ((with_reducible refine Below.alloc ?_ ?_ _); (rotate_left; focus (first | omega | (simp; done) | (simp; omega)))) | (with_reducible refine below_drewN ?_ _) | (with_reducible refine Below.drew ?_) | ((with_reducible refine Below.trans ?_ (Below.mono hb2 ?_)); (rotate_left; focus (first | omega | (simp; done) | (simp; omega)))) | ((with_reducible refine Below.trans ?_ (Below.mono HBEL.out ?_)); (rotate_left; focus (first | omega | (simp; done) | (simp; omega))))))⟩)
    · have hfx0 : most ≤ flowIx p nmE := by omega
      have h1 : r = false := by rw [← HR.out]; unfold ah1; rw [decide_eq_false hfx]; rfl
      subst h1
      have hfx' : decide (most ≤ flowIx p nmE) = true := decide_eq_true hfx0
      generalize hfi : flowIx p nmE = fi at HFL hfx0 hfx hfx'
      clear hfi
      go_enter Try.func10, Try.ntmps10
      go_wp2_with (go_at_call 26; go_loud (refine (HFL.out _ (by repeat (first | (with_reducible exact Below.refl _ _) | ((with_reducible refine below_setAt ?_ ?_ _); (rotate_left; focus (first | omega | (simp; done) | (simp; omega)))) | ((with_reducible refine Below.alloc ?_ ?_ _); (rotate_left; focus (first | omega | (simp; done) | (simp; omega)))) | (with_reducible refine below_drewN ?_ _) | (with_reducible refine Below.drew ?_)))).mono ?_; rintro x w1 ⟨rfl, hb1⟩; obtain ⟨hc1, hf1⟩ := bcell hb1; have q1 : w.heap.size < w1.heap.size := sz_of hb1 (by first | omega | (simp; done) | (simp; omega)); have q2 : w.heap.size + 1 < w1.heap.size := sz_of hb1 (by first | omega | (simp; done) | (simp; omega))))
      go_ret
      exact ⟨rfl, (by repeat (first | (with_reducible exact Below.refl _ _) | ((with_reducible refine below_setAt ?_ ?_ _); (rotate_left; focus (first | omega | (simp; done) | (simp; omega)))) | ((with_reducible refine Below.alloc ?_ ?_ _); (rotate_left; focus (first | omega | (simp; done) | (simp; omega)))) | (with_reducible refine below_drewN ?_ _) | (with_reducible refine Below.drew ?_) | ((with_reducible refine Below.trans ?_ (Below.mono hb1 ?_)); (rotate_left; focus (first | omega | (simp; done) | (simp; omega))))))⟩
  · have hk' : (k == 1) = false := beq_eq_false_iff_ne.2 hk
    have HKN := Lib.hid hk
    clear hk
    go_enter Try.func10, Try.ntmps10
    go_wp2
    have HK1 := Lib.hid (show ah1 p most k nmE = true from by unfold ah1; simp [HKN.out])
    go_loopw [7] (fun v wr => Hid (AhRel w p an ai af ao cn ci cf co most ⟨k, nmE, n, d, args, a⟩ ad cap v wr)) (fun i _ => args.len - (intOf i).toNat)
    case atStart => exact HMAIN.out _ ((Below.heap_alloc _ _ _ (by simp)).trans (heap_new w _)) (by simpa using heap_new (w.alloc _) _) (by repeat (first | (with_reducible exact Below.refl _ _) | ((with_reducible refine below_setAt ?_ ?_ _); (rotate_left; focus (first | omega | (simp; done) | (simp; omega)))) | ((with_reducible refine Below.alloc ?_ ?_ _); (rotate_left; focus (first | omega | (simp; done) | (simp; omega)))) | (with_reducible refine below_drewN ?_ _) | (with_reducible refine Below.drew ?_)))
    case round =>
      obtain ⟨i, rest, rfl, hrest, hnmr, hpb, heb, hbel⟩ := hrel.out
      clear hrel
      simp only at heb hnmr
      unfold PBox at hpb
      obtain ⟨⟨z0, z1, z2, z3⟩, zf⟩ := cells4 hpb
      obtain ⟨⟨e0, e1, e2, e3, e4, e5⟩, ef⟩ := cells6' heb
      have HPB := Lib.hid hpb
      have HEB := Lib.hid heb
      have HBEL := Lib.hid hbel
      have HNR := Lib.hid hnmr
      have hil := hrest.1
      simp only at hil
      have HRS := Lib.hid hrest
      have hplt := lt_of_block hpb
      have helt := lt_of_block heb
      clear hpb heb hrest hnmr
      cases rest with
      | nil =>
        have hil' : (i : Int) = (args.len : Int) := by simp only [PL.len] at hil; omega
        have h1 : r = true := by rw [← HR.out, HK1.out, ← HNR.out]; rfl
        subst h1
        clear hbel
        go_wp2
        go_ret
        exact ⟨rfl, HBEL.out⟩
      | cons k9 nm9 n9 d9 args9 a9 tl =>
        have hil' : (i : Int) < (args.len : Int) := by simp only [PL.len] at hil; omega
        obtain ⟨b, o, rfl, hb, h0, h1, h2, h3, h5, hn, ⟨ad1, cap1, h4, hcap1, hcm1, hd1⟩, ht⟩ := HRS.out.2.2.resolve_left (by intro h; cases h)
        have hsub := HRS.out.2.1
        simp only [PL.sz] at hsub
        have HAX := Lib.hid (show AE wr ⟨k9, nm9, n9, d9, args9, a9⟩ ad1 cap1 from ⟨hn, ⟨hcap1, hcm1⟩, hd1⟩)
        have HC := Lib.hid (fun (W' : World) (hW : Below wr.heap.size wr W') => HIH.out ⟨k9, nm9, n9, d9, args9, a9⟩ (by show args9.sz < args.sz; omega) W' ad1 cap1 ((HP.out.below HBEL.out).below hW) (HAX.out.below hW))
        unfold pv at HC
        simp only at HC
        have hcons : ahL p most (.cons k9 nm9 n9 d9 args9 a9 tl) = (ahE p most ⟨k9, nm9, n9, d9, args9, a9⟩ && ahL p most tl) := rfl
        have hnn := HNR.out
        rw [hcons] at hnn
        clear hbel hn hd1 ht hcons
        cases hb2t : ahE p most ⟨k9, nm9, n9, d9, args9, a9⟩ with
        | true =>
          rw [hb2t] at HC hnn
          have HNN := Lib.hid (show ahL p most tl = ahL p most args from hnn)
          clear hnn hb2t
          go_wp2
          go_region_with (go_at_call 10; refine (HC.out _ (by repeat (first | (with_reducible exact Below.refl _ _) | ((with_reducible refine below_setAt ?_ ?_ _); (rotate_left; focus (first | omega | (simp; done) | (simp; omega)))) | ((with_reducible refine Below.alloc ?_ ?_ _); (rotate_left; focus (first | omega | (simp; done) | (simp; omega)))) | (with_reducible refine below_drewN ?_ _) | (with_reducible refine Below.drew ?_)))).mono ?_; rintro x w2 ⟨rfl, hb2⟩)
          all_goals go_wp2
          all_goals (go_roundw; (case rel => first | exact ⟨i + 1, tl, by go_num, HRS.out.tail.below (by repeat (first | (with_reducible exact Below.refl _ _) | ((with_reducible refine below_setAt ?_ ?_ _); (rotate_left; focus (first | omega | (simp; done) | (simp; omega)))) | ((with_reducible refine Below.alloc ?_ ?_ _); (rotate_left; focus (first | omega | (simp; done) | (simp; omega)))) | (with_reducible refine below_drewN ?_ _) | (with_reducible refine Below.drew ?_) | ((with_reducible refine Below.trans ?_ (Below.mono hb2 ?_)); (rotate_left; focus (first | omega | (simp; done) | (simp; omega)))))), HNN.out, (hb2.block _ hplt).trans HPB.out, (hb2.block _ helt).trans HEB.out, (by repeat (first | (with_reducible exact Below.refl _ _) | ((with_reducible refine below_setAt ?_ ?_ _); (rotate_left; focus (first | omega | (simp; done) | (simp; omega)))) | ((with_reducible refine Below.alloc ?_ ?_ _); (rotate_left; focus (first | omega | (simp; done) | (simp; omega)))) | (with_reducible refine below_drewN ?_ _) | (with_reducible refine Below.drew ?_) | ((with_reducible refine Below.trans ?_ (Below.mono hb2 ?_)); (rotate_left; focus (first | omega | (simp; done) | (simp; omega)))) | ((with_reducible refine Below.trans ?_ (Below.mono HBEL.out ?_)); (rotate_left; focus (first | omega | (simp; done) | (simp; omega))))))⟩ | ((repeat apply Exists.intro); exact ⟨⟨i + 1, tl, by go_num, HRS.out.tail.below (by repeat (first | (with_reducible exact Below.refl _ _) | ((with_reducible refine below_setAt ?_ ?_ _); (rotate_left; focus (first | omega | (simp; done) | (simp; omega)))) | ((with_reducible refine Below.alloc ?_ ?_ _); (rotate_left; focus (first | omega | (simp; done) | (simp; omega)))) | (with_reducible refine below_drewN ?_ _) | (with_reducible refine Below.drew ?_) | ((with_reducible refine Below.trans ?_ (Below.mono hb2 ?_)); (rotate_left; focus (first | omega | (simp; done) | (simp; omega)))))), HNN.out, (hb2.block _ hplt).trans HPB.out, (hb2.block _ helt).trans HEB.out, (by repeat (first | (with_reducible exact Below.refl _ _) | ((with_reducible refine below_setAt ?_ ?_ _); (rotate_left; focus (first | omega | (simp; done) | (simp; omega)))) | ((with_reducible refine Below.alloc ?_ ?_ _); (rotate_left; focus (first | omega | (simp; done) | (simp; omega)))) | (with_reducible refine below_drewN ?_ _) | (with_reducible refine Below.drew ?_) | ((with_reducible refine Below.trans ?_ (Below.mono hb2 ?_)); (rotate_left; focus (first | omega | (simp; done) | (simp; omega)))) | ((with_reducible refine Below.trans ?_ (Below.mono HBEL.out ?_)); (rotate_left; focus (first | omega | (simp; done) | (simp; omega))))))⟩, rfl⟩)); (case measure => simp [intOf]; omega))
        | false =>
          rw [hb2t] at HC hnn
          have h1 : r = false := by rw [← HR.out, HK1.out, ← hnn]; rfl
          subst h1
          clear hnn hb2t
          go_wp2
          go_region_with (go_at_call 10; refine (HC.out _ (by repeat (first | (with_reducible exact Below.refl _ _) | ((with_reducible refine below_setAt ?_ ?_ _); (rotate_left; focus (first | omega | (simp; done) | (simp; omega)))) | ((with_reducible refine Below.alloc ?_ ?_ _); (rotate_left; focus (first | omega | (simp; done) | (simp; omega)))) | (with_reducible refine below_drewN ?_ _) | (with_reducible refine Below.drew ?_)))).mono ?_; rintro x w2 ⟨rfl, hb2⟩)
          all_goals go_wp2
          all_goals (go_ret; exact ⟨rfl, (by repeat (first | (with_reducible exact Below.refl _ _) | ((with_reducible refine below_setAt ?_ ?_ _); (rotate_left; focus (first | omega | (simp; done) | (simp; omega)))) | ((with_reducible refine Below.alloc ?_ ?_ _); (rotate_left; focus (first | omega | (simp; done) | (simp; omega)))) | (with_reducible refine below_drewN ?_ _) | (with_reducible refine Below.drew ?_) | ((with_reducible refine Below.trans ?_ (Below.mono hb2 ?_)); (rotate_left; focus (first | omega | (simp; done) | (simp; omega)))) | ((with_reducible refine Below.trans ?_ (Below.mono HBEL.out ?_)); (rotate_left; focus (first | omega | (simp; done) | (simp; omega))))))⟩)

theorem ahead_any (p : PG) (an ai af ao : Option Addr) (cn ci cf co : Nat) (most : Int) (hl2 : p.ins.length ≤ 1000) (hl3 : p.flows.length ≤ 1000) (e : PE) : AheadSaid p an ai af ao cn ci cf co most e := by
  suffices h : ∀ (N : Nat) (e : PE), e.args.sz < N → AheadSaid p an ai af ao cn ci cf co most e from h _ e (Nat.lt_succ_self _)
  intro N
  induction N with
  | zero => intro e h; omega
  | succ N ih => intro e h; exact ahead_step p an ai af ao cn ci cf co most hl2 hl3 e (fun e' h' => ih e' (by omega))

end Go.Proofs.Ytjcmjlkihfcdcaa.syn
