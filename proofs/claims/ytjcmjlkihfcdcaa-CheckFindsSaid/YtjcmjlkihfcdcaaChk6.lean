/-
  No more expressions than a text can make: visit with the counting closure, fits.
-/
import Derived.Test.YtjcmjlkihfcdcaaChk5
namespace Go.Proofs.Ytjcmjlkihfcdcaa.syn
open Go.RowKit
set_option linter.unusedVariables false
set_option linter.unusedSimpArgs false

theorem cells1 {w : World} {b : Nat} {v0 : Value} {t : TypeId} (h : w.heap[b]? = some (.cells #[v0] t (0, 0))) :
    w.cell? ⟨b, 0, none⟩ = some v0 ∧ ∀ o, w.frozen? ⟨b, o, none⟩ = false := by
  refine ⟨?_, ?_⟩
  all_goals first | (intro o; simp [World.frozen?, h]) | simp [World.cell?, h]
theorem set1 {w : World} {r : Nat} {a u : Value} {t : TypeId} (h : w.heap[r]? = some (.cells #[a] t (0, 0))) :
    (w.setCell ⟨r, 0, none⟩ u).heap[r]? = some (.cells #[u] t (0, 0)) := by
  have hlt := lt_of_block h
  have h' : w.heap[r] = .cells #[a] t (0, 0) := by simpa [Array.getElem?_eq_getElem hlt] using h
  show (w.heap.modify r _)[r]? = _
  rw [Array.getElem?_eq_getElem (by simpa using hlt), Array.getElem_modify_self, h']
  rfl
def RoomIs (w : World) (rb : Nat) (r : Int) : Prop := w.heap[rb]? = some (.cells #[.int .i64 r] 3 (0, 0))

set_option maxHeartbeats 1000000 in
theorem take_any {w : World} (k n d a : Int) (nm : ByteArray) (v : Value) (rb : Nat) (r : Int) (h : RoomIs w rb r) (h1 : 1 ≤ r) (h2 : r ≤ 1000000) :
    Calls Try.prog 36 #[.agg #[.int .i64 k, .string nm, .int .i64 n, .int .i64 d, v, .int .i64 a], .pointer (some ⟨rb, 0, none⟩)] w fun x w' =>
      x = .returned (.bool true) ∧ RoomIs w' rb (r - 1) ∧ Upon rb w w' := by
  have H := Lib.hid h
  obtain ⟨c0, cf⟩ := cells1 h
  have hlt := lt_of_block h
  have hd : decide ((0 : Int) ≤ r - 1) = true := by simp; omega
  have hd' : (0 : Int) ≤ r - 1 := by omega
  clear h
  go_enter Try.func36, Try.ntmps36
  go_wp2
  go_ret
  refine ⟨by simp, ?_, ?_⟩
  · exact (heap_alloc_old _ _ (by simpa [World.setCell] using hlt)).trans (set1 H.out)
  · exact (by repeat (first | (with_reducible exact Upon.refl _ _) | ((with_reducible refine Upon.setAt ?_ ?_ _); (rotate_left; focus (first | exact Or.inl rfl | omega | (simp; done) | (simp; omega)))) | (with_reducible refine Upon.alloc ?_ _) | (with_reducible refine Upon.drewN ?_ _) | (with_reducible refine Upon.drew ?_)))

def takeV (rb : Nat) : Value := .func (.func 36) #[] #[.pointer (some ⟨rb, 0, none⟩)]
def VisSaid (e : PE) : Prop := ∀ (W0 w : World) (ad : Option Addr) (cap rb : Nat) (r : Int), AE W0 e ad cap → Below W0.heap.size W0 w → W0.heap.size ≤ rb → RoomIs w rb r → (e.args.sz : Int) + 1 ≤ r → r ≤ 1000000 →
  Calls Try.prog 37 #[.agg #[.int .i64 e.k, .string e.nm, .int .i64 e.n, .int .i64 e.d, .slice ad e.args.len cap, .int .i64 e.a], takeV rb] w fun x w' =>
    x = .returned (.bool true) ∧ RoomIs w' rb (r - (e.args.sz + 1)) ∧ Upon rb w w'
def VsRel (W0 w : World) (e : PE) (ad : Option Addr) (rb : Nat) (r : Int) (v : Value) (wr : World) : Prop :=
  ∃ (i : Nat) (rest : PL) (rr : Int), v = .int .i64 (i : Int) ∧ RestP W0 ad e.args rest i ∧ RoomIs wr rb rr ∧ rr - rest.sz = r - (e.args.sz + 1) ∧ Upon rb w wr


set_option maxRecDepth 100000 in
set_option maxHeartbeats 2000000 in
theorem visit_step (e : PE) (ih : ∀ e' : PE, e'.args.sz < e.args.sz → VisSaid e') : VisSaid e := by
  intro W0 w ad cap rb r hae hb hrb hrm hr1 hr2
  obtain ⟨k, nm, n, d, args, a⟩ := e
  have hlen := hae.len
  simp only at hlen hr1 ⊢
  have HA := Lib.hid hae
  have HB0 := Lib.hid hb
  have HRM := Lib.hid hrm
  have HIH := Lib.hid ih
  have HLT := Lib.hid (lt_of_block hrm)
  have hlt := lt_of_block hrm
  have hsz0 := hb.size
  clear hae hb hrm ih
  unfold takeV
  have HT := Lib.hid (fun w v => take_any (w := w) k n d a nm v rb r)
  have hne : ¬ w.heap.size = rb := by omega
  have hne' : ¬ rb = w.heap.size := by omega
  go_enter Try.func37, Try.ntmps37
  go_wp2_with (go_at_call 36; refine (HT.out _ _ ((heap_alloc_old _ _ HLT.out).trans HRM.out) (by omega) (by omega)).mono ?_; rintro x w1 ⟨rfl, hrm1, hu1⟩; obtain ⟨hc1, hf1⟩ := ucell hu1; have b1 : w.heap.size < w1.heap.size := Nat.lt_of_lt_of_le (by first | omega | (simp; done) | (simp; omega)) hu1.size)
  have HU1 := Lib.hid hu1
  have HRM1 := Lib.hid hrm1
  clear hu1 hrm1
  go_loopw [14] (fun v wr => Hid (VsRel W0 w ⟨k, nm, n, d, args, a⟩ ad rb r v wr)) (fun i _ => args.len - (intOf i).toNat)
  case atStart => exact ⟨0, args, r - 1, rfl, RestP.start HA.out.args, HRM1.out, by simp only; omega, ((Upon.refl _ _).alloc _).trans HU1.out⟩
  case round =>
    obtain ⟨i, rest, rr, rfl, hrest, hroom, hrr, hup⟩ := hrel.out
    clear hrel
    simp only at hrr
    have HUP := Lib.hid hup
    have HROOM := Lib.hid hroom
    have hil := hrest.1
    simp only at hil
    have hbw : Below W0.heap.size W0 wr := HB0.out.trans (hup.below HB0.out.size hrb)
    have HRS0 := Lib.hid hrest
    have HRS := Lib.hid (hrest.below hbw)
    have HBW := Lib.hid hbw
    have hltr := lt_of_block hroom
    have hszr := hup.size
    clear hup hroom hrest hbw
    cases rest with
    | nil =>
      have hil' : (i : Int) = (args.len : Int) := by simp only [PL.len] at hil; omega
      simp only [PL.sz] at hrr
      go_wp2
      go_ret
      refine ⟨rfl, ?_, HUP.out⟩
      have e1 : rr = r - (↑args.sz + 1) := by simpa using hrr
      rw [← e1]; exact HROOM.out
    | cons k1 nm1 n1 d1 args1 a1 tl =>
      have hil' : (i : Int) < (args.len : Int) := by simp only [PL.len] at hil; omega
      have hrest0 := HRS0.out.2.2.resolve_left (by intro h; cases h)
      obtain ⟨b, o, rfl, hb, h0, h1, h2, h3, h5, hn, ⟨ad1, cap1, h4, hcap1, hcm1, hd1⟩, ht⟩ := HRS.out.2.2.resolve_left (by intro h; cases h)
      obtain ⟨b', o', hbo, hb', g0, g1, g2, g3, g5, gn, ⟨ad1', cap1', g4, gcap1, gcm1, gd1⟩, gt⟩ := hrest0
      injection hbo with hbo; injection hbo with hbo1 hbo2; subst hbo1; subst hbo2
      have hsub := HRS0.out.2.1
      simp only [PL.sz] at hsub hrr
      have hee := (HBW.out.cell (p := ⟨b, o + i * 6 + 4, none⟩) hb').trans g4
      rw [h4] at hee
      injection hee with hee; injection hee with he1 he2 he3
      subst he1; subst he3
      have HE := Lib.hid (show AE W0 ⟨k1, nm1, n1, d1, args1, a1⟩ ad1 cap1 from ⟨gn, ⟨gcap1, gcm1⟩, gd1⟩)
      have HC := Lib.hid (fun w' hb hr => HIH.out ⟨k1, nm1, n1, d1, args1, a1⟩ (by show args1.sz < args.sz; omega) W0 w' ad1 cap1 rb rr HE.out hb hrb hr (by show (args1.sz : Int) + 1 ≤ rr; omega) (by omega))
      unfold takeV at HC
      simp only at HC
      clear hn hd1 ht g0 g1 g2 g3 g5 gn g4 gd1 gt gcap1 gcm1 hb'
      go_wp2_with (go_at_call 37; go_loud (refine (HC.out _ (HBW.out.trans (Below.mono (show Below wr.heap.size wr _ from (by repeat (first | (with_reducible exact Below.refl _ _) | ((with_reducible refine below_setAt ?_ ?_ _); (rotate_left; focus (first | omega | (simp; done) | (simp; omega)))) | ((with_reducible refine Below.alloc ?_ ?_ _); (rotate_left; focus (first | omega | (simp; done) | (simp; omega)))) | (with_reducible refine below_drewN ?_ _) | (with_reducible refine Below.drew ?_)))) HBW.out.size)) ((heap_alloc_old _ _ hltr).trans HROOM.out)).mono ?_; rintro x w2 ⟨rfl, hrm2, hu2⟩))
      refine ⟨⟨i + 1, tl, rr - (args1.sz + 1), by go_num, HRS0.out.tail, hrm2, by simp only; omega, (HUP.out.alloc _).trans hu2⟩, by simp [intOf]; omega⟩

theorem visit_any (e : PE) : VisSaid e := by
  suffices h : ∀ (N : Nat) (e : PE), e.args.sz < N → VisSaid e from h _ e (Nat.lt_succ_self _)
  intro N
  induction N with
  | zero => intro e h; omega
  | succ N ih => intro e h; exact visit_step e (fun e' h' => ih e' (by omega))

end Go.Proofs.Ytjcmjlkihfcdcaa.syn
