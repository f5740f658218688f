/-
  Flows' clocks are their expressions': askFlows.
-/
import Derived.Test.YtjcmjlkihfcdcaaChk4
namespace Go.Proofs.Ytjcmjlkihfcdcaa.syn
open Go.RowKit
set_option linter.unusedVariables false
set_option linter.unusedSimpArgs false

theorem look_yes {w : World} {mb : Nat} {L : List (ByteArray × Value)} {nm : ByteArray} {v : Value} (h : MapS w mb L) (hs : getS nm L = some v) :
    (Instr.lookup 66 (.map (some mb)) (.string nm) false).run Try.prog w = .ok v w := by
  have := map_lookS clocksMap h nm false
  rw [hs] at this; exact this

set_option maxRecDepth 100000 in
set_option maxHeartbeats 4000000 in
theorem askFlows_any {w : World} (flows : List FL) (af : Option Addr) (cf mb : Nat) (L : List (ByteArray × Value)) (env : Env) (hr : Row FlC 8 w flows af) (hc1 : flows.length ≤ cf) (hc2 : cf ≤ 9223372036854775807)
    (hM : MapS w mb L) (hE : EnvIs L env) (hA : ∀ f ∈ flows, ∃ p q, tellE env f.e = .ok p q ∧ env f.nm = some (p, q)) :
    Calls Try.prog 32 #[.map (some mb), .slice af flows.length cf] w fun x w' => x = OkPair ∧ Below w.heap.size w w' := by
  have HR := Lib.hid hr
  have HM := Lib.hid hM
  have HA := Lib.hid hA
  have hfl64 : flows.length ≤ 9223372036854775807 := Nat.le_trans hc1 hc2
  clear hr hM hA
  go_enter Try.func32, Try.ntmps32
  go_wp2
  go_loopw [10] (fun v wr => Hid (FdRel w flows v wr)) (fun i _ => flows.length - (intOf i).toNat)
  case atStart => exact ⟨0, rfl, Nat.zero_le _, (by repeat (first | (with_reducible exact Below.refl _ _) | ((with_reducible refine below_setAt ?_ ?_ _); (rotate_left; focus (first | omega | (simp; done) | (simp; omega)))) | ((with_reducible refine Below.alloc ?_ ?_ _); (rotate_left; focus (first | omega | (simp; done) | (simp; omega)))) | (with_reducible refine below_drewN ?_ _) | (with_reducible refine Below.drew ?_)))⟩
  case round =>
    obtain ⟨i, rfl, hi, hbel⟩ := hrel.out
    clear hrel
    have HBEL := Lib.hid hbel
    have hsW := hbel.size
    by_cases hlt : i < flows.length
    · have hrow := HR.out.below flSta hbel
      obtain ⟨bb, oo, rfl, hbb, hfl⟩ := hrow.at hlt
      obtain ⟨p, q, ht, hc⟩ := HA.out flows[i] (List.getElem_mem hlt)
      obtain ⟨f, hf⟩ : ∃ f, flows[i] = f := ⟨_, rfl⟩
      rw [hf] at hfl hc ht
      obtain ⟨nm, ⟨k1, nm1, n1, d1, args1, a1⟩, fa⟩ := f
      obtain ⟨ad1, cap1, x0, x1, x2, x3, x4, x5, x6, x7, hae, hfn⟩ := hfl.cells
      simp only at hc ht
      have hg : getS nm L = some (.agg #[.int .i64 p, .int .i64 q]) := by rw [hE nm, hc]; rfl
      have HG := Lib.hid hg
      have hMr := HM.out.below hbel
      have hl1 := look_yes (w := (wr.alloc (Obj.cells #[.string nm, .int .i64 k1, .string nm1, .int .i64 n1, .int .i64 d1, .slice ad1 args1.len cap1, .int .i64 a1, .int .i64 fa] 41)).drew) (hMr.below (by repeat (first | (with_reducible exact Below.refl _ _) | ((with_reducible refine below_setAt ?_ ?_ _); (rotate_left; focus (first | omega | (simp; done) | (simp; omega)))) | ((with_reducible refine Below.alloc ?_ ?_ _); (rotate_left; focus (first | omega | (simp; done) | (simp; omega)))) | (with_reducible refine below_drewN ?_ _) | (with_reducible refine Below.drew ?_)))) hg
      have HC := Lib.hid (tell_any hE ⟨k1, nm1, n1, d1, args1, a1⟩)
      have HE := Lib.hid hae
      unfold TellSaid at HC
      simp only at HC
      rw [ht] at HC
      simp only [TT.v] at HC
      have hfd := fun w => told_field w p q 0 0 true
      have hq := fun w => eq_clock p q p q w
      simp only [and_self, decide_true] at hq
      have hie : (i : Int) < (flows.length : Int) := by omega
      have HMR := Lib.hid hMr
      clear hbel hrow hae hc ht hg hMr
      go_wp2
      go_region_with (go_at_call 45; (with_reducible refine (HC.out _ _ _ _ (HE.out.below (by repeat (first | (with_reducible exact Below.refl _ _) | ((with_reducible refine below_setAt ?_ ?_ _); (rotate_left; focus (first | omega | (simp; done) | (simp; omega)))) | ((with_reducible refine Below.alloc ?_ ?_ _); (rotate_left; focus (first | omega | (simp; done) | (simp; omega)))) | (with_reducible refine below_drewN ?_ _) | (with_reducible refine Below.drew ?_)))) (HMR.out.below (by repeat (first | (with_reducible exact Below.refl _ _) | ((with_reducible refine below_setAt ?_ ?_ _); (rotate_left; focus (first | omega | (simp; done) | (simp; omega)))) | ((with_reducible refine Below.alloc ?_ ?_ _); (rotate_left; focus (first | omega | (simp; done) | (simp; omega)))) | (with_reducible refine below_drewN ?_ _) | (with_reducible refine Below.drew ?_))))).mono ?_); rintro x w2 ⟨rfl, hb2⟩; obtain ⟨hc2, hf2⟩ := bcell hb2; have a2 : wr.heap.size < w2.heap.size := sz_of hb2 (by first | omega | (simp; done) | (simp; omega)); have hl2 := look_yes (w := w2) (HMR.out.below (by repeat (first | (with_reducible exact Below.refl _ _) | ((with_reducible refine below_setAt ?_ ?_ _); (rotate_left; focus (first | omega | (simp; done) | (simp; omega)))) | ((with_reducible refine Below.alloc ?_ ?_ _); (rotate_left; focus (first | omega | (simp; done) | (simp; omega)))) | (with_reducible refine below_drewN ?_ _) | (with_reducible refine Below.drew ?_) | ((with_reducible refine Below.trans ?_ (Below.mono hb2 ?_)); (rotate_left; focus (first | omega | (simp; done) | (simp; omega))))))) HG.out)
      all_goals go_wp2
      all_goals refine ⟨⟨i + 1, by go_num, by omega, (by repeat (first | (with_reducible exact Below.refl _ _) | ((with_reducible refine below_setAt ?_ ?_ _); (rotate_left; focus (first | omega | (simp; done) | (simp; omega)))) | ((with_reducible refine Below.alloc ?_ ?_ _); (rotate_left; focus (first | omega | (simp; done) | (simp; omega)))) | (with_reducible refine below_drewN ?_ _) | (with_reducible refine Below.drew ?_) | ((with_reducible refine Below.trans ?_ (Below.mono hb2 ?_)); (rotate_left; focus (first | omega | (simp; done) | (simp; omega)))) | ((with_reducible refine Below.trans ?_ (Below.mono HBEL.out ?_)); (rotate_left; focus (first | omega | (simp; done) | (simp; omega))))))⟩, by simp [intOf]; omega⟩
    · go_wp2
      go_ret2
      exact ⟨rfl, HBEL.out⟩

end Go.Proofs.Ytjcmjlkihfcdcaa.syn
