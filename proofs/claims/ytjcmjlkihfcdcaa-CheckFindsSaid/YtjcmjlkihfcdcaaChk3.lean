/-
  Flows' clocks: all are found; each is its expression's; one call's arguments.
-/
import Derived.Test.YtjcmjlkihfcdcaaChk2
namespace Go.Proofs.Ytjcmjlkihfcdcaa.syn
open Go.RowKit
set_option linter.unusedVariables false
set_option linter.unusedSimpArgs false

def OkPair : Ending := .returned (.tuple #[.int .i64 0, .int .i64 0])
def FdRel (w : World) (flows : List FL) (v : Value) (wr : World) : Prop := ∃ i : Nat, v = .int .i64 (i : Int) ∧ i ≤ flows.length ∧ Below w.heap.size w wr

set_option maxRecDepth 100000 in
set_option maxHeartbeats 2000000 in
theorem askFound_any {w : World} (flows : List FL) (af : Option Addr) (cf mb : Nat) (L : List (ByteArray × Value)) (env : Env) (hr : Row FlC 8 w flows af) (hc1 : flows.length ≤ cf) (hc2 : cf ≤ 9223372036854775807)
    (hM : MapS w mb L) (hE : EnvIs L env) (hA : ∀ f ∈ flows, ∃ c, env f.nm = some c) :
    Calls Try.prog 30 #[.map (some mb), .slice af flows.length cf] w fun x w' => x = OkPair ∧ Below w.heap.size w w' := by
  have HR := Lib.hid hr
  have HM := Lib.hid hM
  have HA := Lib.hid hA
  have hfl64 : flows.length ≤ 9223372036854775807 := Nat.le_trans hc1 hc2
  clear hr hM hA
  go_enter Try.func30, Try.ntmps30
  go_wp2
  go_loopw [12] (fun v wr => Hid (FdRel w flows v wr)) (fun i _ => flows.length - (intOf i).toNat)
  case atStart => exact ⟨0, rfl, Nat.zero_le _, (by repeat (first | (with_reducible exact Below.refl _ _) | ((with_reducible refine below_setAt ?_ ?_ _); (rotate_left; focus (first | omega | (simp; done) | (simp; omega)))) | ((with_reducible refine Below.alloc ?_ ?_ _); (rotate_left; focus (first | omega | (simp; done) | (simp; omega)))) | (with_reducible refine below_drewN ?_ _) | (with_reducible refine Below.drew ?_)))⟩
  case round =>
    obtain ⟨i, rfl, hi, hbel⟩ := hrel.out
    clear hrel
    have HBEL := Lib.hid hbel
    have hsW := hbel.size
    by_cases hlt : i < flows.length
    · have hrow := HR.out.below flSta hbel
      obtain ⟨bb, oo, rfl, hbb, hfl⟩ := hrow.at hlt
      obtain ⟨c, hc⟩ := HA.out flows[i] (List.getElem_mem hlt)
      obtain ⟨f, hf⟩ : ∃ f, flows[i] = f := ⟨_, rfl⟩
      rw [hf] at hfl hc
      obtain ⟨nm, ⟨k1, nm1, n1, d1, args1, a1⟩, fa⟩ := f
      obtain ⟨ad1, cap1, x0, x1, x2, x3, x4, x5, x6, x7, hae, hfn⟩ := hfl.cells
      obtain ⟨c1, c2⟩ := c
      have HG := Lib.hid (show getS nm L = some (.agg #[.int .i64 c1, .int .i64 c2]) by rw [hE nm, hc]; rfl)
      have hie : (i : Int) < (flows.length : Int) := by omega
      clear hbel hrow hae hc
      go_wp2_with (at_lookup; refine wpList_lookS_yes2 clocksMap _ rfl _ _ rfl mb L nm _ rfl rfl (HM.out.below (by repeat (first | (with_reducible exact Below.refl _ _) | ((with_reducible refine below_setAt ?_ ?_ _); (rotate_left; focus (first | omega | (simp; done) | (simp; omega)))) | ((with_reducible refine Below.alloc ?_ ?_ _); (rotate_left; focus (first | omega | (simp; done) | (simp; omega)))) | (with_reducible refine below_drewN ?_ _) | (with_reducible refine Below.drew ?_) | ((with_reducible refine Below.trans ?_ (Below.mono HBEL.out ?_)); (rotate_left; focus (first | omega | (simp; done) | (simp; omega))))))) HG.out ?_)
      refine ⟨⟨i + 1, by go_num, by omega, (by repeat (first | (with_reducible exact Below.refl _ _) | ((with_reducible refine below_setAt ?_ ?_ _); (rotate_left; focus (first | omega | (simp; done) | (simp; omega)))) | ((with_reducible refine Below.alloc ?_ ?_ _); (rotate_left; focus (first | omega | (simp; done) | (simp; omega)))) | (with_reducible refine below_drewN ?_ _) | (with_reducible refine Below.drew ?_) | ((with_reducible refine Below.trans ?_ (Below.mono HBEL.out ?_)); (rotate_left; focus (first | omega | (simp; done) | (simp; omega))))))⟩, by simp [intOf]; omega⟩
    · go_wp2
      go_ret2
      exact ⟨rfl, HBEL.out⟩

theorem eq_clock (p q p' q' : Int) (w : World) : (Op.equal 43 (.agg #[.int .i64 p, .int .i64 q]) (.agg #[.int .i64 p', .int .i64 q'])).run Try.prog w = .ok (decide (p = p' ∧ q = q')) w := by
  have hu : Try.prog.underlying 43 = some (.struct (Try.prog.fieldsOf 43)) := by kernel_rfl
  have hs : Try.prog.stoodInHeld 43 = false := by kernel_rfl
  have hf : (Try.prog.fieldsOf 43).toList.map (fun f => (f.name, f.type, f.offset)) = [("Period", 2, 0), ("Phase", 2, 1)] := by kernel_rfl
  obtain ⟨f1, f2, hl, n1, t1, o1, n2, t2, o2⟩ : ∃ f1 f2, (Try.prog.fieldsOf 43).toList = [f1, f2] ∧ f1.name = "Period" ∧ f1.type = 2 ∧ f1.offset = 0 ∧ f2.name = "Phase" ∧ f2.type = 2 ∧ f2.offset = 1 := by
    generalize (Try.prog.fieldsOf 43).toList = l at hf
    cases l with
    | nil => simp at hf
    | cons f1 l =>
      cases l with
      | nil => simp at hf
      | cons f2 l =>
        cases l with
        | nil => simp at hf; exact ⟨f1, f2, rfl, hf.1.1, hf.1.2.1, hf.1.2.2, hf.2.1, hf.2.2.1, hf.2.2.2⟩
        | cons f3 l => simp at hf
  unfold Op.equal
  rw [show Op.maxDepth = 9998 + 1 + 1 from rfl, run_equalIn_agg w (9998 + 1) 43 _ _ hu hs, hl]
  have hi : (isAgg 2).run Try.prog w = .ok false w := by kernel_rfl
  have hp : (Op.equalIn (9998 + 1) 2 (.int .i64 p) (.int .i64 p')).run Try.prog w = .ok (p == p') w := run_equalIn_int w 9998 2 .i64 .i64 _ _ Try.underlying2
  have hn : (Op.equalIn (9998 + 1) 2 (.int .i64 q) (.int .i64 q')).run Try.prog w = .ok (q == q') w := run_equalIn_int w 9998 2 .i64 .i64 _ _ Try.underlying2
  simp only [Op.eqFields, n1, t1, o1, n2, t2, o2]
  simp [part, hi, hp, hn]
  by_cases h1 : p = p' <;> by_cases h2 : q = q' <;> simp [h1, h2]

/-- The clock that is told, where one is. -/
def TT.clk : TT → Int × Int
  | .ok p f => (p, f)
  | _ => (0, 0)
def ckL (env : Env) (c : Int × Int) : PL → Bool
  | .nil => true
  | .cons k nm n d args a tl => match tell1 env k nm n d a (tellL env args) with
    | .bad _ _ => false
    | .unk => decide ((0, 0) = c) && ckL env c tl
    | .ok p f => decide ((p, f) = c) && ckL env c tl
/-- Have the arguments of a call one clock? -/
def ckA (env : Env) : PL → Bool
  | .nil => true
  | .cons k nm n d args a tl => match tell1 env k nm n d a (tellL env args) with
    | .bad _ _ => false
    | .unk => ckL env (0, 0) tl
    | .ok p f => ckL env (p, f) tl

end Go.Proofs.Ytjcmjlkihfcdcaa.syn
