/-
  CheckFinds returns true for all programs, and what was in memory stays as it was. No conditions.
-/
import Derived.Test.YtjcmjlkihfcdcaaFin3
import Derived.SizedLaws
import Derived.Test.YtjcmjlkihfcdcaaRows
import Derived.WalkKit
import Derived.ProofKit
import Derived.OpenShut
import Derived.ShutString
import Derived.ChangeOld
import Derived.Below
import Derived.Carry
import Derived.Lib.SmallJoins
namespace Go.Proofs.Ytjcmjlkihfcdcaa.checkFinds
open Go.ChangeShapes Go.WideShapes Go.ChangeAt Go.RowKit Go.Joins
set_option linter.unusedVariables false

theorem own : ownKnob Try.prog.godebug = none := by kernel_rfl
theorem laidOut : laidOutB Try.prog = true := by kernel_rfl

open syn
theorem small_field {H : Type} {P : Program} {ts : List TypeId} {ds : List (DataW H)} (h : (DataW.weightsEach P ts ds).all (· ≤ reachBytes) = true) {j : Nat} {t : TypeId} {fs : Array Field} {parts : List (DataW H)} (ht : ts[j]? = some t) (hd : ds[j]? = some (.agg parts)) (hu : P.underlying t = some (.struct fs))
    {k : Nat} {ft e : TypeId} (hft : (fs.toList.map (·.type))[k]? = some ft) (hue : P.underlying ft = some (.slice e)) (hb : decide (1 ≤ P.bytesOf e) = true) {y : DataW H × List MemPlace} (hk : parts[k]? = some y.1)
    {enc : TypeId × Value → H} {w : World} {base : Nat} {sp : Nat → Bool} {held : Bool} {n : Nat} {ad : Option Addr} {len cap : Nat} (tr : DataW.trod enc P w base sp held n ft [.slice ad len cap] = some y) : len ≤ 140737488351232 := by
  rcases DataW.trod_slice hue tr with ⟨hcs, _⟩ | ⟨a, l, c, elems, rest, m, _, hcs, hx, _, _, _, hl, _⟩
  · simp at hcs; omega
  · have hll : len = l := by simp at hcs; exact hcs.2.1
    have hy : y.1 = .slice (elems.map (·.1)) (rest.map (·.1)) := by rw [hx]
    rw [hy] at hk
    have hm : ((elems.map (·.1)).length + (rest.map (·.1)).length) * P.bytesOf e ∈ DataW.weights P t (.agg parts) := by
      simp only [DataW.weights, hu]
      refine DataW.weights_mem_each hft hk _ ?_
      simp [DataW.weights, hue]
    have h2 := List.all_eq_true.1 h _ (DataW.weights_mem_each ht hd _ hm)
    simp only [List.length_map, decide_eq_true_eq, reachBytes] at h2
    have hb := of_decide_eq_true hb
    have h3 := Nat.le_mul_of_pos_right (elems.length + rest.length) hb
    omega
theorem walk (p : PG) (an ai af ao : Option Addr) (cn ci cf co : Nat) {w : World} (hp : AP w p an ai af ao cn ci cf co) (hs : SmallP p) :
    Calls Try.prog 4 #[pv p an ai af ao cn ci cf co] w fun e w' => e = .returned (.bool true) ∧ Below w.heap.size w w' := by
  obtain ⟨nodes, ins, flows, outs⟩ := p
  exact fin.walk nodes ins flows outs an ai af ao cn ci cf co hp hs

set_option maxRecDepth 100000 in
theorem lifted (os : Os) (started : os.Started) (H : Type) (enc : TypeId × Value → H) :
    ReturnsInHanded {} Try.checked os 4 .any (Rows.checkFindsSpec.pre6 enc Try.prog Try.f4 Rows.checkFindsRow.domain false) (Rows.checkFindsSpec.post enc Try.prog Try.f4 false true false false) := by
  refine returnsInHanded_of_change_sized (C := Try.checked) own started (by kernel_rfl) Try.func4
    (ChangeSpec.witness6 (enc := enc) (C := Try.checked) false ⟨#[], #[.agg #[.slice none 0 0, .slice none 0 0, .slice none 0 0, .slice none 0 0]], []⟩ 8 (by kernel_rfl) (by kernel_rfl) (by kernel_rfl) (by kernel_rfl)) ?_
  intro W base args ds gs before hval0 hW hcnd hsz _
  have hval : ∀ (j : Nat) t v, Try.f4.params[j]? = some t → args[j]? = some v → Value.okWide Try.prog W .any base t v := hval0
  have hW' := hW
  obtain ⟨p, q, hA0, hV, rfl, hfz, hnd⟩ := hW
  have hA : DataW.TrodAll enc Try.prog W 0 (fun _ => true) true Try.f4.params.toList args.toList ds p := hA0
  rw [Try.params4] at hA hval
  obtain ⟨v0, vs0, d0, ds0, q0, qs0, hargs, rfl, rfl, h0, r0⟩ := trodAll_cons hA
  obtain ⟨rfl, rfl, rfl⟩ := trodAll_nil r0
  obtain rfl : args = #[v0] := by cases args; simp_all
  obtain ⟨rfl, rfl⟩ := trodVars_none hV
  have k0 := h0
  have lt0 : ∀ x ∈ q0, x.block < W.heap.size := by obtain ⟨m, hm⟩ := k0; exact DataW.trod_lt m _ _ _ hm
  obtain ⟨c00, c01, c02, c03, y00, y01, y02, y03, n0, rfl, rfl, _, t00, t01, t02, t03⟩ := open_agg4 Try.underlying27 (by kernel_rfl) (by kernel_rfl) (hval 0 27 v0 rfl rfl) h0
  obtain ⟨fuel0, hf0⟩ := k0
  obtain ⟨p0, an0, ai0, af0, ao0, cn0, ci0, cf0, co0, hp0, hcs0⟩ := open_pg hf0
  simp [Value.cells] at hcs0
  have k0 := h0
  obtain ⟨rfl, rfl, rfl, rfl⟩ := hcs0
  have hs0 : SmallP p0 := ⟨small_field hsz (j := 0) (k := 0) (by rfl) (by rfl) Try.underlying27 (by rfl) Try.underlying22 (by kernel_rfl) (by rfl) t00, small_field hsz (j := 0) (k := 1) (by rfl) (by rfl) Try.underlying27 (by rfl) Try.underlying23 (by kernel_rfl) (by rfl) t01,
    small_field hsz (j := 0) (k := 2) (by rfl) (by rfl) Try.underlying27 (by rfl) Try.underlying24 (by kernel_rfl) (by rfl) t02, small_field hsz (j := 0) (k := 3) (by rfl) (by rfl) Try.underlying27 (by rfl) Try.underlying25 (by kernel_rfl) (by rfl) t03⟩
  clear hA0 hval0
  refine (walk p0 an0 ai0 af0 ao0 cn0 ci0 cf0 co0 hp0 hs0).mono fun e W' ⟨he, bel⟩ => ?_
  subst he
  exact ⟨_, rfl, _, _, _, [], _, [], hW', trodAll_mk1 (shut_bool Try.underlying4 _), (trodAll_cons_mk (Below.trod laidOut (by kernel_rfl) (of_decide_eq_true (by kernel_rfl)) k0 bel lt0) trodAll_mk0), rfl, bel.frame _, fun h => by cases h⟩

theorem over : Rows.checkFindsRow.holds Try.pinned (OpenSpec.ofChange Rows.checkFindsSpec) :=
  OpenClaim.holds_of_wide 4 Try.f4 rfl rfl rfl rfl rfl rfl rfl ⟨rfl, rfl, rfl, rfl, rfl⟩ rfl rfl rfl rfl rfl (by kernel_rfl) Try.func4 (by kernel_rfl)
    (of_decide_eq_true (by kernel_rfl)) (by unfold Func.isWrapper; first | (rw [if_pos (by decide +kernel)]; kernel_rfl) | (rw [if_neg (by decide +kernel)]; exact ⟨rfl, rfl⟩))
    (fun os started H enc _ => lifted os started H enc)

theorem proved : Rows.CheckFindsSaid := over
end Go.Proofs.Ytjcmjlkihfcdcaa.checkFinds
