/-
  ArithLcm returns true for every slice of int64s, and what was in memory stays as it was. No conditions.
-/
import Derived.Test.YtppcooaglkaepaaLcmPlain
import Derived.BigQuiet
import Derived.Handy
import Derived.Test.YtppcooaglkaepaaRows
import Derived.WalkKit
import Derived.ProofKit
import Derived.OpenShut
import Derived.ShutString
import Derived.ChangeOld
import Derived.Below
namespace Go.Proofs.Ytppcooaglkaepaa.arithLcm
open Go.ChangeShapes Go.WideShapes Go.ChangeAt Go.RowKit
open Go.ChangeMaps (open_string shut_string)
set_option linter.unusedVariables false

theorem own : ownKnob Try.prog.godebug = none := by kernel_rfl
theorem laidOut : laidOutB Try.prog = true := by kernel_rfl

/-- WHAT THE WALK IS TOLD OF A SLICE OF INTEGERS THAT CAME IN: it is nil; or it leads to a row of 'cap' cells, the numbers 'zs' (the first 'len' are its elements, the rest its spare room), each fitting its kind. -/
def IsRow (k : IntKind) (w : World) (a : Option Addr) (len cap : Nat) (zs : List Int) : Prop :=
  (a = none ∧ len = 0 ∧ cap = 0 ∧ zs = []) ∨
  ∃ x, a = some x ∧ len ≤ cap ∧ cap ≤ maxLen ∧ zs.length = cap ∧ (∀ i, i < zs.length → w.cell? (x.add i) = some (.int k (zs.getD i 0))) ∧ ∀ n ∈ zs, (Lit.int k n).wf = true

theorem int_cell {x : Addr} {w : World} {n : Nat} {zs : List Int} (h : ∀ i, i < zs.length → w.cell? (x.add i) = some (.int .i64 (zs.getD i 0))) (hn : 1 ≤ n) (hz : n ≤ zs.length) :
    ∃ b off, x = ⟨b, off, none⟩ ∧ ∀ k, k < n → w.cell? ⟨b, off + k, none⟩ = some (.int .i64 ((zs.take n).getD k 0)) := by
  have h0 := h 0 (by omega)
  obtain ⟨b, off, sp⟩ := x
  have hsp : sp = none := by
    cases sp with
    | none => rfl
    | some s =>
      simp only [Addr.add, if_pos, World.cell?] at h0
      split at h0
      · simp at h0
      · cases h0
  subst hsp
  refine ⟨b, off, rfl, fun k hk => ?_⟩
  have := h k (by omega)
  have e : (zs.take n).getD k 0 = zs.getD k 0 := by
    rw [plain.getD_lt 0 (by simp; omega), plain.getD_lt 0 (by omega), List.getElem_take]
  rw [e, ← this]
  unfold Addr.add
  by_cases hk0 : k = 0
  · subst hk0; simp
  · rw [if_neg hk0]

theorem walk_long (a : Option Addr) (len cap : Nat) (w : World) (h : 20 < len) (hm : len ≤ 9223372036854775807) :
    Calls Try.prog 5 #[.slice a len cap] w fun e w' => e = .returned (.bool true) ∧ Below w.heap.size w w' := by
  have h' : (20 : Int) < (len : Int) := by omega
  go_enter Try.func5, Try.ntmps5
  go_wp2_with (first | (go_at_call 11; refine (arith.awake_any _).mono ?_; rintro e w1 ⟨rfl, hb1⟩))
  go_ret
  exact ⟨rfl, Below.trans (by assumption) (hb1.mono (by have := (show Below w.heap.size w _ by assumption).size; omega))⟩

theorem walk_empty (a : Option Addr) (cap : Nat) (w : World) :
    Calls Try.prog 5 #[.slice a 0 cap] w fun e w' => e = .returned (.bool true) ∧ Below w.heap.size w w' := by
  have HI : ∀ w, arith.IntsAt w (.slice a 0 cap) [] := fun w => .inl ⟨a, cap, rfl, rfl⟩
  have HL : Hid (∀ w, Calls Try.prog 14 #[.slice a 0 cap] w fun e w' => e = .returned (.tuple #[.int .i64 1, .bool true]) ∧ ∃ m, w' = w.drewN m) := fun w =>
    arith.lcm_any [] (.slice a 0 cap) w (HI w) (by simp) (by simp)
  clear HI
  go_enter Try.func5, Try.ntmps5
  go_wp2_with (first | (go_at_call 11; refine (arith.awake_any _).mono ?_; rintro e w1 ⟨rfl, hb1⟩) | (go_at_call 14; refine (HL.out _).mono ?_; rintro e w' ⟨rfl, m, rfl⟩))
  go_rounds 1
  go_ret
  exact ⟨rfl, arith.below_drewN hb1 _⟩

theorem walk_none (l : List Int) (b off cap : Nat) (w : World) (hn1 : 1 ≤ l.length) (hn2 : l.length ≤ 20) (hc : arith.IntsAt w (.slice (some ⟨b, off, none⟩) l.length cap) l)
    (hl : ∀ x ∈ l, x ≤ 9223372036854775807) (hr : arith.lcmFrom 1 l = none) :
    Calls Try.prog 5 #[.slice (some ⟨b, off, none⟩) l.length cap] w fun e w' => e = .returned (.bool true) ∧ Below w.heap.size w w' := by
  have HL : Hid (∀ w, arith.IntsAt w (.slice (some ⟨b, off, none⟩) l.length cap) l → Calls Try.prog 14 #[.slice (some ⟨b, off, none⟩) l.length cap] w fun e w' => e = .returned (.tuple #[.int .i64 0, .bool false]) ∧ ∃ m, w' = w.drewN m) := fun w hi => by
    have := arith.lcm_any l _ w hi (by omega) hl
    rw [hr] at this; exact this
  have HC := Lib.hid hc
  clear hc hl hr
  go_enter Try.func5, Try.ntmps5
  go_wp2_with (first | (go_at_call 11; refine (arith.awake_any _).mono ?_; rintro e w1 ⟨rfl, hb1⟩) | (go_at_call 14; refine (HL.out _ (HC.out.below hb1)).mono ?_; rintro e w' ⟨rfl, m, rfl⟩))
  go_ret
  exact ⟨arith.bool_true (by simp; omega), arith.below_drewN hb1 _⟩

theorem walk_some (l : List Int) (b off cap : Nat) (w : World) (r : Int) (hn1 : 1 ≤ l.length) (hn2 : l.length ≤ 20) (hc : arith.IntsAt w (.slice (some ⟨b, off, none⟩) l.length cap) l)
    (hl : ∀ x ∈ l, x ≤ 9223372036854775807) (hr : arith.lcmFrom 1 l = some r) :
    Calls Try.prog 5 #[.slice (some ⟨b, off, none⟩) l.length cap] w fun e w' => e = .returned (.bool true) ∧ Below w.heap.size w w' := by
  obtain ⟨_, r1, r2, hd⟩ := arith.lcmFrom_some (by omega) (by omega) hr
  have HL : Hid (∀ w, arith.IntsAt w (.slice (some ⟨b, off, none⟩) l.length cap) l → Calls Try.prog 14 #[.slice (some ⟨b, off, none⟩) l.length cap] w fun e w' => e = .returned (.tuple #[.int .i64 r, .bool true]) ∧ ∃ m, w' = w.drewN m) := fun w hi => by
    have := arith.lcm_any l _ w hi (by omega) hl
    rw [hr] at this; exact this
  have HC := Lib.hid hc
  have HD := Lib.hid hd
  have HM := Lib.hid hl
  have HR := Lib.hid hr
  clear hc hl hr hd
  go_enter Try.func5, Try.ntmps5
  go_wp2_with (first | (go_at_call 11; refine (arith.awake_any _).mono ?_; rintro e w1 ⟨rfl, hb1⟩) | (go_at_call 14; refine (HL.out _ (HC.out.below hb1)).mono ?_; rintro e w' ⟨rfl, m, rfl⟩))
  obtain ⟨w2, HW⟩ : ∃ w2, Hid (w2 = w1.drewN m) := ⟨_, rfl⟩
  rw [← HW.out]
  have HB : Hid (Below w.heap.size w w2) := by rw [HW.out]; exact arith.below_drewN hb1 m
  have HC2 : Hid (∀ k, k < l.length → w2.cell? ⟨b, off + k, none⟩ = some (.int .i64 (l.getD k 0))) := by
    intro k hk
    rcases HC.out.below HB.out with ⟨_, _, _, h2⟩ | ⟨b', off', cap', h1, h2⟩
    · subst h2; simp at hk
    · have h3 := h2 k hk
      simp only [Value.slice.injEq, Option.some.injEq, Addr.mk.injEq, and_true, true_and] at h1
      obtain ⟨⟨rfl, rfl⟩, _⟩ := h1
      exact h3
  clear HL HW hb1
  go_loop [5] (fun i => ∃ k : Nat, k ≤ l.length ∧ i = .int .i64 k) (fun i => l.length - (intOf i).toNat)
  case atStart => exact ⟨0, by omega, rfl⟩
  case round =>
    obtain ⟨k, hk, rfl⟩ := hrel
    by_cases hlt : k < l.length
    · have hcell := HC2.out k hlt
      have hx := HD.out _ (plain.getD_mem 0 hlt)
      have hx1 : 1 ≤ l.getD k 0 := hx.1
      have hx3 : (r % l.getD k 0 != 0) = false := by rw [Int.emod_eq_zero_of_dvd hx.2]; rfl
      have hx4 := HM.out _ (plain.getD_mem 0 hlt)
      clear hx
      generalize l.getD k 0 = x at *
      go_wp2
      go_round
      case rel => exact ⟨k + 1, by omega, by go_num⟩
      case measure => simp [intOf]; omega
    · by_cases h2 : l.length = 2
      · have hc0 := HC2.out 0 (by omega)
        have hc1 := HC2.out 1 (by omega)
        have hx := HD.out _ (plain.getD_mem 0 (show 0 < l.length by omega))
        have hy := HD.out _ (plain.getD_mem 0 (show 1 < l.length by omega))
        have hx1 : 1 ≤ l.getD 0 0 := hx.1
        have hy1 : 1 ≤ l.getD 1 0 := hy.1
        have hx4 := HM.out _ (plain.getD_mem 0 (show 0 < l.length by omega))
        have hy4 := HM.out _ (plain.getD_mem 0 (show 1 < l.length by omega))
        have HE : Hid (r = l.getD 0 0 / arith.gcdOf (l.getD 0 0) (l.getD 1 0) * l.getD 1 0) := by
          have hr := HR.out
          have : l = [l.getD 0 0, l.getD 1 0] := by
            match l, h2 with
            | [x, y], _ => rfl
          rw [this] at hr
          exact arith.lcm_two hr
        clear hx hy HC2 HD HM HR
        have hlen2 : (((l.length : Nat) : Int) == 2) = true := by simp; omega
        have hk' : (l.length : Int) ≤ (k : Int) := by omega
        rw [Nat.add_zero] at hc0
        generalize l.getD 0 0 = x at *
        generalize l.getD 1 0 = y at *
        have g1 := arith.gcdOf_pos (x := y) hx1
        have g2 := arith.gcdOf_le (x := y) hx1
        have z : (arith.gcdOf x y == 0) = false := by simp; omega
        have z' : ¬ arith.gcdOf x y = 0 := by omega
        have v1 : IntKind.i64.wrap (x.tdiv (arith.gcdOf x y)) = x / arith.gcdOf x y := IntWalk.i64_quo _ _ ⟨by omega, hx4, g1⟩
        have HE2 : Hid (r ≤ 9223372036854775807) := r2
        have v2 : IntKind.i64.wrap (x / arith.gcdOf x y * y) = x / arith.gcdOf x y * y := IntWalk.i64_in _ (by have := HE.out; omega)
        have v3 : (r == x / arith.gcdOf x y * y) = true := by rw [← HE.out]; exact beq_self_eq_true _
        have l0 : (0 : Int) < (l.length : Int) := by omega
        have l1 : (1 : Int) < (l.length : Int) := by omega
        go_wp2
        go_quiet ((go_at_call 12; exact Calls.quiet_of (arith.gcd_any _ _ _ (by omega) (by omega) (by omega) (by omega))))
        go_wp2
        go_ret
        exact ⟨rfl, arith.below_drewN HB.out _⟩
      · have hlen2 : (((l.length : Nat) : Int) == 2) = false := by simp; omega
        have hk' : (l.length : Int) ≤ (k : Int) := by omega
        have hne : ¬ l = [] := by intro h; subst h; simp at hn1
        clear HC2 HD HM HR
        go_wp2
        go_ret
        exact ⟨rfl, HB.out⟩

theorem walk (a0 : Option Addr) (len0 cap0 : Nat) (z0 : List Int) (w : World) (w0 : IsRow .i64 w a0 len0 cap0 z0) :
    Calls Try.prog 5 #[.slice a0 len0 cap0] w fun e w' => e = .returned (.bool true) ∧ Below w.heap.size w w' := by
  by_cases h0 : len0 = 0
  · subst h0; exact walk_empty a0 cap0 w
  · rcases w0 with ⟨_, h, _⟩ | ⟨x, rfl, h1, h2, h3, h4, h5⟩
    · exact absurd h h0
    · unfold maxLen at h2
      by_cases hl : 20 < len0
      · exact walk_long _ len0 cap0 w hl (by omega)
      · obtain ⟨b, off, rfl, hc⟩ := int_cell h4 (n := len0) (by omega) (by omega)
        have hlen : (z0.take len0).length = len0 := by simp; omega
        have hb : ∀ x ∈ z0.take len0, x ≤ 9223372036854775807 := fun x hx => (bounds_i64 (h5 x (List.mem_of_mem_take hx))).2
        generalize z0.take len0 = l at *
        subst hlen
        cases hr : arith.lcmFrom 1 l with
        | none => exact walk_none l b off cap0 w (by omega) (by omega) (.inr ⟨b, off, cap0, rfl, hc⟩) hb hr
        | some r => exact walk_some l b off cap0 w r (by omega) (by omega) (.inr ⟨b, off, cap0, rfl, hc⟩) hb hr

/-! ### THE ROW's STEP: WRITTEN OUT: LEAVE IT -/
set_option maxRecDepth 100000 in
theorem lifted (os : Os) (started : os.Started) (H : Type) (enc : TypeId × Value → H) :
    ReturnsInHanded {} Try.checked os 5 .any (Rows.arithLcmSpec.pre6 enc Try.prog Try.f5 Rows.arithLcmRow.domain false) (Rows.arithLcmSpec.post enc Try.prog Try.f5 false true false false) := by
  refine returnsInHanded_of_change (C := Try.checked) own started (by kernel_rfl) Try.func5
    (ChangeSpec.witness6 (enc := enc) (C := Try.checked) false ⟨#[], #[.slice none 0 0], []⟩ 8 (by kernel_rfl) (by kernel_rfl) (by kernel_rfl) (by kernel_rfl)) ?_
  intro W base args ds gs before hval0 hW hcnd _
  have hval : ∀ (j : Nat) t v, Try.f5.params[j]? = some t → args[j]? = some v → Value.okWide Try.prog W .any base t v := hval0
  have hW' := hW
  obtain ⟨p, q, hA0, hV, rfl, hfz, hnd⟩ := hW
  have hA : DataW.TrodAll enc Try.prog W 0 (fun _ => true) true Try.f5.params.toList args.toList ds p := hA0
  rw [Try.params5] at hA hval
  obtain ⟨v0, vs0, d0, ds0, p0, q0, hargs, rfl, rfl, h0, r0⟩ := trodAll_cons hA
  obtain ⟨rfl, rfl, rfl⟩ := trodAll_nil r0
  obtain rfl : args = #[v0] := by cases args; simp_all
  obtain ⟨rfl, rfl⟩ := trodVars_none hV
  obtain ⟨a0, len0, cap0, rfl⟩ := okWide_slice Try.underlying28 (hval 0 28 v0 rfl rfl)
  have k0 := h0
  have lt0 : ∀ x ∈ p0, x.block < W.heap.size := by obtain ⟨m, hm⟩ := k0; exact DataW.trod_lt m _ _ _ hm
  obtain ⟨z0, w0⟩ : ∃ zs, IsRow .i64 W a0 len0 cap0 zs := by
    obtain ⟨fuel, hf⟩ := h0
    rcases open_ints Try.underlying28 Try.underlying2 (by kernel_rfl) hf with ⟨hcs, _⟩ | ⟨x, l, c, zs, hcs, _, hl, hm, hz, _, hcell, hwz⟩
    · simp [Value.cells] at hcs
      obtain ⟨rfl, rfl, rfl⟩ := hcs
      exact ⟨[], .inl ⟨rfl, rfl, rfl, rfl⟩⟩
    · simp [Value.cells] at hcs
      obtain ⟨rfl, rfl, rfl⟩ := hcs
      exact ⟨zs, .inr ⟨_, rfl, hl, hm, by simpa using hz, hcell, hwz⟩⟩
  clear hA0 hval0
  refine (walk a0 len0 cap0 z0 W w0).mono fun e W' ⟨he, bel⟩ => ?_
  subst he
  exact ⟨_, rfl, _, _, _, [], _, [], hW', trodAll_mk1 (shut_bool Try.underlying4 _), (trodAll_cons_mk (Below.trod laidOut (by kernel_rfl) (of_decide_eq_true (by kernel_rfl)) k0 bel lt0) trodAll_mk0), rfl, bel.frame _, fun h => by cases h⟩

theorem over : Rows.arithLcmRow.holds Try.pinned (OpenSpec.ofChange Rows.arithLcmSpec) :=
  OpenClaim.holds_of_wide 5 Try.f5 rfl rfl rfl rfl rfl rfl rfl ⟨rfl, rfl, rfl, rfl, rfl⟩ rfl rfl rfl rfl rfl (by kernel_rfl) Try.func5 (by kernel_rfl)
    (of_decide_eq_true (by kernel_rfl)) (by unfold Func.isWrapper; first | (rw [if_pos (by decide +kernel)]; kernel_rfl) | (rw [if_neg (by decide +kernel)]; exact ⟨rfl, rfl⟩))
    (fun os started H enc _ => lifted os started H enc)

/-- ████ THE STATEMENT ████ -/
theorem proved : Rows.ArithLcmSaid := over
end Go.Proofs.Ytppcooaglkaepaa.arithLcm
