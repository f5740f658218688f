/-
  IndexDates returns true for all arguments, and what was in memory stays as it was. No conditions.
-/
import Derived.Deep.RegionWith
import Derived.Test.YtdlgpfbfhaifgaaRef07B
import Derived.Test.YtdlgpfbfhaifgaaOps
import Derived.Test.YtdlgpfbfhaifgaaRows
import Derived.WalkKit
import Derived.ProofKit
import Derived.OpenShut
import Derived.ShutString
import Derived.ChangeOld
import Derived.Below
import Derived.Carry
import Derived.Lib.SmallJoins
namespace Go.Proofs.Ytdlgpfbfhaifgaa.indexDates
open Go.ChangeShapes Go.WideShapes Go.ChangeAt Go.RowKit Go.Joins
set_option linter.unusedVariables false

theorem own : ownKnob Try.prog.godebug = none := by kernel_rfl
theorem laidOut : laidOutB Try.prog = true := by kernel_rfl

open index syn lite clock

theorem backA_in : ∀ (l : List Op3) (n : Int), l.any wrongB = false → 0 ≤ n → n ≤ 1099511627776 → (∃ m, backA l n = .ok m ∧ 0 ≤ m ∧ m ≤ 1099511627776) ∨ (∃ N, backA l n = .error (0, N, 2)) ∨ backA l n = .error (0, 0, 0) := by
  intro l
  induction l with
  | nil => intro n _ h0 h1; exact .inl ⟨n, rfl, h0, h1⟩
  | cons o l ih =>
    intro n hw h0 h1
    rw [List.any_cons, Bool.or_eq_false_iff] at hw
    rw [backA]
    by_cases hb : n = 0 ∧ beginsB o = true
    · have : stepA o n = .error (0, o.2.1, 2) := by unfold stepA; exact if_pos hb
      rw [this]; exact .inr (.inl ⟨_, rfl⟩)
    · cases hs : stepP o n with
      | none =>
        have : stepA o n = .error (0, 0, 0) := by unfold stepA; rw [if_neg hb, hs]
        rw [this]; exact .inr (.inr rfl)
      | some t =>
        have : stepA o n = .ok t := by unfold stepA; rw [if_neg hb, hs]
        rw [this]
        have ht := stepP_in hw.1 h0 h1 hb hs
        exact ih t hw.2 ht.1 ht.2

theorem backP_in (l : List Op3) (n : Int) : (∃ m, backP l n = (m, 0, 1) ∧ 0 ≤ m ∧ m ≤ 1099511627776) ∨ (∃ N, backP l n = (0, N, 2)) ∨ backP l n = (0, 0, 0) := by
  unfold backP
  by_cases h : n < 0 ∨ 1099511627776 < n ∨ l.any wrongB = true
  · rw [if_pos h]; exact .inr (.inr rfl)
  · rw [if_neg h]
    have hw : l.reverse.any wrongB = false := by
      rw [List.any_reverse]
      cases hw : l.any wrongB with
      | false => rfl
      | true => exact absurd (Or.inr (Or.inr hw)) h
    rcases backA_in l.reverse n hw (by omega) (by omega) with ⟨m, h1, h2, h3⟩ | ⟨N, h1⟩ | h1
    · rw [h1]; exact .inl ⟨m, rfl, h2, h3⟩
    · rw [h1]; exact .inr (.inl ⟨N, rfl⟩)
    · rw [h1]; exact .inr (.inr rfl)

theorem backA_cat : ∀ (p q : List Op3) (n : Int), backA (p ++ q) n = match backA p n with | .ok t => backA q t | .error e => .error e := by
  intro p
  induction p with
  | nil => intro q n; rfl
  | cons x p ih =>
    intro q n
    simp only [List.cons_append, backA]
    cases stepA x n with
    | ok t => exact ih q t
    | error e => rfl

theorem applyP_right {p f k n d p1 f1 : Int} (h : applyP p f k n d = (p1, f1, 0)) : rightB p f = true ∧ rightB p1 f1 = true ∧ facB k n d = true ∧ 3 ≤ k ∧ k ≤ 8 := by
  unfold applyP at h
  split at h
  · simp only [Prod.mk.injEq] at h; omega
  · rename_i h0
    have hR : rightB p f = true := by cases hr : rightB p f with | true => rfl | false => exact absurd (Or.inl hr) h0
    have hk : 3 ≤ k ∧ k ≤ 8 := by
      constructor
      · exact Int.not_lt.1 (fun hc => h0 (Or.inr (Or.inl hc)))
      · exact Int.not_lt.1 (fun hc => h0 (Or.inr (Or.inr hc)))
    split at h
    · simp only [Prod.mk.injEq] at h; omega
    · rename_i hf
      have hF : facB k n d = true := by cases hr : facB k n d with | true => rfl | false => exact absurd hr hf
      refine ⟨hR, ?_, hF, hk.1, hk.2⟩
      have hr := right_iff.1 hR
      have hfa := of_decide_eq_true (show decide _ = true from hF)
      refine right_iff.2 ?_
      split at h
      · rename_i h3
        split at h
        · rename_i hz
          simp only [Prod.mk.injEq] at h
          obtain ⟨rfl, rfl, _⟩ := h
          have hn := hfa.1 (Or.inl h3)
          have e := Int.ediv_mul_cancel (Int.dvd_of_emod_eq_zero hz)
          have hq : 1 ≤ p / n := by
            apply Classical.byContradiction; intro hc
            have := Int.mul_le_mul_of_nonneg_right (show p / n ≤ 0 by omega) (show 0 ≤ n by omega)
            omega
          have hq2 : p / n ≤ p := Int.ediv_le_self n (by omega)
          omega
        · simp only [Prod.mk.injEq] at h; omega
      · split at h
        · rename_i h4
          split at h
          · rename_i hz
            simp only [Prod.mk.injEq] at h
            obtain ⟨rfl, rfl, _⟩ := h
            have hn := hfa.1 (Or.inr h4)
            have : p * 1 ≤ p * n := Int.mul_le_mul_of_nonneg_left hn.1 (by omega)
            omega
          · simp only [Prod.mk.injEq] at h; omega
        · split at h
          · rename_i h5
            split at h
            · unfold fin at h
              have hn := hfa.2 h5
              have := Int.ediv_nonneg (Int.mul_nonneg (show 0 ≤ p by omega) hn.2.2.1) (show 0 ≤ d by omega)
              split at h <;> (simp only [Prod.mk.injEq] at h; omega)
            · simp only [Prod.mk.injEq] at h; omega
          · split at h
            · simp only [Prod.mk.injEq] at h; omega
            · split at h
              · unfold fin at h
                split at h <;> (simp only [Prod.mk.injEq] at h; omega)
              · split at h <;> (simp only [Prod.mk.injEq] at h; omega)

theorem date_step {p f k N d p1 f1 t i : Int} (h : applyP p f k N d = (p1, f1, 0)) (hs : stepA (k, N, d) t = .ok i) :
    f + i * p ≤ f1 + t * p1 ∧ (delaysB (k, N, d) = true → f + i * p < f1 + t * p1) := by
  obtain ⟨hR, hR1, hF, hk3, hk8⟩ := applyP_right h
  have hr := right_iff.1 hR
  have hfa := of_decide_eq_true (show decide _ = true from hF)
  have hst : stepP (k, N, d) t = some i := by
    unfold stepA at hs
    split at hs
    · cases hs
    · cases hx : stepP (k, N, d) t with
      | none => rw [hx] at hs; cases hs
      | some x => rw [hx] at hs; injection hs with hs; rw [hs]
  unfold applyP at h
  rw [if_neg (by rw [hR]; simp; omega), if_neg (by rw [hF]; simp)] at h
  unfold stepP at hst
  simp only at hst
  have kk : k = 3 ∨ k = 4 ∨ k = 5 ∨ k = 6 ∨ k = 7 ∨ k = 8 := by omega
  rcases kk with rfl | rfl | rfl | rfl | rfl | rfl
  · simp only [if_pos] at h hst
    injection hst with hst
    subst hst
    split at h
    · rename_i hz
      simp only [Prod.mk.injEq] at h
      obtain ⟨rfl, rfl, _⟩ := h
      have hn := hfa.1 (Or.inl rfl)
      have e := Int.ediv_mul_cancel (Int.dvd_of_emod_eq_zero hz)
      have q0 : 0 ≤ p / N := Int.ediv_nonneg (by omega) (by omega)
      have i1 : t / N * N ≤ t := Int.ediv_mul_le t (by omega)
      have : t / N * N * (p / N) ≤ t * (p / N) := Int.mul_le_mul_of_nonneg_right i1 q0
      have e2 : t / N * p = t / N * N * (p / N) := by rw [Int.mul_assoc, Int.mul_comm N, e]
      refine ⟨by omega, fun hd => ?_⟩
      simp [delaysB] at hd
    · simp only [Prod.mk.injEq] at h; omega
  · simp only [if_pos, if_neg (show ¬ (4 : Int) = 3 by decide)] at h hst
    split at h
    · rename_i hz
      split at hst
      · injection hst with hst
        subst hst
        simp only [Prod.mk.injEq] at h
        obtain ⟨rfl, rfl, _⟩ := h
        have e : t * N * p = t * (p * N) := by rw [Int.mul_assoc, Int.mul_comm N]
        refine ⟨by omega, fun hd => ?_⟩
        simp [delaysB] at hd
      · cases hst
    · simp only [Prod.mk.injEq] at h; omega
  · simp at h hst
    subst hst
    split at h
    · rename_i hz
      have hn := hfa.2 rfl
      have q0 := Int.ediv_nonneg (Int.mul_nonneg (show 0 ≤ p by omega) hn.2.2.1) (show 0 ≤ d by omega)
      unfold fin at h
      split at h
      · simp only [Prod.mk.injEq] at h
        obtain ⟨rfl, rfl, _⟩ := h
        refine ⟨by omega, fun hd => ?_⟩
        simp [delaysB] at hd
        have n1 : 1 ≤ N := by omega
        have pn : p * 1 ≤ p * N := Int.mul_le_mul_of_nonneg_left n1 (by omega)
        have e := Int.ediv_mul_cancel (Int.dvd_of_emod_eq_zero hz)
        have hq : 1 ≤ p * N / d := by
          apply Classical.byContradiction; intro hc
          have := Int.mul_le_mul_of_nonneg_right (show p * N / d ≤ 0 by omega) (show 0 ≤ d by omega)
          omega
        omega
      · simp only [Prod.mk.injEq] at h; omega
    · simp only [Prod.mk.injEq] at h; omega
  · simp at h hst
    subst hst
    obtain ⟨rfl, rfl⟩ := h
    have e : (t - 1) * p = t * p - p := by rw [Int.sub_mul, Int.one_mul]
    exact ⟨by omega, fun _ => by omega⟩
  · simp at h hst
    obtain ⟨_, rfl⟩ := hst
    unfold fin at h
    split at h
    · simp only [Prod.mk.injEq] at h
      obtain ⟨rfl, rfl, _⟩ := h
      have e : (t + 1) * p = t * p + p := by rw [Int.add_mul, Int.one_mul]
      refine ⟨by omega, fun hd => ?_⟩
      simp [delaysB] at hd
    · simp only [Prod.mk.injEq] at h; omega
  · simp at h hst
    subst hst
    split at h
    · simp only [Prod.mk.injEq] at h
      obtain ⟨rfl, rfl, _⟩ := h
      have e : (t - 1) * p = t * p - p := by rw [Int.sub_mul, Int.one_mul]
      refine ⟨by omega, fun hd => ?_⟩
      simp [delaysB] at hd
    · simp only [Prod.mk.injEq] at h; omega

theorem dates_all : ∀ (l : List Op3) (p f p' f' n i : Int), rightB p f = true → allFrom p f l = (p', f', 0) → backA l.reverse n = .ok i →
    rightB p' f' = true ∧ f + i * p ≤ f' + n * p' ∧ (l.any delaysB = true → f + i * p < f' + n * p') := by
  intro l
  induction l with
  | nil =>
    intro p f p' f' n i hr h hb
    simp only [allFrom, Prod.mk.injEq] at h
    obtain ⟨rfl, rfl, _⟩ := h
    simp only [List.reverse_nil, backA] at hb
    injection hb with hb
    subst hb
    exact ⟨hr, Int.le_refl _, fun h => by simp at h⟩
  | cons o r ih =>
    intro p f p' f' n i hr h hb
    obtain ⟨k, N, d⟩ := o
    rw [List.reverse_cons, backA_cat] at hb
    rw [allFrom] at h
    rcases ha : applyP p f k N d with ⟨p1, f1, e1⟩
    simp only [ha] at h
    split at h
    · rename_i he
      subst he
      cases hx : backA r.reverse n with
      | error e => rw [hx] at hb; cases hb
      | ok t =>
        rw [hx] at hb
        simp only [backA] at hb
        cases hs : stepA (k, N, d) t with
        | error e => rw [hs] at hb; cases hb
        | ok i' =>
          rw [hs] at hb
          injection hb with hb
          subst hb
          have h1 := date_step ha hs
          have h2 := ih p1 f1 p' f' n t (applyP_right ha).2.1 h hx
          refine ⟨h2.1, by omega, fun hd => ?_⟩
          rw [List.any_cons, Bool.or_eq_true] at hd
          rcases hd with hd | hd
          · have := h1.2 hd; omega
          · have := h2.2.2 hd; omega
    · rename_i he
      simp only [Prod.mk.injEq] at h
      exact absurd h.2.2 he

theorem cells2' {w : World} {b : Nat} {v0 v1 : Value} {t : TypeId} (h : w.heap[b]? = some (.cells #[v0, v1] t (0, 0))) :
    (w.cell? ⟨b, 0, none⟩ = some v0 ∧ w.cell? ⟨b, 1, none⟩ = some v1) ∧ b < w.heap.size := by
  refine ⟨⟨?_, ?_⟩, (Array.getElem?_eq_some_iff.1 h).1⟩ <;> simp [World.cell?, h]
/-- The clock's box stays where it was. -/
structure CB (w W : World) (p f : Int) : Prop where
  below : Below w.heap.size w W
  box : W.heap[w.heap.size]? = some (.cells #[.int .i64 p, .int .i64 f] 36 (0, 0))
theorem CB.new (w : World) (p f : Int) : CB w (w.alloc (.cells #[.int .i64 p, .int .i64 f] 36)) p f := ⟨(Below.refl _ _).alloc (Nat.le_refl _) _, heap_new w _⟩
theorem CB.keep {w W W' : World} {p f : Int} (h : CB w W p f) (hb : Below W.heap.size W W') : CB w W' p f := ⟨h.1.trans (hb.mono h.1.size), (hb.block _ (lt_of_block h.2)).trans h.2⟩
theorem CB.alloc {w W : World} {p f : Int} (h : CB w W p f) (o : Obj) : CB w (W.alloc o) p f := h.keep ((Below.refl _ _).alloc (Nat.le_refl _) _)
/-- .. and the second clock's box. -/
structure CD (w W : World) (p f : Int) (B : Nat) (p' f' : Int) : Prop where
  one : CB w W p f
  two : W.heap[B]? = some (.cells #[.int .i64 p', .int .i64 f'] 36 (0, 0))
theorem CD.keep {w W W' : World} {p f : Int} {B : Nat} {p' f' : Int} (h : CD w W p f B p' f') (hb : Below W.heap.size W W') : CD w W' p f B p' f' := ⟨h.1.keep hb, (hb.block _ (lt_of_block h.2)).trans h.2⟩

theorem all_opA (p f : Int) (l : List Op3) (a : Option Addr) (cap : Nat) (w : World) (hl : l.length ≤ 9223372036854775807) (hA : OpA w a l) :
    Calls Try.prog 12 #[.agg #[.int .i64 p, .int .i64 f], .slice a l.length cap] w fun e w' => e = .returned (ansT (allP p f l)) ∧ Below w.heap.size w w' := by
  unfold allP
  by_cases h : 1 ≤ p ∧ p ≤ 2000 ∧ 0 ≤ f ∧ f ≤ 2000
  · rw [if_pos (right_yes h)]
    exact all_row p f a cap l w h hl hA
  · rw [right_no h, if_neg (by simp)]
    exact all_wrong p f (.slice a l.length cap) w h

set_option maxHeartbeats 4000000 in
theorem dates_wrong (p f : Int) (l : List Op3) (da : Option Addr) (ca : Nat) (n : Int) (w : World) (hl : l.length ≤ 9223372036854775807) (hA : OpA w da l) (h0 : 0 ≤ n) (h1 : n ≤ 65535) (hr : rightL l = false) :
    Calls Try.prog 6 #[.agg #[.int .i64 p, .int .i64 f], .slice da l.length ca, .int .u16 n] w fun e w' => e = .returned (.bool true) ∧ Below w.heap.size w w' := by
  have HRA := Lib.hid (fun w1 (hb : Below w.heap.size w w1) => right07_any l da ca w1 hl (hA.below hb (Nat.le_refl _)))
  have HAL := Lib.hid (fun w1 (hb : Below w.heap.size w w1) => all_opA p f l da ca w1 hl (hA.below hb (Nat.le_refl _)))
  have HBK := Lib.hid (fun w1 (hb : Below w.heap.size w w1) => back_any l da ca n w1 hl (hA.below hb (Nat.le_refl _)))
  have HLT := Lib.hid (fun w1 (hb : Below w.heap.size w w1) => later_any l da ca w1 hl (hA.below hb (Nat.le_refl _)))
  have u16 : wrap64 n = n := IntWalk.wrap64_in _ (by omega)
  have v16 : IntKind.i64.wrap n = n := IntWalk.i64_in _ (by omega)
  rw [hr] at HRA
  have HB := Lib.hid (CB.new w p f)
  clear hA
  go_enter Try.func6, Try.ntmps6
  go_wp2_with (first | (go_at_call 7; (with_reducible refine (awake07 _).mono ?_); rintro e wx ⟨rfl, hbx⟩; replace HB := Lib.hid (HB.out.keep hbx); clear hbx; obtain ⟨⟨x0, x1⟩, xl⟩ := cells2' HB.out.2) | (go_at_call 8; (with_reducible refine (HRA.out _ HB.out.1).mono ?_); rintro e wx ⟨rfl, hbx⟩; replace HB := Lib.hid (HB.out.keep hbx); clear hbx; obtain ⟨⟨x0, x1⟩, xl⟩ := cells2' HB.out.2))
  go_ret
  exact ⟨rfl, HB.out.1⟩

set_option maxHeartbeats 4000000 in
theorem dates_err (p f : Int) (l : List Op3) (da : Option Addr) (ca : Nat) (n : Int) (w : World) (hl : l.length ≤ 9223372036854775807) (hA : OpA w da l) (h0 : 0 ≤ n) (h1 : n ≤ 65535) (hr : rightL l = true) (p1 f1 e1 : Int) (he : (e1 != 0) = true) (ha : allP p f l = (p1, f1, e1)) :
    Calls Try.prog 6 #[.agg #[.int .i64 p, .int .i64 f], .slice da l.length ca, .int .u16 n] w fun e w' => e = .returned (.bool true) ∧ Below w.heap.size w w' := by
  have HRA := Lib.hid (fun w1 (hb : Below w.heap.size w w1) => right07_any l da ca w1 hl (hA.below hb (Nat.le_refl _)))
  have HAL := Lib.hid (fun w1 (hb : Below w.heap.size w w1) => all_opA p f l da ca w1 hl (hA.below hb (Nat.le_refl _)))
  have HBK := Lib.hid (fun w1 (hb : Below w.heap.size w w1) => back_any l da ca n w1 hl (hA.below hb (Nat.le_refl _)))
  have HLT := Lib.hid (fun w1 (hb : Below w.heap.size w w1) => later_any l da ca w1 hl (hA.below hb (Nat.le_refl _)))
  have u16 : wrap64 n = n := IntWalk.wrap64_in _ (by omega)
  have v16 : IntKind.i64.wrap n = n := IntWalk.i64_in _ (by omega)
  rw [hr] at HRA
  rw [ha] at HAL
  simp only [ansT, ansC] at HAL
  have HB := Lib.hid (CB.new w p f)
  clear hA
  go_enter Try.func6, Try.ntmps6
  go_wp2_with (first | (go_at_call 7; (with_reducible refine (awake07 _).mono ?_); rintro e wx ⟨rfl, hbx⟩; replace HB := Lib.hid (HB.out.keep hbx); clear hbx; obtain ⟨⟨x0, x1⟩, xl⟩ := cells2' HB.out.2) | (go_at_call 8; (with_reducible refine (HRA.out _ HB.out.1).mono ?_); rintro e wx ⟨rfl, hbx⟩; replace HB := Lib.hid (HB.out.keep hbx); clear hbx; obtain ⟨⟨x0, x1⟩, xl⟩ := cells2' HB.out.2) | (go_at_call 12; (with_reducible refine (HAL.out _ HB.out.1).mono ?_); rintro e w3 ⟨rfl, hbx⟩; replace HB := Lib.hid (HB.out.keep hbx); clear hbx; obtain ⟨⟨x0, x1⟩, xl⟩ := cells2' HB.out.2))
  go_ret
  exact ⟨rfl, HB.out.1.alloc HB.out.1.size _⟩

set_option maxHeartbeats 4000000 in
theorem dates_num (p f : Int) (l : List Op3) (da : Option Addr) (ca : Nat) (n : Int) (w : World) (hl : l.length ≤ 9223372036854775807) (hA : OpA w da l) (h0 : 0 ≤ n) (h1 : n ≤ 65535) (hr : rightL l = true) (p1 f1 : Int) (ha : allP p f l = (p1, f1, 0)) (N : Int) (hv : backP l n = (0, N, 2)) :
    Calls Try.prog 6 #[.agg #[.int .i64 p, .int .i64 f], .slice da l.length ca, .int .u16 n] w fun e w' => e = .returned (.bool true) ∧ Below w.heap.size w w' := by
  have HRA := Lib.hid (fun w1 (hb : Below w.heap.size w w1) => right07_any l da ca w1 hl (hA.below hb (Nat.le_refl _)))
  have HAL := Lib.hid (fun w1 (hb : Below w.heap.size w w1) => all_opA p f l da ca w1 hl (hA.below hb (Nat.le_refl _)))
  have HBK := Lib.hid (fun w1 (hb : Below w.heap.size w w1) => back_any l da ca n w1 hl (hA.below hb (Nat.le_refl _)))
  have HLT := Lib.hid (fun w1 (hb : Below w.heap.size w w1) => later_any l da ca w1 hl (hA.below hb (Nat.le_refl _)))
  have u16 : wrap64 n = n := IntWalk.wrap64_in _ (by omega)
  have v16 : IntKind.i64.wrap n = n := IntWalk.i64_in _ (by omega)
  rw [hr] at HRA
  rw [ha] at HAL
  simp only [ansT, ansC] at HAL
  rw [hv] at HBK
  simp only [T3] at HBK
  have HB := Lib.hid (CB.new w p f)
  clear hA
  go_enter Try.func6, Try.ntmps6
  go_wp2_with (first | (go_at_call 7; (with_reducible refine (awake07 _).mono ?_); rintro e wx ⟨rfl, hbx⟩; replace HB := Lib.hid (HB.out.keep hbx); clear hbx; obtain ⟨⟨x0, x1⟩, xl⟩ := cells2' HB.out.2) | (go_at_call 8; (with_reducible refine (HRA.out _ HB.out.1).mono ?_); rintro e wx ⟨rfl, hbx⟩; replace HB := Lib.hid (HB.out.keep hbx); clear hbx; obtain ⟨⟨x0, x1⟩, xl⟩ := cells2' HB.out.2) | (go_at_call 12; (with_reducible refine (HAL.out _ HB.out.1).mono ?_); rintro e w3 ⟨rfl, hbx⟩; replace HB := Lib.hid (HB.out.keep hbx); clear hbx; obtain ⟨⟨x0, x1⟩, xl⟩ := cells2' HB.out.2) | (go_at_call 9; (with_reducible refine (HBK.out _ (HB.out.1.alloc HB.out.1.size _)).mono ?_); rintro e w4 ⟨rfl, hbx⟩; have HD := Lib.hid (CD.keep (⟨HB.out.alloc _, heap_new w3 _⟩ : CD w _ p f w3.heap.size p1 f1) hbx); clear hbx; obtain ⟨⟨x0, x1⟩, xl⟩ := cells2' HD.out.1.2; obtain ⟨⟨y0, y1⟩, yl⟩ := cells2' HD.out.2))
  go_ret
  exact ⟨rfl, HD.out.1.1⟩

set_option maxHeartbeats 4000000 in
theorem dates_none (p f : Int) (l : List Op3) (da : Option Addr) (ca : Nat) (n : Int) (w : World) (hl : l.length ≤ 9223372036854775807) (hA : OpA w da l) (h0 : 0 ≤ n) (h1 : n ≤ 65535) (hr : rightL l = true) (p1 f1 : Int) (ha : allP p f l = (p1, f1, 0)) (hv : backP l n = (0, 0, 0)) :
    Calls Try.prog 6 #[.agg #[.int .i64 p, .int .i64 f], .slice da l.length ca, .int .u16 n] w fun e w' => e = .returned (.bool true) ∧ Below w.heap.size w w' := by
  have HRA := Lib.hid (fun w1 (hb : Below w.heap.size w w1) => right07_any l da ca w1 hl (hA.below hb (Nat.le_refl _)))
  have HAL := Lib.hid (fun w1 (hb : Below w.heap.size w w1) => all_opA p f l da ca w1 hl (hA.below hb (Nat.le_refl _)))
  have HBK := Lib.hid (fun w1 (hb : Below w.heap.size w w1) => back_any l da ca n w1 hl (hA.below hb (Nat.le_refl _)))
  have HLT := Lib.hid (fun w1 (hb : Below w.heap.size w w1) => later_any l da ca w1 hl (hA.below hb (Nat.le_refl _)))
  have u16 : wrap64 n = n := IntWalk.wrap64_in _ (by omega)
  have v16 : IntKind.i64.wrap n = n := IntWalk.i64_in _ (by omega)
  rw [hr] at HRA
  rw [ha] at HAL
  simp only [ansT, ansC] at HAL
  rw [hv] at HBK
  simp only [T3] at HBK
  have HB := Lib.hid (CB.new w p f)
  clear hA
  go_enter Try.func6, Try.ntmps6
  go_wp2_with (first | (go_at_call 7; (with_reducible refine (awake07 _).mono ?_); rintro e wx ⟨rfl, hbx⟩; replace HB := Lib.hid (HB.out.keep hbx); clear hbx; obtain ⟨⟨x0, x1⟩, xl⟩ := cells2' HB.out.2) | (go_at_call 8; (with_reducible refine (HRA.out _ HB.out.1).mono ?_); rintro e wx ⟨rfl, hbx⟩; replace HB := Lib.hid (HB.out.keep hbx); clear hbx; obtain ⟨⟨x0, x1⟩, xl⟩ := cells2' HB.out.2) | (go_at_call 12; (with_reducible refine (HAL.out _ HB.out.1).mono ?_); rintro e w3 ⟨rfl, hbx⟩; replace HB := Lib.hid (HB.out.keep hbx); clear hbx; obtain ⟨⟨x0, x1⟩, xl⟩ := cells2' HB.out.2) | (go_at_call 9; (with_reducible refine (HBK.out _ (HB.out.1.alloc HB.out.1.size _)).mono ?_); rintro e w4 ⟨rfl, hbx⟩; have HD := Lib.hid (CD.keep (⟨HB.out.alloc _, heap_new w3 _⟩ : CD w _ p f w3.heap.size p1 f1) hbx); clear hbx; obtain ⟨⟨x0, x1⟩, xl⟩ := cells2' HD.out.1.2; obtain ⟨⟨y0, y1⟩, yl⟩ := cells2' HD.out.2))
  go_ret
  exact ⟨rfl, HD.out.1.1⟩

set_option maxHeartbeats 4000000 in
theorem dates_early (p f : Int) (l : List Op3) (da : Option Addr) (ca : Nat) (n : Int) (w : World) (hl : l.length ≤ 9223372036854775807) (hA : OpA w da l) (h0 : 0 ≤ n) (h1 : n ≤ 65535) (hr : rightL l = true) (p1 f1 : Int) (ha : allP p f l = (p1, f1, 0)) (i : Int) (i0 : 0 ≤ i) (i1 : i ≤ 1099511627776) (hv : backP l n = (i, 0, 1)) (hr1 : rightB p f = true) (hr2 : rightB p1 f1 = true) (hd : l.any delaysB = true) (hle : f + i * p ≤ f1 + n * p1) (hlt : f + i * p < f1 + n * p1) :
    Calls Try.prog 6 #[.agg #[.int .i64 p, .int .i64 f], .slice da l.length ca, .int .u16 n] w fun e w' => e = .returned (.bool true) ∧ Below w.heap.size w w' := by
  have HRA := Lib.hid (fun w1 (hb : Below w.heap.size w w1) => right07_any l da ca w1 hl (hA.below hb (Nat.le_refl _)))
  have HAL := Lib.hid (fun w1 (hb : Below w.heap.size w w1) => all_opA p f l da ca w1 hl (hA.below hb (Nat.le_refl _)))
  have HBK := Lib.hid (fun w1 (hb : Below w.heap.size w w1) => back_any l da ca n w1 hl (hA.below hb (Nat.le_refl _)))
  have HLT := Lib.hid (fun w1 (hb : Below w.heap.size w w1) => later_any l da ca w1 hl (hA.below hb (Nat.le_refl _)))
  have u16 : wrap64 n = n := IntWalk.wrap64_in _ (by omega)
  have v16 : IntKind.i64.wrap n = n := IntWalk.i64_in _ (by omega)
  rw [hr] at HRA
  rw [ha] at HAL
  simp only [ansT, ansC] at HAL
  rw [hv] at HBK
  simp only [T3] at HBK
  rw [hd] at HLT
  have HD1 := Lib.hid (fun w => date_yes p f i w (right_iff.1 hr1) i0 i1)
  have HD2 := Lib.hid (fun w => date_yes p1 f1 n w (right_iff.1 hr2) h0 (by omega))
  have dle : decide (f + i * p ≤ f1 + n * p1) = true := decide_eq_true hle
  have dlt : decide (f + i * p < f1 + n * p1) = true := decide_eq_true hlt
  clear hlt
  clear hle hr1 hr2
  have HB := Lib.hid (CB.new w p f)
  clear hA
  go_enter Try.func6, Try.ntmps6
  go_wp2_with (first | (go_at_call 7; (with_reducible refine (awake07 _).mono ?_); rintro e wx ⟨rfl, hbx⟩; replace HB := Lib.hid (HB.out.keep hbx); clear hbx; obtain ⟨⟨x0, x1⟩, xl⟩ := cells2' HB.out.2) | (go_at_call 8; (with_reducible refine (HRA.out _ HB.out.1).mono ?_); rintro e wx ⟨rfl, hbx⟩; replace HB := Lib.hid (HB.out.keep hbx); clear hbx; obtain ⟨⟨x0, x1⟩, xl⟩ := cells2' HB.out.2) | (go_at_call 12; (with_reducible refine (HAL.out _ HB.out.1).mono ?_); rintro e w3 ⟨rfl, hbx⟩; replace HB := Lib.hid (HB.out.keep hbx); clear hbx; obtain ⟨⟨x0, x1⟩, xl⟩ := cells2' HB.out.2) | (go_at_call 9; (with_reducible refine (HBK.out _ (HB.out.1.alloc HB.out.1.size _)).mono ?_); rintro e w4 ⟨rfl, hbx⟩; have HD := Lib.hid (CD.keep (⟨HB.out.alloc _, heap_new w3 _⟩ : CD w _ p f w3.heap.size p1 f1) hbx); clear hbx; obtain ⟨⟨x0, x1⟩, xl⟩ := cells2' HD.out.1.2; obtain ⟨⟨y0, y1⟩, yl⟩ := cells2' HD.out.2))
  go_region_with (first | (go_at_call 13; (with_reducible refine (HD1.out _).mono ?_); rintro e wx ⟨rfl, hbx⟩; replace HD := Lib.hid (HD.out.keep (by first | exact hbx | exact of_drew hbx)); clear hbx; obtain ⟨⟨x0, x1⟩, xl⟩ := cells2' HD.out.1.2; obtain ⟨⟨y0, y1⟩, yl⟩ := cells2' HD.out.2) | (go_at_call 13; (with_reducible refine (HD2.out _).mono ?_); rintro e wx ⟨rfl, hbx⟩; replace HD := Lib.hid (HD.out.keep (by first | exact hbx | exact of_drew hbx)); clear hbx; obtain ⟨⟨x0, x1⟩, xl⟩ := cells2' HD.out.1.2; obtain ⟨⟨y0, y1⟩, yl⟩ := cells2' HD.out.2))
  all_goals
    go_wp2_with (go_at_call 14; (with_reducible refine (HLT.out _ HD.out.1.1).mono ?_); rintro e wx ⟨rfl, hbx⟩; replace HD := Lib.hid (HD.out.keep (by first | exact hbx | exact of_drew hbx)); clear hbx; obtain ⟨⟨x0, x1⟩, xl⟩ := cells2' HD.out.1.2; obtain ⟨⟨y0, y1⟩, yl⟩ := cells2' HD.out.2)
    go_ret
    exact ⟨rfl, HD.out.1.1⟩

set_option maxHeartbeats 4000000 in
theorem dates_same (p f : Int) (l : List Op3) (da : Option Addr) (ca : Nat) (n : Int) (w : World) (hl : l.length ≤ 9223372036854775807) (hA : OpA w da l) (h0 : 0 ≤ n) (h1 : n ≤ 65535) (hr : rightL l = true) (p1 f1 : Int) (ha : allP p f l = (p1, f1, 0)) (i : Int) (i0 : 0 ≤ i) (i1 : i ≤ 1099511627776) (hv : backP l n = (i, 0, 1)) (hr1 : rightB p f = true) (hr2 : rightB p1 f1 = true) (hd : l.any delaysB = false) (hle : f + i * p ≤ f1 + n * p1) :
    Calls Try.prog 6 #[.agg #[.int .i64 p, .int .i64 f], .slice da l.length ca, .int .u16 n] w fun e w' => e = .returned (.bool true) ∧ Below w.heap.size w w' := by
  have HRA := Lib.hid (fun w1 (hb : Below w.heap.size w w1) => right07_any l da ca w1 hl (hA.below hb (Nat.le_refl _)))
  have HAL := Lib.hid (fun w1 (hb : Below w.heap.size w w1) => all_opA p f l da ca w1 hl (hA.below hb (Nat.le_refl _)))
  have HBK := Lib.hid (fun w1 (hb : Below w.heap.size w w1) => back_any l da ca n w1 hl (hA.below hb (Nat.le_refl _)))
  have HLT := Lib.hid (fun w1 (hb : Below w.heap.size w w1) => later_any l da ca w1 hl (hA.below hb (Nat.le_refl _)))
  have u16 : wrap64 n = n := IntWalk.wrap64_in _ (by omega)
  have v16 : IntKind.i64.wrap n = n := IntWalk.i64_in _ (by omega)
  rw [hr] at HRA
  rw [ha] at HAL
  simp only [ansT, ansC] at HAL
  rw [hv] at HBK
  simp only [T3] at HBK
  rw [hd] at HLT
  have HD1 := Lib.hid (fun w => date_yes p f i w (right_iff.1 hr1) i0 i1)
  have HD2 := Lib.hid (fun w => date_yes p1 f1 n w (right_iff.1 hr2) h0 (by omega))
  have dle : decide (f + i * p ≤ f1 + n * p1) = true := decide_eq_true hle
  clear hle hr1 hr2
  have HB := Lib.hid (CB.new w p f)
  clear hA
  go_enter Try.func6, Try.ntmps6
  go_wp2_with (first | (go_at_call 7; (with_reducible refine (awake07 _).mono ?_); rintro e wx ⟨rfl, hbx⟩; replace HB := Lib.hid (HB.out.keep hbx); clear hbx; obtain ⟨⟨x0, x1⟩, xl⟩ := cells2' HB.out.2) | (go_at_call 8; (with_reducible refine (HRA.out _ HB.out.1).mono ?_); rintro e wx ⟨rfl, hbx⟩; replace HB := Lib.hid (HB.out.keep hbx); clear hbx; obtain ⟨⟨x0, x1⟩, xl⟩ := cells2' HB.out.2) | (go_at_call 12; (with_reducible refine (HAL.out _ HB.out.1).mono ?_); rintro e w3 ⟨rfl, hbx⟩; replace HB := Lib.hid (HB.out.keep hbx); clear hbx; obtain ⟨⟨x0, x1⟩, xl⟩ := cells2' HB.out.2) | (go_at_call 9; (with_reducible refine (HBK.out _ (HB.out.1.alloc HB.out.1.size _)).mono ?_); rintro e w4 ⟨rfl, hbx⟩; have HD := Lib.hid (CD.keep (⟨HB.out.alloc _, heap_new w3 _⟩ : CD w _ p f w3.heap.size p1 f1) hbx); clear hbx; obtain ⟨⟨x0, x1⟩, xl⟩ := cells2' HD.out.1.2; obtain ⟨⟨y0, y1⟩, yl⟩ := cells2' HD.out.2))
  go_region_with (first | (go_at_call 13; (with_reducible refine (HD1.out _).mono ?_); rintro e wx ⟨rfl, hbx⟩; replace HD := Lib.hid (HD.out.keep (by first | exact hbx | exact of_drew hbx)); clear hbx; obtain ⟨⟨x0, x1⟩, xl⟩ := cells2' HD.out.1.2; obtain ⟨⟨y0, y1⟩, yl⟩ := cells2' HD.out.2) | (go_at_call 13; (with_reducible refine (HD2.out _).mono ?_); rintro e wx ⟨rfl, hbx⟩; replace HD := Lib.hid (HD.out.keep (by first | exact hbx | exact of_drew hbx)); clear hbx; obtain ⟨⟨x0, x1⟩, xl⟩ := cells2' HD.out.1.2; obtain ⟨⟨y0, y1⟩, yl⟩ := cells2' HD.out.2))
  all_goals
    go_wp2_with (go_at_call 14; (with_reducible refine (HLT.out _ HD.out.1.1).mono ?_); rintro e wx ⟨rfl, hbx⟩; replace HD := Lib.hid (HD.out.keep (by first | exact hbx | exact of_drew hbx)); clear hbx; obtain ⟨⟨x0, x1⟩, xl⟩ := cells2' HD.out.1.2; obtain ⟨⟨y0, y1⟩, yl⟩ := cells2' HD.out.2)
    go_ret
    exact ⟨rfl, HD.out.1.1⟩

theorem walk (p f : Int) (v1 : Value) (n : Int) (w : World) (hv : InOps w v1) (h0 : 0 ≤ n) (h1 : n ≤ 65535) :
    Calls Try.prog 6 #[.agg #[.int .i64 p, .int .i64 f], v1, .int .u16 n] w fun e w' => e = .returned (.bool true) ∧ Below w.heap.size w w' := by
  obtain ⟨l, da, ca, hrow, hc1, hc2, rfl⟩ := hv
  have hA := opA_row hrow
  have hl : l.length ≤ 9223372036854775807 := by omega
  cases hr : rightL l with
  | false => exact dates_wrong p f l da ca n w hl hA h0 h1 hr
  | true =>
    rcases ha : allP p f l with ⟨p1, f1, e1⟩
    by_cases he : e1 = 0
    · subst he
      have hrp : rightB p f = true := by
        cases hh : rightB p f with
        | true => rfl
        | false => unfold allP at ha; rw [hh, if_neg (by simp)] at ha; simp at ha
      have haf : allFrom p f l = (p1, f1, 0) := by unfold allP at ha; rwa [hrp, if_pos rfl] at ha
      have wl := rightL_wrong hr
      have eb : backP l n = outA (backA l.reverse n) := by unfold backP; rw [if_neg (by rw [wl]; simp; omega)]
      rcases backA_in l.reverse n (by rw [List.any_reverse]; exact wl) h0 (by omega) with ⟨i, g, g0, g1⟩ | ⟨N, g⟩ | g
      · have H := dates_all l p f p1 f1 n i hrp haf g
        have hv : backP l n = (i, 0, 1) := by rw [eb, g]; rfl
        cases hd : l.any delaysB with
        | true => exact dates_early p f l da ca n w hl hA h0 h1 hr p1 f1 ha i g0 g1 hv hrp H.1 hd H.2.1 (H.2.2 hd)
        | false => exact dates_same p f l da ca n w hl hA h0 h1 hr p1 f1 ha i g0 g1 hv hrp H.1 hd H.2.1
      · exact dates_num p f l da ca n w hl hA h0 h1 hr p1 f1 ha N (by rw [eb, g]; rfl)
      · exact dates_none p f l da ca n w hl hA h0 h1 hr p1 f1 ha (by rw [eb, g]; rfl)
    · exact dates_err p f l da ca n w hl hA h0 h1 hr p1 f1 e1 (by simpa using he) ha

set_option maxRecDepth 100000 in
theorem lifted (os : Os) (started : os.Started) (H : Type) (enc : TypeId × Value → H) :
    ReturnsInHanded {} Try.checked os 6 .any (Rows.indexDatesSpec.pre6 enc Try.prog Try.f6 Rows.indexDatesRow.domain false) (Rows.indexDatesSpec.post enc Try.prog Try.f6 false true false false) := by
  refine returnsInHanded_of_change (C := Try.checked) own started (by kernel_rfl) Try.func6
    (ChangeSpec.witness6 (enc := enc) (C := Try.checked) false ⟨#[], #[.agg #[.int .i64 0, .int .i64 0], .slice none 0 0, .int .u16 0], []⟩ 8 (by kernel_rfl) (by kernel_rfl) (by kernel_rfl) (by kernel_rfl)) ?_
  intro W base args ds gs before hval0 hW hcnd _
  have hval : ∀ (j : Nat) t v, Try.f6.params[j]? = some t → args[j]? = some v → Value.okWide Try.prog W .any base t v := hval0
  have hW' := hW
  obtain ⟨p, q, hA0, hV, rfl, hfz, hnd⟩ := hW
  have hA : DataW.TrodAll enc Try.prog W 0 (fun _ => true) true Try.f6.params.toList args.toList ds p := hA0
  rw [Try.params6] at hA hval
  obtain ⟨v0, vs0, d0, ds0, q0, qs0, hargs, rfl, rfl, h0, r0⟩ := trodAll_cons hA
  obtain ⟨v1, vs1, d1, ds1, q1, qs1, rfl, rfl, rfl, h1, r1⟩ := trodAll_cons r0
  obtain ⟨v2, vs2, d2, ds2, q2, qs2, rfl, rfl, rfl, h2, r2⟩ := trodAll_cons r1
  obtain ⟨rfl, rfl, rfl⟩ := trodAll_nil r2
  obtain rfl : args = #[v0, v1, v2] := by cases args; simp_all
  obtain ⟨rfl, rfl⟩ := trodVars_none hV
  have k0 := h0
  have lt0 : ∀ x ∈ q0, x.block < W.heap.size := by obtain ⟨m, hm⟩ := k0; exact DataW.trod_lt m _ _ _ hm
  have k1 := h1
  have lt1 : ∀ x ∈ q1, x.block < W.heap.size := by obtain ⟨m, hm⟩ := k1; exact DataW.trod_lt m _ _ _ hm
  have k2 := h2
  have lt2 : ∀ x ∈ q2, x.block < W.heap.size := by obtain ⟨m, hm⟩ := k2; exact DataW.trod_lt m _ _ _ hm
  obtain ⟨c0p, c0f, y0p, y0f, m0, rfl, _, _, t0p, t0f⟩ := open_agg2 Try.underlying36 (by kernel_rfl) (by kernel_rfl) (hval 0 36 v0 rfl rfl) h0
  obtain ⟨p0, e0p, _, w0p⟩ := DataW.trod_int Try.underlying2 t0p
  obtain ⟨f0, e0f, _, w0f⟩ := DataW.trod_int Try.underlying2 t0f
  simp only [List.cons.injEq, and_true] at e0p e0f
  subst e0p e0f
  have w1 := open_opsV (hval 1 22 v1 rfl rfl) h1
  obtain ⟨a2, rfl, rfl, rfl, w2⟩ := open_int Try.underlying23 (hval 2 23 v2 rfl rfl) h2
  clear hA0 hval0
  refine (walk p0 f0 v1 a2 W w1 (bounds_u16 w2).1 (bounds_u16 w2).2).mono fun e W' ⟨he, bel⟩ => ?_
  subst he
  exact ⟨_, rfl, _, _, _, [], _, [], hW', trodAll_mk1 (shut_bool Try.underlying4 _), (trodAll_cons_mk (Below.trod laidOut (by kernel_rfl) (of_decide_eq_true (by kernel_rfl)) k0 bel lt0) (trodAll_cons_mk (Below.trod laidOut (by kernel_rfl) (of_decide_eq_true (by kernel_rfl)) k1 bel lt1) (trodAll_cons_mk (Below.trod laidOut (by kernel_rfl) (of_decide_eq_true (by kernel_rfl)) k2 bel lt2) trodAll_mk0))), rfl, bel.frame _, fun h => by cases h⟩

theorem over : Rows.indexDatesRow.holds Try.pinned (OpenSpec.ofChange Rows.indexDatesSpec) :=
  OpenClaim.holds_of_wide 6 Try.f6 rfl rfl rfl rfl rfl rfl rfl ⟨rfl, rfl, rfl, rfl, rfl⟩ rfl rfl rfl rfl rfl (by kernel_rfl) Try.func6 (by kernel_rfl)
    (of_decide_eq_true (by kernel_rfl)) (by unfold Func.isWrapper; first | (rw [if_pos (by decide +kernel)]; kernel_rfl) | (rw [if_neg (by decide +kernel)]; exact ⟨rfl, rfl⟩))
    (fun os started H enc _ => lifted os started H enc)

theorem proved : Rows.IndexDatesSaid := over
end Go.Proofs.Ytdlgpfbfhaifgaa.indexDates
