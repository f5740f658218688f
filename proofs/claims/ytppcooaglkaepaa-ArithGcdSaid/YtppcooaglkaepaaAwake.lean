/-
  What the statements ask first: that the program answers at all (Lcm of 4 and 6, Gcd of 4 and 6).
-/
import Derived.Test.YtppcooaglkaepaaGcd
namespace Go.Proofs.Ytppcooaglkaepaa.arith
open Go.RowKit
set_option linter.unusedVariables false

theorem below_drewN {B : Nat} {a w : World} (h : Below B a w) (n : Nat) : Below B a (w.drewN n) := ⟨h.os, h.tape, h.output, h.size, h.block⟩

theorem below_of_drewN {B : Nat} {a w : World} {n : Nat} (h : Below B (a.drewN n) w) : Below B a w := ⟨h.os, h.tape, h.output, h.size, h.block⟩
theorem of_below {w w1 : World} {n : Nat} (h : Below (w.drewN n).heap.size (w.drewN n) w1) : Below w.heap.size w w1 := below_of_drewN h
theorem bool_true {b : Bool} (h : b = true) : Ending.returned (.bool b) = .returned (.bool true) := by rw [h]

theorem lcm46 : lcmFrom 1 [4, 6] = some 12 := by decide +kernel
theorem gcd46 : gcdOf 4 6 = 2 := by decide +kernel

theorem ints46 (w : World) : IntsAt (w.alloc (Obj.cells #[Value.int IntKind.i64 4, Value.int IntKind.i64 6] 2)) (.slice (some ⟨w.heap.size, 0, none⟩) 2 2) [4, 6] := by
  refine .inr ⟨w.heap.size, 0, 2, rfl, ?_⟩
  intro k hk
  match k, hk with
  | 0, _ => simp [go_sem]
  | 1, _ => simp [go_sem]

theorem awake_any (w : World) :
    Calls Try.prog 11 #[] w fun e w' => e = .returned (.bool true) ∧ Below w.heap.size w w' := by
  have L := lcm_any [4, 6] _ _ (ints46 w) (by simp) (by simp)
  rw [lcm46] at L
  simp only [lcmAns] at L
  have HL := Lib.hid L
  clear L
  have G := fun w => gcd_any 4 6 w (by omega) (by omega) (by omega) (by omega)
  rw [gcd46] at G
  have HG := Lib.hid G
  clear G
  go_enter Try.func11, Try.ntmps11
  go_wp2_with (first | (go_at_call 14; refine HL.out.mono ?_; rintro e w' ⟨rfl, m1, rfl⟩) | (go_at_call 12; refine (HG.out _).mono ?_; rintro e w' ⟨rfl, m1, rfl⟩))
  go_ret
  refine ⟨rfl, below_drewN ?_ _⟩
  exact (Below.refl _ _).alloc (Nat.le_refl _) _

end Go.Proofs.Ytppcooaglkaepaa.arith
