/-
  Contract of the package clock's Hyper.
-/
import Derived.Test.YtipafnggeckojaaClock
namespace Go.Proofs.Ytipafnggeckojaa.clock
open Go.RowKit
set_option linter.unusedVariables false

/-- The least number divisible by both. -/
def lcm2 (h p : Int) : Int := h / arith.gcdOf h p * p
def hyperFrom : Int → List (Int × Int) → Option Int
  | h, [] => some h
  | h, c :: l => if 2000 < lcm2 h c.1 then none else hyperFrom (lcm2 h c.1) l

theorem lcm2_bd {h p : Int} (h1 : 1 ≤ h) (h2 : h ≤ 2000) (p1 : 1 ≤ p) (p2 : p ≤ 2000) : 1 ≤ lcm2 h p ∧ lcm2 h p ≤ 4000000 := by
  have q1 := arith.quo_pos (x := p) h1
  have q2 := arith.quo_le (x := p) h1
  refine ⟨arith.mul_pos1 q1 p1, ?_⟩
  have : h / arith.gcdOf h p * p ≤ 2000 * 2000 := Int.mul_le_mul (by omega) p2 (by omega) (by omega)
  unfold lcm2; omega

theorem lcm_two_val {h p : Int} (h1 : 1 ≤ h) (h2 : h ≤ 2000) (p1 : 1 ≤ p) (p2 : p ≤ 2000) : arith.lcmFrom 1 [h, p] = some (lcm2 h p) := by
  have b := lcm2_bd h1 h2 p1 p2
  rw [arith.lcmFrom, if_neg (by omega), arith.gcdOf_one_left, show (1 : Int) / 1 * h = h by omega, if_neg (by omega), arith.lcmFrom, if_neg (by omega)]
  unfold lcm2 at b ⊢
  rw [if_neg (by omega), arith.lcmFrom]

theorem ints_two (w : World) (a b : Int) : arith.IntsAt (w.alloc (Obj.cells #[.int .i64 a, .int .i64 b] 2)) (.slice (some ⟨w.heap.size, 0, none⟩) 2 2) [a, b] := by
  refine .inr ⟨w.heap.size, 0, 2, rfl, ?_⟩
  intro k hk
  match k, hk with
  | 0, _ => simp [go_sem]
  | 1, _ => simp [go_sem]

theorem lcm_call (h p : Int) (w : World) (B : Nat) (hB : B = w.heap.size) (h1 : 1 ≤ h) (h2 : h ≤ 2000) (p1 : 1 ≤ p) (p2 : p ≤ 2000) :
    Calls Try.prog 13 #[.slice (some ⟨B, 0, none⟩) 2 2] (w.alloc (Obj.cells #[.int .i64 h, .int .i64 p] 2)) fun e w' =>
      e = .returned (.tuple #[.int .i64 (lcm2 h p), .bool true]) ∧ ∃ m, w' = (w.alloc (Obj.cells #[.int .i64 h, .int .i64 p] 2)).drewN m := by
  subst hB
  have := arith.lcm_any [h, p] _ _ (ints_two w h p) (by simp) (by simp; omega)
  rw [lcm_two_val h1 h2 p1 p2] at this
  exact this

/-- A slice of clocks that reads as a list. -/
def ClocksAt (w : World) (v : Value) (l : List (Int × Int)) : Prop :=
  (∃ a cap, v = .slice a 0 cap ∧ l = []) ∨ ∃ b off cap, v = .slice (some ⟨b, off, none⟩) l.length cap ∧ b < w.heap.size ∧
    ∀ k, k < l.length → w.cell? ⟨b, off + k * 2, none⟩ = some (.int .i64 (l.getD k (0, 0)).1) ∧ w.cell? ⟨b, off + k * 2 + 1, none⟩ = some (.int .i64 (l.getD k (0, 0)).2)

def rightC (c : Int × Int) : Prop := 1 ≤ c.1 ∧ c.1 ≤ 2000 ∧ 0 ≤ c.2 ∧ c.2 ≤ 2000
def hyperAns : Option Int → Value
  | none => .tuple #[.int .i64 0, .int .i64 8]
  | some h => .tuple #[.int .i64 h, .int .i64 0]

theorem hyper_nil (a : Option Addr) (cap : Nat) (w : World) :
    Calls Try.prog 7 #[.slice a 0 cap] w fun e w' => e = .returned (.tuple #[.int .i64 1, .int .i64 0]) ∧ Below w.heap.size w w' := by
  go_enter Try.func7, Try.ntmps7
  go_wp2
  go_rounds 1
  go_wp2
  go_rounds 1
  go_ret2
  exact ⟨rfl, Below.refl _ _⟩

theorem hyper_bad (l : List (Int × Int)) (b off cap : Nat) (w : World) (hl : l.length ≤ 9223372036854775807) (hb0 : b < w.heap.size)
    (hcell : ∀ k, k < l.length → w.cell? ⟨b, off + k * 2, none⟩ = some (.int .i64 (l.getD k (0, 0)).1) ∧ w.cell? ⟨b, off + k * 2 + 1, none⟩ = some (.int .i64 (l.getD k (0, 0)).2))
    (hbad : ∃ k, k < l.length ∧ ¬ rightC (l.getD k (0, 0))) :
    Calls Try.prog 7 #[.slice (some ⟨b, off, none⟩) l.length cap] w fun e w' => e = .returned (.tuple #[.int .i64 0, .int .i64 12]) ∧ Below w.heap.size w w' := by
  have HC := Lib.hid hcell
  have HB := Lib.hid hbad
  clear hcell hbad
  go_enter Try.func7, Try.ntmps7
  go_wp2
  go_loopw [13] (fun i wr => ∃ k : Nat, k ≤ l.length ∧ i = .int .i64 k ∧ Hid (∀ j, j < k → rightC (l.getD j (0, 0))) ∧ Hid (Below w.heap.size w wr)) (fun i _ => l.length - (intOf i).toNat)
  case atStart => exact ⟨0, by omega, rfl, fun j hj => by omega, Below.refl _ _⟩
  case round =>
    obtain ⟨k, hk, rfl, HR, HW⟩ := hrel
    by_cases hlt : k < l.length
    · have hh := HC.out k hlt
      obtain ⟨e0, e1⟩ := hh
      rw [← HW.out.cell (p := ⟨b, _, none⟩) hb0] at e0 e1
      have HK : Hid (rightC (l.getD k (0, 0)) → ∀ j, j < k + 1 → rightC (l.getD j (0, 0))) := by
        intro h j hj
        by_cases hjk : j = k
        · rw [hjk]; exact h
        · exact HR.out j (by omega)
      generalize l.getD k (0, 0) = c at *
      obtain ⟨cp, cf⟩ := c
      simp only at e0 e1
      by_cases hr : 1 ≤ cp ∧ cp ≤ 2000 ∧ 0 ≤ cf ∧ cf ≤ 2000
      · have HX := Lib.hid (fun w => right_true cp cf w hr)
        have HN := Lib.hid (HK.out hr)
        clear hr HK
        go_wp2_with (go_at_call 12; (with_reducible refine (HX.out _).mono ?_); rintro e w1 ⟨rfl, hb1⟩; have HB1 := Lib.hid hb1; clear hb1)
        go_roundw
        case rel => exact ⟨k + 1, by omega, by go_num, HN.out, (HW.out.alloc HW.out.size _).trans (HB1.out.mono (by simp; have := HW.out.size; omega))⟩
        case measure => simp [intOf]; omega
      · have HX := Lib.hid (fun w => right_false cp cf w hr)
        clear hr HK
        go_wp2_with (go_at_call 12; (with_reducible refine (HX.out _).mono ?_); rintro e w1 ⟨rfl, hb1⟩; have HB1 := Lib.hid hb1; clear hb1)
        go_ret2
        exact ⟨rfl, (HW.out.alloc HW.out.size _).trans (HB1.out.mono (by simp; have := HW.out.size; omega))⟩
    · exfalso
      obtain ⟨j, hj, hn⟩ := HB.out
      exact hn (HR.out j (by omega))

theorem hdrop_cons {l : List (Int × Int)} {k : Nat} (h : k < l.length) : l.drop k = l.getD k (0, 0) :: l.drop (k + 1) := by
  rw [List.drop_eq_getElem_cons h, plain.getD_lt _ h]
theorem hyper_over {l : List (Int × Int)} {k : Nat} {h : Int} {X : Option Int} (hk : k < l.length) (ho : 2000 < lcm2 h (l.getD k (0, 0)).1) (H : hyperFrom h (l.drop k) = X) : X = none := by
  rw [hdrop_cons hk, hyperFrom, if_pos ho] at H; exact H.symm
theorem hyper_next {l : List (Int × Int)} {k : Nat} {h : Int} {X : Option Int} (hk : k < l.length) (ho : ¬ 2000 < lcm2 h (l.getD k (0, 0)).1) (H : hyperFrom h (l.drop k) = X) : hyperFrom (lcm2 h (l.getD k (0, 0)).1) (l.drop (k + 1)) = X := by
  rw [hdrop_cons hk, hyperFrom, if_neg ho] at H; exact H
theorem hyper_done {l : List (Int × Int)} {k : Nat} {h : Int} {X : Option Int} (hk : l.length ≤ k) (H : hyperFrom h (l.drop k) = X) : X = some h := by
  rw [List.drop_eq_nil_of_le hk, hyperFrom] at H; exact H.symm

theorem hyper_good (l : List (Int × Int)) (b off cap : Nat) (w : World) (hl : l.length ≤ 9223372036854775807) (hb0 : b < w.heap.size)
    (hcell : ∀ k, k < l.length → w.cell? ⟨b, off + k * 2, none⟩ = some (.int .i64 (l.getD k (0, 0)).1) ∧ w.cell? ⟨b, off + k * 2 + 1, none⟩ = some (.int .i64 (l.getD k (0, 0)).2))
    (hgood : ∀ k, k < l.length → rightC (l.getD k (0, 0))) :
    Calls Try.prog 7 #[.slice (some ⟨b, off, none⟩) l.length cap] w fun e w' => e = .returned (hyperAns (hyperFrom 1 l)) ∧ Below w.heap.size w w' := by
  have HC := Lib.hid hcell
  have HG := Lib.hid hgood
  clear hcell hgood
  go_enter Try.func7, Try.ntmps7
  go_wp2
  go_loopw [13] (fun i wr => ∃ k : Nat, k ≤ l.length ∧ i = .int .i64 k ∧ Hid (Below w.heap.size w wr)) (fun i _ => l.length - (intOf i).toNat)
  case atStart => exact ⟨0, by omega, rfl, Below.refl _ _⟩
  case round =>
    obtain ⟨k, hk, rfl, HW⟩ := hrel
    by_cases hlt : k < l.length
    · have hh := HC.out k hlt
      obtain ⟨e0, e1⟩ := hh
      rw [← HW.out.cell (p := ⟨b, _, none⟩) hb0] at e0 e1
      have hr := HG.out k hlt
      unfold rightC at hr
      generalize l.getD k (0, 0) = c at *
      obtain ⟨cp, cf⟩ := c
      simp only at e0 e1 hr
      have HX := Lib.hid (fun w => right_true cp cf w hr)
      clear hr
      go_wp2_with (go_at_call 12; (with_reducible refine (HX.out _).mono ?_); rintro e w1 ⟨rfl, hb1⟩; have HB1 := Lib.hid hb1; clear hb1)
      go_roundw
      case rel => exact ⟨k + 1, by omega, by go_num, (HW.out.alloc HW.out.size _).trans (HB1.out.mono (by simp; have := HW.out.size; omega))⟩
      case measure => simp [intOf]; omega
    · have hk0 : k = l.length := by omega
      subst hk0
      go_wp2
      obtain ⟨wo, rfl⟩ : ∃ wo : World, wo = wr := ⟨_, rfl⟩
      go_loopw [6, 23] (fun h i wr => ∃ (k : Nat) (n : Int), k ≤ l.length ∧ 1 ≤ n ∧ n ≤ 2000 ∧ h = .int .i64 n ∧ i = .int .i64 k ∧ Hid (hyperFrom n (l.drop k) = hyperFrom 1 l) ∧ Hid (Below w.heap.size w wr)) (fun _ i _ => l.length - (intOf i).toNat)
      case atStart => exact ⟨0, 1, by omega, by omega, by omega, rfl, rfl, rfl, HW⟩
      case round =>
        obtain ⟨k, n, hk, n1, n2, rfl, rfl, HH, HV⟩ := hrel
        by_cases hlt : k < l.length
        · have hh := HC.out k hlt
          obtain ⟨e0, e1⟩ := hh
          rw [← HV.out.cell (p := ⟨b, _, none⟩) hb0] at e0 e1
          have hr := HG.out k hlt
          unfold rightC at hr
          have L1 := @hyper_over l k n (hyperFrom 1 l) hlt
          have L2 := @hyper_next l k n (hyperFrom 1 l) hlt
          have HL1 := Lib.hid L1
          have HL2 := Lib.hid L2
          clear L1 L2
          generalize l.getD k (0, 0) = c at *
          obtain ⟨cp, cf⟩ := c
          simp only at e0 e1 hr HL1 HL2
          have p1 := hr.1
          have p2 := hr.2.1
          clear hr
          have bd := lcm2_bd n1 n2 p1 p2
          have b1 := bd.1
          have b2 := bd.2
          clear bd
          have HX := Lib.hid (fun w B hB => lcm_call n cp w B hB n1 n2 p1 p2)
          by_cases ho : 2000 < lcm2 n cp
          · have E := Lib.hid (HL1.out ho HH.out)
            clear HL1 HL2
            go_wp2_with (go_at_call 13; (with_reducible refine (HX.out _ _ (by simp)).mono ?_); rintro e w1 ⟨rfl, m, rfl⟩)
            go_ret2
            exact ⟨by rw [E.out]; rfl, arith.below_drewN ((HV.out.alloc HV.out.size _).alloc (by simp; have := HV.out.size; omega) _) _⟩
          · have E := Lib.hid (HL2.out ho HH.out)
            clear HL1 HL2
            have ho' : lcm2 n cp ≤ 2000 := by omega
            clear ho
            go_wp2_with (go_at_call 13; (with_reducible refine (HX.out _ _ (by simp)).mono ?_); rintro e w1 ⟨rfl, m, rfl⟩)
            go_roundw
            case rel => exact ⟨k + 1, lcm2 n cp, by omega, b1, ho', rfl, by go_num, E, arith.below_drewN ((HV.out.alloc HV.out.size _).alloc (by simp; have := HV.out.size; omega) _) _⟩
            case measure => simp [intOf]; omega
        · have E := Lib.hid (hyper_done (by omega) HH.out)
          have hk0 : k = l.length := by omega
          subst hk0
          go_wp2
          go_ret2
          exact ⟨by rw [E.out]; rfl, HV.out⟩

end Go.Proofs.Ytipafnggeckojaa.clock
