/-
  Contracts of Gcd and Lcm of the package arith.
-/
import Derived.Test.YtipafnggeckojaaArith
namespace Go.Proofs.Ytipafnggeckojaa.arith
open Go.RowKit
set_option linter.unusedVariables false

/-- The greatest number by which both are divisible, of the sizes of two numbers: what is below 1 counts for nothing. -/
def gcdOf (a b : Int) : Int := ((Nat.gcd a.toNat b.toNat : Nat) : Int)

def GcdRel (a b : Int) (x y : Nat) : Prop := Nat.gcd x y = Nat.gcd a.toNat b.toNat ∧ x ≤ 9223372036854775807 ∧ y ≤ 9223372036854775807

theorem gcdRel_step {a b : Int} {x y : Nat} (h : GcdRel a b x y) (hy : y ≠ 0) : GcdRel a b y (x % y) := by
  obtain ⟨h1, h2, h3⟩ := h
  refine ⟨?_, h3, ?_⟩
  · rw [← h1, Nat.gcd_comm x y, Nat.gcd_rec y x, Nat.gcd_comm]
  · have := Nat.mod_le x y; omega

theorem gcdRel_start {a b x y : Int} (a1 : -9223372036854775808 ≤ a) (a2 : a ≤ 9223372036854775807) (b1 : -9223372036854775808 ≤ b) (b2 : b ≤ 9223372036854775807) : GcdRel a b a.toNat b.toNat :=
  ⟨rfl, by omega, by omega⟩

theorem int_toNat {a : Int} (h : 0 ≤ a) : Value.int .i64 a = .int .i64 (a.toNat : Int) := by rw [Int.toNat_of_nonneg h]
theorem int_zero {a : Int} (h : a < 0) : Value.int .i64 0 = .int .i64 (a.toNat : Int) := by rw [show ((a.toNat : Nat) : Int) = 0 by omega]

theorem gcd_end {a b : Int} {u : Nat} (h : GcdRel a b u 0) : Ending.returned (.int .i64 (u : Int)) = .returned (.int .i64 (gcdOf a b)) := by
  have := h.1; unfold gcdOf; rw [← this, Nat.gcd_zero_right]

theorem gcd_any (a b : Int) (w : World) (a1 : -9223372036854775808 ≤ a) (a2 : a ≤ 9223372036854775807) (b1 : -9223372036854775808 ≤ b) (b2 : b ≤ 9223372036854775807) :
    Calls Try.prog 18 #[.int .i64 a, .int .i64 b] w fun e w' => e = .returned (.int .i64 (gcdOf a b)) ∧ ∃ m, w' = w.drewN m := by
  go_enter Try.func18, Try.ntmps18
  go_wp2
  all_goals
    go_loopw [0, 1] (fun x y wr => ∃ u v : Nat, GcdRel a b u v ∧ x = .int .i64 u ∧ y = .int .i64 v ∧ ∃ m, wr = w.drewN m) (fun _ y _ => (intOf y).toNat)
    case atStart => exact ⟨a.toNat, b.toNat, ⟨rfl, by omega, by omega⟩, by first | exact int_toNat (by assumption) | exact int_zero (by assumption), by first | exact int_toNat (by assumption) | exact int_zero (by assumption), 0, rfl⟩
    case round =>
      obtain ⟨u, v, hr, rfl, rfl, m, rfl⟩ := hrel
      have HR : Hid (GcdRel a b u v) := hr
      have hu : u ≤ 9223372036854775807 := hr.2.1
      have hv : v ≤ 9223372036854775807 := hr.2.2
      clear hr
      by_cases h0 : v = 0
      · subst h0
        go_wp2
        go_ret
        exact ⟨gcd_end HR.out, m, rfl⟩
      · have hb : ((v : Int) == 0) = false := by simp; omega
        have hb' : ((v : Int) != 0) = true := by simp; omega
        have hpos : (1 : Int) ≤ v := by omega
        go_wp2
        go_quiet (fail)
        go_wp2
        go_roundw
        case rel => exact ⟨v, u % v, gcdRel_step HR.out h0, rfl, by go_num, _, World.drewN_drewN ..⟩
        case measure => have := Nat.mod_lt u (show 0 < v by omega); simp [intOf]; omega

/-! ### Lcm -/
/-- The least number that is divisible by all, or none: as the text reckons it. -/
def lcmFrom : Int → List Int → Option Int
  | c, [] => some c
  | c, x :: r => if x < 1 then none else if 9223372036854775807 < c / gcdOf c x * x then none else lcmFrom (c / gcdOf c x * x) r

def lcmAns : Option Int → Value
  | none => .tuple #[.int .i64 0, .bool false]
  | some c => .tuple #[.int .i64 c, .bool true]

/-- A slice of int64s that reads as a list. -/
def IntsAt (w : World) (v : Value) (l : List Int) : Prop :=
  (∃ a cap, v = .slice a 0 cap ∧ l = []) ∨ ∃ b off cap, v = .slice (some ⟨b, off, none⟩) l.length cap ∧ ∀ k, k < l.length → w.cell? ⟨b, off + k, none⟩ = some (.int .i64 (l.getD k 0))

theorem gcdOf_pos {c x : Int} (hc : 1 ≤ c) : 1 ≤ gcdOf c x := by
  unfold gcdOf
  have := Nat.gcd_pos_of_pos_left x.toNat (show 0 < c.toNat by omega)
  omega
theorem gcdOf_le {c x : Int} (hc : 1 ≤ c) : gcdOf c x ≤ c := by
  unfold gcdOf
  have := Nat.gcd_le_left x.toNat (show 0 < c.toNat by omega)
  omega
theorem quo_pos {c x : Int} (hc : 1 ≤ c) : 1 ≤ c / gcdOf c x := by
  have h1 := gcdOf_pos (x := x) hc
  have h2 := gcdOf_le (x := x) hc
  rw [Int.le_ediv_iff_mul_le (by omega)]; omega
theorem quo_le {c x : Int} (hc : 1 ≤ c) : c / gcdOf c x ≤ c := Int.ediv_le_self _ (by omega)
theorem mul_pos1 {a b : Int} (ha : 1 ≤ a) (hb : 1 ≤ b) : 1 ≤ a * b := by
  have := Int.mul_le_mul ha hb (by omega) (by omega); omega

theorem drop_cons {l : List Int} {k : Nat} (h : k < l.length) : l.drop k = l.getD k 0 :: l.drop (k + 1) := by
  rw [List.drop_eq_getElem_cons h, plain.getD_lt 0 h]

theorem lcm_bad {l : List Int} {k : Nat} {c : Int} (h : k < l.length) (hx : l.getD k 0 < 1) (H : lcmFrom c (l.drop k) = lcmFrom 1 l) : lcmFrom 1 l = none := by
  rw [← H, drop_cons h, lcmFrom, if_pos hx]
theorem lcm_over {l : List Int} {k : Nat} {c : Int} (h : k < l.length) (hx : 1 ≤ l.getD k 0) (ho : 9223372036854775807 < c / gcdOf c (l.getD k 0) * l.getD k 0) (H : lcmFrom c (l.drop k) = lcmFrom 1 l) : lcmFrom 1 l = none := by
  rw [← H, drop_cons h, lcmFrom, if_neg (by omega), if_pos ho]
theorem lcm_next {l : List Int} {k : Nat} {c : Int} (h : k < l.length) (hx : 1 ≤ l.getD k 0) (ho : c / gcdOf c (l.getD k 0) * l.getD k 0 ≤ 9223372036854775807) (H : lcmFrom c (l.drop k) = lcmFrom 1 l) :
    lcmFrom (c / gcdOf c (l.getD k 0) * l.getD k 0) (l.drop (k + 1)) = lcmFrom 1 l := by
  rw [← H, drop_cons h, lcmFrom, if_neg (by omega), if_neg (by omega)]
theorem lcm_done {l : List Int} {k : Nat} {c : Int} (h : l.length ≤ k) (H : lcmFrom c (l.drop k) = lcmFrom 1 l) : lcmFrom 1 l = some c := by
  rw [← H, List.drop_eq_nil_of_le h, lcmFrom]

theorem lcm_any (l : List Int) (v : Value) (w : World) (hv : IntsAt w v l) (hn : l.length ≤ 9223372036854775807) (hl : ∀ x ∈ l, x ≤ 9223372036854775807) :
    Calls Try.prog 13 #[v] w fun e w' => e = .returned (lcmAns (lcmFrom 1 l)) ∧ ∃ m, w' = w.drewN m := by
  rcases hv with ⟨a, cap, rfl, rfl⟩ | ⟨b, off, cap, rfl, hc⟩
  · clear hl hn
    go_enter Try.func13, Try.ntmps13
    go_wp2
    go_rounds 1
    go_ret2
    exact ⟨rfl, 0, rfl⟩
  · have HC : Hid (∀ k, k < l.length → w.cell? ⟨b, off + k, none⟩ = some (.int .i64 (l.getD k 0))) := hc
    have HL : Hid (∀ x ∈ l, x ≤ 9223372036854775807) := hl
    clear hc hl
    go_enter Try.func13, Try.ntmps13
    go_wp2
    go_loopw [4, 11] (fun c i wr => ∃ (n : Int) (k : Nat), k ≤ l.length ∧ 1 ≤ n ∧ n ≤ 9223372036854775807 ∧ Hid (lcmFrom n (l.drop k) = lcmFrom 1 l) ∧ c = .int .i64 n ∧ i = .int .i64 k ∧ ∃ m, wr = w.drewN m) (fun _ i _ => l.length - (intOf i).toNat)
    case atStart => exact ⟨1, 0, by omega, by omega, by omega, rfl, rfl, rfl, 0, rfl⟩
    case round =>
      obtain ⟨n, k, hk, hn1, hn2, HR, rfl, rfl, m, rfl⟩ := hrel
      by_cases hlt : k < l.length
      · have hcell := HC.out k hlt
        have hxm : l.getD k 0 ≤ 9223372036854775807 := HL.out _ (plain.getD_mem 0 hlt)
        have L1 := @lcm_bad l k n hlt
        have L2 := @lcm_over l k n hlt
        have L3 := @lcm_next l k n hlt
        have HL1 := Lib.hid L1
        have HL2 := Lib.hid L2
        have HL3 := Lib.hid L3
        clear L1 L2 L3
        generalize l.getD k 0 = x at *
        by_cases hx : x < 1
        · have E := Lib.hid (HL1.out hx HR.out)
          clear HL1 HL2 HL3
          go_wp2
          go_ret2
          exact ⟨by rw [E.out]; rfl, m, rfl⟩
        · have hx1 : 1 ≤ x := by omega
          have g1 := gcdOf_pos (x := x) hn1
          have g2 := gcdOf_le (x := x) hn1
          have q1 := quo_pos (x := x) hn1
          have q2 := quo_le (x := x) hn1
          have p1 := mul_pos1 q1 hx1
          by_cases ho : 9223372036854775807 < n / gcdOf n x * x
          · have E := Lib.hid (HL2.out hx1 ho HR.out)
            clear HL1 HL2 HL3
            go_wp2_with (first | (go_at_call 18; refine (gcd_any _ _ _ (by omega) (by omega) (by omega) (by omega)).mono ?_; rintro e w' ⟨rfl, m1, rfl⟩) | (go_at_call 17; refine (mul_no _ _ _ (by omega) (by omega) (by omega) (by omega) (by omega) (by omega) (by omega)).mono ?_; rintro e w' ⟨rfl, m1, rfl⟩))
            go_ret2
            exact ⟨by rw [E.out]; rfl, _, rfl⟩
          · have E := Lib.hid (HL3.out hx1 (by omega) HR.out)
            have ho' : n / gcdOf n x * x ≤ 9223372036854775807 := by omega
            clear HL1 HL2 HL3 ho
            go_wp2_with (first | (go_at_call 18; refine (gcd_any _ _ _ (by omega) (by omega) (by omega) (by omega)).mono ?_; rintro e w' ⟨rfl, m1, rfl⟩) | (go_at_call 17; refine (mul_yes _ _ _ (by omega) (by omega) (by omega) (by omega) (by omega) (by omega) (by omega) (by omega)).mono ?_; rintro e w' ⟨rfl, m1, rfl⟩))
            go_roundw
            case rel => exact ⟨_, k + 1, by omega, p1, ho', E.out, rfl, by go_num, _, rfl⟩
            case measure => simp [intOf]; omega
      · have E := Lib.hid (lcm_done (by omega) HR.out)
        have hkl : k = l.length := by omega
        subst hkl
        go_wp2
        go_ret2
        exact ⟨by rw [E.out]; rfl, m, rfl⟩

end Go.Proofs.Ytipafnggeckojaa.arith
