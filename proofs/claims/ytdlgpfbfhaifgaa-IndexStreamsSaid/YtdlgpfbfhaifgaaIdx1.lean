/-
  Contracts of the package index: wrong, begins, delays, before; slices.ContainsFunc over operators.
-/
import Derived.Test.YtdlgpfbfhaifgaaAll
namespace Go.Proofs.Ytdlgpfbfhaifgaa.index
open Go.RowKit clock
set_option linter.unusedVariables false

abbrev Op3 := Int × Int × Int
/-- An operator that is none, or has a factor that none has. -/
def wrongB (o : Op3) : Bool := if o.1 = 3 ∨ o.1 = 4 then decide (o.2.1 < 1) else decide (o.1 < 3 ∨ 8 < o.1)
def beginsB (o : Op3) : Bool := decide (o.1 = 6 ∨ o.1 = 8)
def delaysB (o : Op3) : Bool := decide (o.1 = 6 ∨ (o.1 = 5 ∧ ¬ o.2.1 = 0))

theorem wrong_any (k n d : Int) (w : World) :
    Calls Try.prog 16 #[.agg #[.int .i64 k, .int .i64 n, .int .i64 d]] w fun e w' => e = .returned (.bool (wrongB (k, n, d))) ∧ Below w.heap.size w w' := by
  by_cases h34 : k = 3 ∨ k = 4
  · rcases h34 with rfl | rfl
    all_goals
      go_enter Try.func16, Try.ntmps16
      go_wp2
      go_ret
      exact ⟨bool_eq (by simp [wrongB]), box1 _⟩
  · have h3 : (k == 3) = false := beq_eq_false_iff_ne.2 (by omega)
    have h4 : (k == 4) = false := beq_eq_false_iff_ne.2 (by omega)
    have E : Hid (wrongB (k, n, d) = decide (k < 3 ∨ 8 < k)) := by unfold wrongB; exact if_neg h34
    clear h34
    by_cases hl : k < 3
    · go_enter Try.func16, Try.ntmps16
      go_wp2
      go_ret
      exact ⟨bool_eq (by rw [E.out]; simp; omega), box1 _⟩
    · have hl' : decide (k < 3) = false := decide_eq_false hl
      go_enter Try.func16, Try.ntmps16
      go_wp2
      go_ret
      exact ⟨bool_eq (by rw [E.out]; simp; omega), box1 _⟩

theorem begins_any (k n d : Int) (w : World) :
    Calls Try.prog 18 #[.agg #[.int .i64 k, .int .i64 n, .int .i64 d]] w fun e w' => e = .returned (.bool (beginsB (k, n, d))) ∧ Below w.heap.size w w' := by
  by_cases h6 : k = 6
  · subst h6
    go_enter Try.func18, Try.ntmps18
    go_wp2
    go_ret
    exact ⟨bool_eq (by simp [beginsB]), box1 _⟩
  · have h6' : (k == 6) = false := beq_eq_false_iff_ne.2 h6
    have E : Hid (beginsB (k, n, d) = (k == 8)) := by unfold beginsB; show _ = _; cases h : (k == 8) <;> simp_all
    clear h6
    go_enter Try.func18, Try.ntmps18
    go_wp2
    go_ret
    exact ⟨bool_eq (by rw [E.out]), box1 _⟩

theorem delays_any (k n d : Int) (w : World) :
    Calls Try.prog 23 #[.agg #[.int .i64 k, .int .i64 n, .int .i64 d]] w fun e w' => e = .returned (.bool (delaysB (k, n, d))) ∧ Below w.heap.size w w' := by
  by_cases h6 : k = 6
  · subst h6
    go_enter Try.func23, Try.ntmps23
    go_wp2
    go_ret
    exact ⟨bool_eq (by simp [delaysB]), box1 _⟩
  · have h6' : (k == 6) = false := beq_eq_false_iff_ne.2 h6
    by_cases h5 : k = 5
    · subst h5
      have E : Hid (delaysB (5, n, d) = (n != 0)) := by unfold delaysB; show _ = _; simp; cases h : (n != 0) <;> simp_all
      clear h6
      go_enter Try.func23, Try.ntmps23
      go_wp2
      go_ret
      exact ⟨bool_eq (by rw [E.out]), box1 _⟩
    · have h5' : (k == 5) = false := beq_eq_false_iff_ne.2 h5
      have E : Hid (delaysB (k, n, d) = false) := by unfold delaysB; show _ = _; simp [h6, h5]
      clear h6 h5
      go_enter Try.func23, Try.ntmps23
      go_wp2
      go_ret
      exact ⟨bool_eq (by rw [E.out]), box1 _⟩

/-- Where an operator has its n-th value from. -/
def stepP (o : Op3) (n : Int) : Option Int :=
  if o.1 = 3 then some (n / o.2.1)
  else if o.1 = 4 then (if n * o.2.1 ≤ 1099511627776 then some (n * o.2.1) else none)
  else if o.1 = 6 ∨ o.1 = 8 then some (n - 1)
  else if o.1 = 7 then (if n < 1099511627776 then some (n + 1) else none)
  else some n
def BefAns (x : Option Int) (e : Ending) : Prop := match x with
  | some t => e = .returned (.tuple #[.int .i64 t, .bool true])
  | none => ∃ t, e = .returned (.tuple #[.int .i64 t, .bool false])

theorem quo_le {n N : Int} (hn : 0 ≤ n) (hN : 1 ≤ N) : 0 ≤ n / N ∧ n / N ≤ n := by
  have h1 := Int.ediv_nonneg hn (show 0 ≤ N by omega)
  have h2 := Int.ediv_le_self N hn
  exact ⟨h1, h2⟩

theorem before_any (k N d n : Int) (w : World) (hw : wrongB (k, N, d) = false) (h0 : 0 ≤ n) (h1 : n ≤ 1099511627776) (hb : ¬ (n = 0 ∧ beginsB (k, N, d) = true)) :
    Calls Try.prog 19 #[.agg #[.int .i64 k, .int .i64 N, .int .i64 d], .int .i64 n] w fun e w' => BefAns (stepP (k, N, d) n) e ∧ Below w.heap.size w w' := by
  by_cases h3 : k = 3
  · subst h3
    have hN : 1 ≤ N := by simp [wrongB] at hw; omega
    have hq := quo_le h0 hN
    have q1 : IntKind.i64.wrap (n.tdiv N) = n / N := by rw [Int.tdiv_eq_ediv_of_nonneg h0, IntWalk.i64_in _ (by omega)]
    have q2 : (N == 0) = false := beq_eq_false_iff_ne.2 (by omega)
    have q3 : ¬ N = 0 := by omega
    have E : Hid (stepP (3, N, d) n = some (n / N)) := rfl
    clear hw hb hq
    go_enter Try.func19, Try.ntmps19
    go_wp2
    go_ret2
    exact ⟨by rw [E.out]; rfl, (by repeat (first | (with_reducible exact Below.refl _ _) | ((with_reducible refine below_setAt ?_ ?_ _); (rotate_left; focus (first | omega | (simp; done) | (simp; omega)))) | ((with_reducible refine Below.alloc ?_ ?_ _); (rotate_left; focus (first | omega | (simp; done) | (simp; omega)))) | (with_reducible refine below_drewN ?_ _) | (with_reducible refine Below.drew ?_)))⟩
  · have k3 : (k == 3) = false := beq_eq_false_iff_ne.2 h3
    by_cases h4 : k = 4
    · subst h4
      have hN : 1 ≤ N := by simp [wrongB] at hw; omega
      have hq := quo_le (n := 1099511627776) (by omega) hN
      have q1 : IntKind.i64.wrap ((1099511627776 : Int).tdiv N) = 1099511627776 / N := by rw [Int.tdiv_eq_ediv_of_nonneg (by omega), IntWalk.i64_in _ (by omega)]
      have q2 : (N == 0) = false := beq_eq_false_iff_ne.2 (by omega)
      have q3 : ¬ N = 0 := by omega
      by_cases hm : n * N ≤ 1099511627776
      · have hle : n ≤ 1099511627776 / N := (Int.le_ediv_iff_mul_le (by omega)).2 hm
        have hge := Int.mul_nonneg h0 (show 0 ≤ N by omega)
        have v1 : IntKind.i64.wrap (n * N) = n * N := IntWalk.i64_in _ (by omega)
        have E : Hid (stepP (4, N, d) n = some (n * N)) := by unfold stepP; show _ = _; simp [hm]
        clear hw hb hm hge k3
        go_enter Try.func19, Try.ntmps19
        go_wp2
        go_quiet (fail)
        go_wp2
        go_ret2
        exact ⟨by rw [E.out]; rfl, arith.below_drewN (box1 _) _⟩
      · have hle : ¬ n ≤ 1099511627776 / N := fun h => hm ((Int.le_ediv_iff_mul_le (by omega)).1 h)
        have hle' : 1099511627776 / N < n := by omega
        have f1 : decide (n ≤ 1099511627776 / N) = false := decide_eq_false hle
        have E : Hid (stepP (4, N, d) n = none) := by unfold stepP; show _ = _; simp [hm]
        clear hw hb hm hle k3
        go_enter Try.func19, Try.ntmps19
        go_wp2
        go_quiet (fail)
        go_wp2
        go_ret2
        exact ⟨by rw [E.out]; exact ⟨_, rfl⟩, arith.below_drewN (box1 _) _⟩
    · have k4 : (k == 4) = false := beq_eq_false_iff_ne.2 h4
      by_cases h68 : k = 6 ∨ k = 8
      · have hn : 1 ≤ n := by
          have : beginsB (k, N, d) = true := by simp [beginsB, h68]
          have : ¬ n = 0 := fun h => hb ⟨h, this⟩
          omega
        have E : Hid (stepP (k, N, d) n = some (n - 1)) := by unfold stepP; show _ = _; simp [h3, h4, h68]
        clear hw hb h3 h4
        rcases h68 with rfl | rfl
        all_goals
          go_enter Try.func19, Try.ntmps19
          go_wp2
          go_ret2
          exact ⟨by rw [E.out]; rfl, (by repeat (first | (with_reducible exact Below.refl _ _) | ((with_reducible refine below_setAt ?_ ?_ _); (rotate_left; focus (first | omega | (simp; done) | (simp; omega)))) | ((with_reducible refine Below.alloc ?_ ?_ _); (rotate_left; focus (first | omega | (simp; done) | (simp; omega)))) | (with_reducible refine below_drewN ?_ _) | (with_reducible refine Below.drew ?_)))⟩
      · have k6 : (k == 6) = false := beq_eq_false_iff_ne.2 (by omega)
        have k8 : (k == 8) = false := beq_eq_false_iff_ne.2 (by omega)
        by_cases h7 : k = 7
        · subst h7
          by_cases hm : n < 1099511627776
          · have E : Hid (stepP (7, N, d) n = some (n + 1)) := by unfold stepP; show _ = _; simp [hm]
            clear hw hb
            go_enter Try.func19, Try.ntmps19
            go_wp2
            go_ret2
            exact ⟨by rw [E.out]; rfl, (by repeat (first | (with_reducible exact Below.refl _ _) | ((with_reducible refine below_setAt ?_ ?_ _); (rotate_left; focus (first | omega | (simp; done) | (simp; omega)))) | ((with_reducible refine Below.alloc ?_ ?_ _); (rotate_left; focus (first | omega | (simp; done) | (simp; omega)))) | (with_reducible refine below_drewN ?_ _) | (with_reducible refine Below.drew ?_)))⟩
          · have E : Hid (stepP (7, N, d) n = none) := by unfold stepP; show _ = _; simp [hm]
            clear hw hb
            go_enter Try.func19, Try.ntmps19
            go_wp2
            go_ret2
            exact ⟨by rw [E.out]; exact ⟨_, rfl⟩, (by repeat (first | (with_reducible exact Below.refl _ _) | ((with_reducible refine below_setAt ?_ ?_ _); (rotate_left; focus (first | omega | (simp; done) | (simp; omega)))) | ((with_reducible refine Below.alloc ?_ ?_ _); (rotate_left; focus (first | omega | (simp; done) | (simp; omega)))) | (with_reducible refine below_drewN ?_ _) | (with_reducible refine Below.drew ?_)))⟩
        · have k7 : (k == 7) = false := beq_eq_false_iff_ne.2 h7
          have E : Hid (stepP (k, N, d) n = some n) := by unfold stepP; show _ = _; simp [h3, h4, h68, h7]
          clear hw hb h3 h4 h68 h7
          go_enter Try.func19, Try.ntmps19
          go_wp2
          go_ret2
          exact ⟨by rw [E.out]; rfl, (by repeat (first | (with_reducible exact Below.refl _ _) | ((with_reducible refine below_setAt ?_ ?_ _); (rotate_left; focus (first | omega | (simp; done) | (simp; omega)))) | ((with_reducible refine Below.alloc ?_ ?_ _); (rotate_left; focus (first | omega | (simp; done) | (simp; omega)))) | (with_reducible refine below_drewN ?_ _) | (with_reducible refine Below.drew ?_)))⟩

/-! ### ContainsFunc -/
/-- What the cells of a slice of operators hold, wherever it lies. -/
def OpA (w : World) (a : Option Addr) (l : List Op3) : Prop := ∀ k, k < l.length → ∃ b off, a = some ⟨b, off, none⟩ ∧ b < w.heap.size ∧
  w.cell? ⟨b, off + k * 3, none⟩ = some (.int .i64 (l.getD k (0, 0, 0)).1) ∧ w.cell? ⟨b, off + k * 3 + 1, none⟩ = some (.int .i64 (l.getD k (0, 0, 0)).2.1) ∧ w.cell? ⟨b, off + k * 3 + 2, none⟩ = some (.int .i64 (l.getD k (0, 0, 0)).2.2)
theorem OpA.below {B : Nat} {w w1 : World} {a : Option Addr} {l : List Op3} (h : OpA w a l) (hb : Below B w w1) (hB : w.heap.size ≤ B) : OpA w1 a l := by
  intro k hk
  obtain ⟨b, off, rfl, h1, h2, h3, h4⟩ := h k hk
  have hlt : b < B := by omega
  exact ⟨b, off, rfl, Nat.lt_of_lt_of_le h1 hb.size, (hb.cell (p := ⟨b, _, none⟩) hlt).trans h2, (hb.cell (p := ⟨b, _, none⟩) hlt).trans h3, (hb.cell (p := ⟨b, _, none⟩) hlt).trans h4⟩
theorem opA_of {w : World} {v : Value} {l : List Op3} (h : OpsAt w v l) : ∃ a cap, v = .slice a l.length cap ∧ OpA w a l := by
  rcases h with ⟨a, cap, rfl, rfl⟩ | ⟨b, off, cap, rfl, h1, h2⟩
  · exact ⟨a, cap, rfl, fun k hk => by simp at hk⟩
  · exact ⟨_, cap, rfl, fun k hk => ⟨b, off, rfl, h1, h2 k hk⟩⟩

theorem any_take {P : Op3 → Bool} {l : List Op3} {k : Nat} (hk : k < l.length) (h : (l.take k).any P = false) (h2 : P (l.getD k (0, 0, 0)) = false) : (l.take (k + 1)).any P = false := by
  rw [List.take_succ_eq_append_getElem hk, List.any_append, h, ← plain.getD_lt (0, 0, 0) hk]; simp only [List.any_cons, List.any_nil, h2, Bool.or_false]
theorem any_hit {P : Op3 → Bool} {l : List Op3} {k : Nat} (hk : k < l.length) (h2 : P (l.getD k (0, 0, 0)) = true) : l.any P = true := by
  rw [List.any_eq_true]; rw [plain.getD_lt _ hk] at h2; exact ⟨_, List.getElem_mem hk, h2⟩

theorem indexFunc_wrong
    (l : List Op3) (a : Option Addr) (cap : Nat) (w : World) (hl : l.length ≤ 9223372036854775807) (hA : OpA w a l) :
    Calls Try.prog 24 #[.slice a l.length cap, .func (.func 16) #[] #[]] w fun e w' => (∃ i : Int, e = .returned (.int .i64 i) ∧ l.any wrongB = decide (0 ≤ i)) ∧ Below w.heap.size w w' := by
  have HP := Lib.hid wrong_any
  have HA := Lib.hid hA
  clear hA
  go_enter Try.func24, Try.ntmps24
  go_wp2
  go_loopw [8] (fun i wr => ∃ (k : Nat), k ≤ l.length ∧ i = .int .i64 k ∧ Hid (Below w.heap.size w wr ∧ (l.take k).any wrongB = false)) (fun i _ => l.length - (intOf i).toNat)
  case atStart => exact ⟨0, by omega, rfl, Below.refl _ _, by simp⟩
  case round =>
    obtain ⟨k, hk, rfl, hrel⟩ := hrel
    have HR := hrel
    clear hrel
    by_cases hlt : k < l.length
    · obtain ⟨b, off, rfl, hb, c0, c1, c2⟩ := (HA.out.below HR.out.1 (Nat.le_refl _)) k hlt
      have HC := Lib.hid (HP.out (l.getD k (0, 0, 0)).1 (l.getD k (0, 0, 0)).2.1 (l.getD k (0, 0, 0)).2.2)
      have eta : ((l.getD k (0, 0, 0)).1, (l.getD k (0, 0, 0)).2.1, (l.getD k (0, 0, 0)).2.2) = l.getD k (0, 0, 0) := rfl
      rw [eta] at HC
      obtain ⟨x, hx⟩ : ∃ x, l.getD k (0, 0, 0) = x := ⟨_, rfl⟩
      have HX := Lib.hid hx
      rw [hx] at c0 c1 c2 HC
      clear hx eta
      cases hpx : wrongB x with
      | true =>
        rw [hpx] at HC
        go_wp2_with (go_at_call 16; (with_reducible refine (HC.out _).mono ?_); rintro e w1 ⟨rfl, hb1⟩; have HB1 := Lib.hid hb1; clear hb1)
        go_ret
        exact ⟨⟨_, rfl, by rw [any_hit hlt (by rw [HX.out, hpx])]; simp⟩, HR.out.1.trans (HB1.out.mono HR.out.1.size)⟩
      | false =>
        rw [hpx] at HC
        go_wp2_with (go_at_call 16; (with_reducible refine (HC.out _).mono ?_); rintro e w1 ⟨rfl, hb1⟩; have HB1 := Lib.hid hb1; clear hb1)
        go_roundw
        case rel => exact ⟨k + 1, by omega, by go_num, HR.out.1.trans (HB1.out.mono HR.out.1.size), any_take (P := _) hlt HR.out.2 (by rw [HX.out, hpx])⟩
        case measure => simp [intOf]; omega
    · have hk' : k = l.length := by omega
      subst hk'
      have E : Hid (l.any wrongB = false) := by have := HR.out.2; rw [List.take_length] at this; exact this
      go_wp2
      go_ret
      exact ⟨⟨_, rfl, by rw [E.out]; decide⟩, HR.out.1⟩

theorem containsFunc_wrong
    (l : List Op3) (a : Option Addr) (cap : Nat) (w : World) (hl : l.length ≤ 9223372036854775807) (hA : OpA w a l) :
    Calls Try.prog 15 #[.slice a l.length cap, .func (.func 16) #[] #[]] w fun e w' => e = .returned (.bool (l.any wrongB)) ∧ Below w.heap.size w w' := by
  have HC := Lib.hid (indexFunc_wrong l a cap w hl hA)
  clear hA
  go_enter Try.func15, Try.ntmps15
  go_wp2_with (go_at_call 24; (with_reducible refine HC.out.mono ?_); rintro e w1 ⟨⟨i, rfl, hi⟩, hb1⟩; have HI := Lib.hid hi; have HB1 := Lib.hid hb1; clear hi hb1)
  go_ret
  exact ⟨bool_eq (by rw [HI.out]), HB1.out⟩

theorem indexFunc_delays
    (l : List Op3) (a : Option Addr) (cap : Nat) (w : World) (hl : l.length ≤ 9223372036854775807) (hA : OpA w a l) :
    Calls Try.prog 24 #[.slice a l.length cap, .func (.func 23) #[] #[]] w fun e w' => (∃ i : Int, e = .returned (.int .i64 i) ∧ l.any delaysB = decide (0 ≤ i)) ∧ Below w.heap.size w w' := by
  have HP := Lib.hid delays_any
  have HA := Lib.hid hA
  clear hA
  go_enter Try.func24, Try.ntmps24
  go_wp2
  go_loopw [8] (fun i wr => ∃ (k : Nat), k ≤ l.length ∧ i = .int .i64 k ∧ Hid (Below w.heap.size w wr ∧ (l.take k).any delaysB = false)) (fun i _ => l.length - (intOf i).toNat)
  case atStart => exact ⟨0, by omega, rfl, Below.refl _ _, by simp⟩
  case round =>
    obtain ⟨k, hk, rfl, hrel⟩ := hrel
    have HR := hrel
    clear hrel
    by_cases hlt : k < l.length
    · obtain ⟨b, off, rfl, hb, c0, c1, c2⟩ := (HA.out.below HR.out.1 (Nat.le_refl _)) k hlt
      have HC := Lib.hid (HP.out (l.getD k (0, 0, 0)).1 (l.getD k (0, 0, 0)).2.1 (l.getD k (0, 0, 0)).2.2)
      have eta : ((l.getD k (0, 0, 0)).1, (l.getD k (0, 0, 0)).2.1, (l.getD k (0, 0, 0)).2.2) = l.getD k (0, 0, 0) := rfl
      rw [eta] at HC
      obtain ⟨x, hx⟩ : ∃ x, l.getD k (0, 0, 0) = x := ⟨_, rfl⟩
      have HX := Lib.hid hx
      rw [hx] at c0 c1 c2 HC
      clear hx eta
      cases hpx : delaysB x with
      | true =>
        rw [hpx] at HC
        go_wp2_with (go_at_call 23; (with_reducible refine (HC.out _).mono ?_); rintro e w1 ⟨rfl, hb1⟩; have HB1 := Lib.hid hb1; clear hb1)
        go_ret
        exact ⟨⟨_, rfl, by rw [any_hit hlt (by rw [HX.out, hpx])]; simp⟩, HR.out.1.trans (HB1.out.mono HR.out.1.size)⟩
      | false =>
        rw [hpx] at HC
        go_wp2_with (go_at_call 23; (with_reducible refine (HC.out _).mono ?_); rintro e w1 ⟨rfl, hb1⟩; have HB1 := Lib.hid hb1; clear hb1)
        go_roundw
        case rel => exact ⟨k + 1, by omega, by go_num, HR.out.1.trans (HB1.out.mono HR.out.1.size), any_take (P := _) hlt HR.out.2 (by rw [HX.out, hpx])⟩
        case measure => simp [intOf]; omega
    · have hk' : k = l.length := by omega
      subst hk'
      have E : Hid (l.any delaysB = false) := by have := HR.out.2; rw [List.take_length] at this; exact this
      go_wp2
      go_ret
      exact ⟨⟨_, rfl, by rw [E.out]; decide⟩, HR.out.1⟩

theorem containsFunc_delays
    (l : List Op3) (a : Option Addr) (cap : Nat) (w : World) (hl : l.length ≤ 9223372036854775807) (hA : OpA w a l) :
    Calls Try.prog 15 #[.slice a l.length cap, .func (.func 23) #[] #[]] w fun e w' => e = .returned (.bool (l.any delaysB)) ∧ Below w.heap.size w w' := by
  have HC := Lib.hid (indexFunc_delays l a cap w hl hA)
  clear hA
  go_enter Try.func15, Try.ntmps15
  go_wp2_with (go_at_call 24; (with_reducible refine HC.out.mono ?_); rintro e w1 ⟨⟨i, rfl, hi⟩, hb1⟩; have HI := Lib.hid hi; have HB1 := Lib.hid hb1; clear hi hb1)
  go_ret
  exact ⟨bool_eq (by rw [HI.out]), HB1.out⟩

theorem later_any (l : List Op3) (a : Option Addr) (cap : Nat) (w : World) (hl : l.length ≤ 9223372036854775807) (hA : OpA w a l) :
    Calls Try.prog 14 #[.slice a l.length cap] w fun e w' => e = .returned (.bool (l.any delaysB)) ∧ Below w.heap.size w w' := by
  have HC := Lib.hid (containsFunc_delays l a cap w hl hA)
  clear hA
  go_enter Try.func14, Try.ntmps14
  go_wp2_with (go_at_call 15; (with_reducible refine HC.out.mono ?_); rintro e w1 ⟨rfl, hb1⟩; have HB1 := Lib.hid hb1; clear hb1)
  go_ret
  exact ⟨rfl, HB1.out⟩

end Go.Proofs.Ytdlgpfbfhaifgaa.index
