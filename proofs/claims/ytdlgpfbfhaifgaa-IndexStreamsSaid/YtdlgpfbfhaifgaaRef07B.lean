/-
  The reference's Back of layer 7, as a function of numbers: the program's.
-/
import Derived.Test.YtdlgpfbfhaifgaaRef07
namespace Go.Proofs.Ytdlgpfbfhaifgaa.index
open Go.RowKit Go.Shelf clock syn lite
set_option linter.unusedVariables false
set_option linter.unusedSimpArgs false

theorem cells3f {w : World} {b : Nat} {v0 v1 v2 : Value} {t : TypeId} (h : w.heap[b]? = some (.cells #[v0, v1, v2] t (0, 0))) :
    (w.cell? ⟨b, 0, none⟩ = some v0 ∧ w.cell? ⟨b, 1, none⟩ = some v1 ∧ w.cell? ⟨b, 2, none⟩ = some v2) ∧ b < w.heap.size ∧ (w.frozen? ⟨b, 0, none⟩ = false ∧ w.frozen? ⟨b, 1, none⟩ = false ∧ w.frozen? ⟨b, 2, none⟩ = false) := by
  refine ⟨⟨?_, ?_, ?_⟩, (Array.getElem?_eq_some_iff.1 h).1, ?_, ?_, ?_⟩ <;> first | (simp [World.cell?, h]; done) | simp [World.frozen?, h]
def Agg3 (a : Ans3) : Value := .agg #[.int .i64 a.1, .int .i64 a.2.1, .int .i64 a.2.2]

theorem right_not_wrong {o : Op3} (h : rightO o = true) : wrongB o = false := by
  unfold rightO at h; have h := of_decide_eq_true h
  unfold wrongB
  split
  · exact decide_eq_false (by omega)
  · exact decide_eq_false (by omega)
theorem rightL_wrong {l : List Op3} (h : rightL l = true) : l.any wrongB = false := by
  unfold rightL at h
  rw [Bool.and_eq_true, List.all_eq_true] at h
  rw [List.any_eq_false]
  intro o ho; rw [right_not_wrong (h.1 o ho)]; decide

def RBRel (w : World) (l : List Op3) (n0 : Int) (v1 v5 : Value) (wr : World) : Prop := ∃ (k : Nat) (m : Int), k ≤ l.length ∧ v5 = .int .i64 ((k : Int) - 1) ∧ v1 = .int .i64 m ∧ 0 ≤ m ∧ m ≤ 1099511627776 ∧ Below w.heap.size w wr ∧
  wr.heap[w.heap.size]? = some (.cells #[.int .i64 0, .int .i64 0, .int .i64 0] 32 (0, 0)) ∧ backA (l.take k).reverse m = backA l.reverse n0

set_option maxRecDepth 100000 in
set_option maxHeartbeats 4000000 in
theorem refBack_any (l : List Op3) (a : Option Addr) (cap : Nat) (n : Int) (w : World) (hl : l.length ≤ 9223372036854775807) (hA : OpA w a l) (h0 : 0 ≤ n) (h1 : n ≤ 1099511627776) (hr : l.all rightO = true) :
    Calls Try.prog 11 #[.slice a l.length cap, .int .i64 n] w fun e w' => e = .returned (Agg3 (outA (backA l.reverse n))) ∧ Below w.heap.size w w' := by
  have HA := Lib.hid hA
  have HR := Lib.hid hr
  have v0 : IntKind.i64.wrap ((l.length : Int) - 1) = (l.length : Int) - 1 := IntWalk.i64_in _ (by omega)
  clear hA hr
  go_enter Try.func11, Try.ntmps11
  go_wp2
  go_loopw [1, 5] (fun v1 v5 wr => Hid (RBRel w l n v1 v5 wr)) (fun _ i _ => (intOf i + 1).toNat)
  case atStart => exact ⟨l.length, n, Nat.le_refl _, by first | rfl | (rw [v0]) | (go_num; rw [v0]), rfl, h0, h1, (by repeat (first | (with_reducible exact Below.refl _ _) | ((with_reducible refine below_setAt ?_ ?_ _); (rotate_left; focus (first | omega | (simp; done) | (simp; omega)))) | ((with_reducible refine Below.alloc ?_ ?_ _); (rotate_left; focus (first | omega | (simp; done) | (simp; omega)))) | (with_reducible refine below_drewN ?_ _) | (with_reducible refine Below.drew ?_))), heap_new w _, by rw [List.take_length]⟩
  case round =>
    obtain ⟨k, m, hk, hv, rfl, hm0, hm1, hB, hbox, hma⟩ := hrel.out
    clear hrel v0
    obtain ⟨⟨z0, z1, z2⟩, zl, y0, y1, y2⟩ := cells3f hbox
    have HB := Lib.hid hB
    have HBX := Lib.hid hbox
    have HMA := Lib.hid hma
    have hsz := hB.size
    cases k with
    | zero =>
      obtain rfl := hv
      have e1 : ((0 : Nat) : Int) - 1 = -1 := rfl
      have E : Hid (backA l.reverse n = .ok m) := by rw [← hma]; rfl
      clear hma hbox hB
      try rw [e1]
      go_wp2
      exact bodyPost_ret (v := Agg3 (m, 0, 1)) (by simp only [results, Try.results11]; go_simp; rfl) rfl ⟨by rw [E.out]; rfl, HB.out.trans (by repeat (first | (with_reducible exact Below.refl _ _) | ((with_reducible refine below_setAt ?_ ?_ _); (rotate_left; focus (first | omega | (simp; done) | (simp; omega)))) | ((with_reducible refine Below.alloc ?_ ?_ _); (rotate_left; focus (first | omega | (simp; done) | (simp; omega)))) | (with_reducible refine below_drewN ?_ _) | (with_reducible refine Below.drew ?_)))⟩
    | succ j =>
      have e1 : ((j + 1 : Nat) : Int) - 1 = (j : Int) := by omega
      rw [e1] at hv
      obtain rfl := hv
      clear e1
      have hjl : j < l.length := by omega
      obtain ⟨b, off, rfl, hb, c0, c1, c2⟩ := (HA.out.below hB (Nat.le_refl _)) j hjl
      have hro : rightO (l.getD j (0, 0, 0)) = true := by have := HR.out; rw [List.all_eq_true] at this; rw [plain.getD_lt _ hjl]; exact this _ (List.getElem_mem hjl)
      rw [take_rev hjl] at hma
      obtain ⟨o, ho⟩ : ∃ o, l.getD j (0, 0, 0) = o := ⟨_, rfl⟩
      rw [ho] at c0 c1 c2 hma hro
      clear ho HMA
      obtain ⟨ok, on, od⟩ := o
      simp only at c0 c1 c2
      have hww := right_not_wrong hro
      unfold rightO at hro
      have hro := of_decide_eq_true hro
      simp only at hro
      have HMA := Lib.hid hma
      have HWW := Lib.hid hww
      clear hma hbox hB hww
      have hkk : ok = 3 ∨ ok = 4 ∨ ok = 5 ∨ ok = 6 ∨ ok = 7 ∨ ok = 8 := by omega
      rcases hkk with rfl | rfl | rfl | rfl | rfl | rfl
      · have hN : 1 ≤ on := by omega
        have hq := quo_le hm0 hN
        have hq1 := hq.1
        have hq2 := hq.2
        clear hq
        have q1 : IntKind.i64.wrap (m.tdiv on) = m / on := by rw [Int.tdiv_eq_ediv_of_nonneg hm0, IntWalk.i64_in _ (by omega)]
        have q2 : (on == 0) = false := beq_eq_false_iff_ne.2 (by omega)
        have q3 : ¬ on = 0 := by omega
        have q4 : decide (1099511627776 < m / on) = false := decide_eq_false (by omega)
        have HE : Hid (stepA (3, on, od) m = .ok (m / on)) := by show _ = _; simp [stepA, stepP, beginsB]
        go_wp2
        go_roundw
        case rel => exact ⟨j, _, by omega, by go_num, rfl, by omega, by omega, HB.out.trans (by repeat (first | (with_reducible exact Below.refl _ _) | ((with_reducible refine below_setAt ?_ ?_ _); (rotate_left; focus (first | omega | (simp; done) | (simp; omega)))) | ((with_reducible refine Below.alloc ?_ ?_ _); (rotate_left; focus (first | omega | (simp; done) | (simp; omega)))) | (with_reducible refine below_drewN ?_ _) | (with_reducible refine Below.drew ?_))), (Below.heap_alloc _ _ _ zl).trans HBX.out, backA_ok HE.out HMA.out⟩
        case measure => first | (simp [intOf]; done) | (simp [intOf]; omega)
      · have hN : 1 ≤ on ∧ on ≤ 100 := by omega
        have p1 := Int.mul_nonneg hm0 (show 0 ≤ on by omega)
        have p2 : m * on ≤ 1099511627776 * 100 := Int.mul_le_mul hm1 hN.2 (by omega) (by omega)
        have q1 : IntKind.i64.wrap (m * on) = m * on := IntWalk.i64_in _ (by omega)
        by_cases hm : m * on ≤ 1099511627776
        · have q4 : decide (1099511627776 < m * on) = false := decide_eq_false (by omega)
          have HE : Hid (stepA (4, on, od) m = .ok (m * on)) := by show _ = _; simp [stepA, stepP, beginsB, hm]
          go_wp2
          go_roundw
          case rel => exact ⟨j, _, by omega, by go_num, rfl, by omega, by omega, HB.out.trans (by repeat (first | (with_reducible exact Below.refl _ _) | ((with_reducible refine below_setAt ?_ ?_ _); (rotate_left; focus (first | omega | (simp; done) | (simp; omega)))) | ((with_reducible refine Below.alloc ?_ ?_ _); (rotate_left; focus (first | omega | (simp; done) | (simp; omega)))) | (with_reducible refine below_drewN ?_ _) | (with_reducible refine Below.drew ?_))), (Below.heap_alloc _ _ _ zl).trans HBX.out, backA_ok HE.out HMA.out⟩
          case measure => first | (simp [intOf]; done) | (simp [intOf]; omega)
        · have q4 : decide (1099511627776 < m * on) = true := decide_eq_true (by omega)
          have HE : Hid (stepA (4, on, od) m = .error (0, 0, 0)) := by show _ = _; simp [stepA, stepP, beginsB, hm]
          go_wp2
          exact bodyPost_ret (v := Agg3 (0, 0, 0)) (by simp only [results, Try.results11]; go_simp; rfl) rfl ⟨by rw [backA_err HE.out HMA.out]; rfl, HB.out.trans (by repeat (first | (with_reducible exact Below.refl _ _) | ((with_reducible refine below_setAt ?_ ?_ _); (rotate_left; focus (first | omega | (simp; done) | (simp; omega)))) | ((with_reducible refine Below.alloc ?_ ?_ _); (rotate_left; focus (first | omega | (simp; done) | (simp; omega)))) | (with_reducible refine below_drewN ?_ _) | (with_reducible refine Below.drew ?_)))⟩
      · have q4 : decide (1099511627776 < m) = false := decide_eq_false (by omega)
        have HE : Hid (stepA (5, on, od) m = .ok m) := by show _ = _; simp [stepA, stepP, beginsB]
        go_wp2
        go_roundw
        case rel => exact ⟨j, _, by omega, by go_num, rfl, by omega, by omega, HB.out.trans (by repeat (first | (with_reducible exact Below.refl _ _) | ((with_reducible refine below_setAt ?_ ?_ _); (rotate_left; focus (first | omega | (simp; done) | (simp; omega)))) | ((with_reducible refine Below.alloc ?_ ?_ _); (rotate_left; focus (first | omega | (simp; done) | (simp; omega)))) | (with_reducible refine below_drewN ?_ _) | (with_reducible refine Below.drew ?_))), (Below.heap_alloc _ _ _ zl).trans HBX.out, backA_ok HE.out HMA.out⟩
        case measure => first | (simp [intOf]; done) | (simp [intOf]; omega)
      · by_cases hm : m = 0
        · subst hm
          have HE : Hid (stepA (6, on, od) 0 = .error (0, on, 2)) := by show _ = _; simp [stepA, stepP, beginsB]
          go_wp2
          exact bodyPost_ret (v := Agg3 (0, on, 2)) (by simp only [results, Try.results11]; go_simp; rfl) rfl ⟨by rw [backA_err HE.out HMA.out]; rfl, HB.out.trans (by repeat (first | (with_reducible exact Below.refl _ _) | ((with_reducible refine below_setAt ?_ ?_ _); (rotate_left; focus (first | omega | (simp; done) | (simp; omega)))) | ((with_reducible refine Below.alloc ?_ ?_ _); (rotate_left; focus (first | omega | (simp; done) | (simp; omega)))) | (with_reducible refine below_drewN ?_ _) | (with_reducible refine Below.drew ?_)))⟩
        · have q4 : decide (1099511627776 < m - 1) = false := decide_eq_false (by omega)
          have q5 : (m == 0) = false := beq_eq_false_iff_ne.2 hm
          have HE : Hid (stepA (6, on, od) m = .ok (m - 1)) := by show _ = _; simp [stepA, stepP, beginsB, hm]
          go_wp2
          go_roundw
          case rel => exact ⟨j, _, by omega, by go_num, rfl, by omega, by omega, HB.out.trans (by repeat (first | (with_reducible exact Below.refl _ _) | ((with_reducible refine below_setAt ?_ ?_ _); (rotate_left; focus (first | omega | (simp; done) | (simp; omega)))) | ((with_reducible refine Below.alloc ?_ ?_ _); (rotate_left; focus (first | omega | (simp; done) | (simp; omega)))) | (with_reducible refine below_drewN ?_ _) | (with_reducible refine Below.drew ?_))), (Below.heap_alloc _ _ _ zl).trans HBX.out, backA_ok HE.out HMA.out⟩
          case measure => first | (simp [intOf]; done) | (simp [intOf]; omega)
      · by_cases hm : m < 1099511627776
        · have q4 : decide (1099511627776 < m + 1) = false := decide_eq_false (by omega)
          have HE : Hid (stepA (7, on, od) m = .ok (m + 1)) := by show _ = _; simp [stepA, stepP, beginsB, hm]
          go_wp2
          go_roundw
          case rel => exact ⟨j, _, by omega, by go_num, rfl, by omega, by omega, HB.out.trans (by repeat (first | (with_reducible exact Below.refl _ _) | ((with_reducible refine below_setAt ?_ ?_ _); (rotate_left; focus (first | omega | (simp; done) | (simp; omega)))) | ((with_reducible refine Below.alloc ?_ ?_ _); (rotate_left; focus (first | omega | (simp; done) | (simp; omega)))) | (with_reducible refine below_drewN ?_ _) | (with_reducible refine Below.drew ?_))), (Below.heap_alloc _ _ _ zl).trans HBX.out, backA_ok HE.out HMA.out⟩
          case measure => first | (simp [intOf]; done) | (simp [intOf]; omega)
        · have q4 : decide (1099511627776 < m + 1) = true := decide_eq_true (by omega)
          have HE : Hid (stepA (7, on, od) m = .error (0, 0, 0)) := by show _ = _; simp [stepA, stepP, beginsB, hm]
          go_wp2
          exact bodyPost_ret (v := Agg3 (0, 0, 0)) (by simp only [results, Try.results11]; go_simp; rfl) rfl ⟨by rw [backA_err HE.out HMA.out]; rfl, HB.out.trans (by repeat (first | (with_reducible exact Below.refl _ _) | ((with_reducible refine below_setAt ?_ ?_ _); (rotate_left; focus (first | omega | (simp; done) | (simp; omega)))) | ((with_reducible refine Below.alloc ?_ ?_ _); (rotate_left; focus (first | omega | (simp; done) | (simp; omega)))) | (with_reducible refine below_drewN ?_ _) | (with_reducible refine Below.drew ?_)))⟩
      · by_cases hm : m = 0
        · subst hm
          have HE : Hid (stepA (8, on, od) 0 = .error (0, on, 2)) := by show _ = _; simp [stepA, stepP, beginsB]
          go_wp2
          exact bodyPost_ret (v := Agg3 (0, on, 2)) (by simp only [results, Try.results11]; go_simp; rfl) rfl ⟨by rw [backA_err HE.out HMA.out]; rfl, HB.out.trans (by repeat (first | (with_reducible exact Below.refl _ _) | ((with_reducible refine below_setAt ?_ ?_ _); (rotate_left; focus (first | omega | (simp; done) | (simp; omega)))) | ((with_reducible refine Below.alloc ?_ ?_ _); (rotate_left; focus (first | omega | (simp; done) | (simp; omega)))) | (with_reducible refine below_drewN ?_ _) | (with_reducible refine Below.drew ?_)))⟩
        · have q4 : decide (1099511627776 < m - 1) = false := decide_eq_false (by omega)
          have q5 : (m == 0) = false := beq_eq_false_iff_ne.2 hm
          have HE : Hid (stepA (8, on, od) m = .ok (m - 1)) := by show _ = _; simp [stepA, stepP, beginsB, hm]
          go_wp2
          go_roundw
          case rel => exact ⟨j, _, by omega, by go_num, rfl, by omega, by omega, HB.out.trans (by repeat (first | (with_reducible exact Below.refl _ _) | ((with_reducible refine below_setAt ?_ ?_ _); (rotate_left; focus (first | omega | (simp; done) | (simp; omega)))) | ((with_reducible refine Below.alloc ?_ ?_ _); (rotate_left; focus (first | omega | (simp; done) | (simp; omega)))) | (with_reducible refine below_drewN ?_ _) | (with_reducible refine Below.drew ?_))), (Below.heap_alloc _ _ _ zl).trans HBX.out, backA_ok HE.out HMA.out⟩
          case measure => first | (simp [intOf]; done) | (simp [intOf]; omega)
end Go.Proofs.Ytdlgpfbfhaifgaa.index
