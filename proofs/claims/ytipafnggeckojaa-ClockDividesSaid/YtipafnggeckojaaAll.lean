/-
  Contract of the package clock's Apply, as one function of numbers; of All.
-/
import Derived.Test.YtipafnggeckojaaApply2
namespace Go.Proofs.Ytipafnggeckojaa.clock
open Go.RowKit
set_option linter.unusedVariables false

def fin (p f : Int) : Int × Int × Int := if f ≤ 2000 then (p, f, 0) else (0, 0, 7)
/-- What an operator makes of a clock: period, phase, error. -/
def applyP (p f k n d : Int) : Int × Int × Int :=
  if rightB p f = false ∨ k < 3 ∨ 8 < k then (0, 0, 12)
  else if facB k n d = false then (0, 0, 7)
  else if k = 3 then (if p % n = 0 then (p / n, f, 0) else (0, 0, 5))
  else if k = 4 then (if p * n ≤ 2000 then (p * n, f, 0) else (0, 0, 7))
  else if k = 5 then (if p * n % d = 0 then fin p (f + p * n / d) else (0, 0, 5))
  else if k = 6 then (p, f, 0)
  else if k = 7 then fin p (f + p)
  else if p ≤ f then (p, f - p, 0) else (0, 0, 5)

def ansT (r : Int × Int × Int) : Value := ansC r.1 r.2.1 r.2.2

theorem fac34 {k n d : Int} (hk : k = 3 ∨ k = 4) (h : facB k n d = true) : 1 ≤ n ∧ n ≤ 100 := by
  unfold facB at h; have := of_decide_eq_true h; omega
theorem fac5 {n d : Int} (h : facB 5 n d = true) : 1 ≤ d ∧ d ≤ 100 ∧ 0 ≤ n ∧ n ≤ 100 := by
  unfold facB at h; have := of_decide_eq_true h; omega

theorem quo_right {p n : Int} (h1 : 1 ≤ p) (h2 : p ≤ 2000) (hn : 1 ≤ n) (hz : p % n = 0) : 1 ≤ p / n ∧ p / n ≤ 2000 := by
  have h := plain.ediv_le p n hn
  have h' := h.1 (by omega)
  refine ⟨?_, by omega⟩
  apply Classical.byContradiction; intro hlt
  have h0 : p / n = 0 := by omega
  have := Int.ediv_mul_add_emod p n
  rw [h0, hz] at this; omega
theorem mul_ge {p n : Int} (h1 : 1 ≤ p) (hn : 1 ≤ n) : 1 ≤ p * n := arith.mul_pos1 h1 hn

theorem apply_any (p f k n d : Int) (w : World) :
    Calls Try.prog 11 #[.agg #[.int .i64 p, .int .i64 f], .agg #[.int .i64 k, .int .i64 n, .int .i64 d]] w fun e w' =>
      e = .returned (ansT (applyP p f k n d)) ∧ Below w.heap.size w w' := by
  by_cases h : 1 ≤ p ∧ p ≤ 2000 ∧ 0 ≤ f ∧ f ≤ 2000
  · have hR := right_yes h
    by_cases hk : k < 3 ∨ 8 < k
    · have e : applyP p f k n d = (0, 0, 12) := by unfold applyP; rw [if_pos (.inr hk)]
      rw [e]; exact apply_kind p f k n d w h hk
    · have hk' : 3 ≤ k ∧ k ≤ 8 := by omega
      have n1 : ¬ (rightB p f = false ∨ k < 3 ∨ 8 < k) := by rw [hR]; simp; omega
      cases hn : facB k n d with
      | false =>
        have e : applyP p f k n d = (0, 0, 7) := by unfold applyP; rw [if_neg n1, if_pos hn]
        rw [e]; exact apply_nofit p f k n d w h hk' hn
      | true =>
        have n2 : ¬ (facB k n d = false) := by rw [hn]; simp
        have p1 := h.1
        have p2 := h.2.1
        have f1 := h.2.2.1
        have f2 := h.2.2.2
        have hcases : k = 3 ∨ k = 4 ∨ k = 5 ∨ k = 6 ∨ k = 7 ∨ k = 8 := by omega
        rcases hcases with rfl | rfl | rfl | rfl | rfl | rfl
        · have hf := fac34 (.inl rfl) hn
          by_cases hz : p % n = 0
          · have q := quo_right p1 p2 hf.1 hz
            have e : applyP p f 3 n d = (p / n, f, 0) := by unfold applyP; rw [if_neg n1, if_neg n2, if_pos rfl, if_pos hz]
            rw [e]
            refine apply_yes p f 3 n d (p / n) f w h hk' hn ⟨q.1, q.2, f1, f2⟩ fun w => ?_
            have := change_over p f n d w (by omega) p2 f1 f2 hf.1 hf.2
            rwa [show (p % n == 0) = true by simpa using hz] at this
          · have e : applyP p f 3 n d = (0, 0, 5) := by unfold applyP; rw [if_neg n1, if_neg n2, if_pos rfl, if_neg hz]
            rw [e]
            refine apply_no p f 3 n d (p / n) f w h hk' hn fun w => ?_
            have := change_over p f n d w (by omega) p2 f1 f2 hf.1 hf.2
            rwa [show (p % n == 0) = false by simpa using hz] at this
        · have hf := fac34 (.inr rfl) hn
          have hm := mul_ge p1 hf.1
          by_cases hz : p * n ≤ 2000
          · have e : applyP p f 4 n d = (p * n, f, 0) := by unfold applyP; rw [if_neg n1, if_neg n2, if_neg (by omega), if_pos rfl, if_pos hz]
            rw [e]
            exact apply_yes p f 4 n d (p * n) f w h hk' hn ⟨hm, hz, f1, f2⟩ fun w => change_under p f n d w (by omega) p2 f1 f2 hf.1 hf.2
          · have e : applyP p f 4 n d = (0, 0, 7) := by unfold applyP; rw [if_neg n1, if_neg n2, if_neg (by omega), if_pos rfl, if_neg hz]
            rw [e]
            exact apply_far p f 4 n d (p * n) f w h hk' hn (by omega) fun w => change_under p f n d w (by omega) p2 f1 f2 hf.1 hf.2
        · have hf := fac5 hn
          by_cases hz : p * n % d = 0
          · have e : applyP p f 5 n d = fin p (f + p * n / d) := by unfold applyP; rw [if_neg n1, if_neg n2, if_neg (by omega), if_neg (by omega), if_pos rfl, if_pos hz]
            have HC : ∀ w, Calls Try.prog 16 #[.agg #[.int .i64 p, .int .i64 f], .agg #[.int .i64 5, .int .i64 n, .int .i64 d]] w fun e w' =>
                e = .returned (.tuple #[.agg #[.int .i64 p, .int .i64 (f + p * n / d)], .bool true]) ∧ Below w.heap.size w w' := fun w => by
              have := change_shift p f n d w (by omega) p2 f1 f2 hf.2.2.1 hf.2.2.2 hf.1 hf.2.1
              rwa [show (p * n % d == 0) = true by simpa using hz] at this
            have hq := Int.ediv_nonneg (Int.mul_nonneg (show 0 ≤ p by omega) hf.2.2.1) (show 0 ≤ d by omega)
            rw [e]; unfold fin
            by_cases hr : f + p * n / d ≤ 2000
            · rw [if_pos hr]; exact apply_yes p f 5 n d p (f + p * n / d) w h hk' hn ⟨p1, p2, by omega, hr⟩ HC
            · rw [if_neg hr]; exact apply_far p f 5 n d p (f + p * n / d) w h hk' hn (by omega) HC
          · have e : applyP p f 5 n d = (0, 0, 5) := by unfold applyP; rw [if_neg n1, if_neg n2, if_neg (by omega), if_neg (by omega), if_pos rfl, if_neg hz]
            rw [e]
            refine apply_no p f 5 n d p (f + p * n / d) w h hk' hn fun w => ?_
            have := change_shift p f n d w (by omega) p2 f1 f2 hf.2.2.1 hf.2.2.2 hf.1 hf.2.1
            rwa [show (p * n % d == 0) = false by simpa using hz] at this
        · have e : applyP p f 6 n d = (p, f, 0) := by unfold applyP; rw [if_neg n1, if_neg n2, if_neg (by omega), if_neg (by omega), if_neg (by omega), if_pos rfl]
          rw [e]; exact apply_yes p f 6 n d p f w h hk' hn h fun w => change_fby p f n d w
        · have e : applyP p f 7 n d = fin p (f + p) := by unfold applyP; rw [if_neg n1, if_neg n2, if_neg (by omega), if_neg (by omega), if_neg (by omega), if_neg (by omega), if_pos rfl]
          rw [e]; unfold fin
          by_cases hr : f + p ≤ 2000
          · rw [if_pos hr]; exact apply_yes p f 7 n d p (f + p) w h hk' hn ⟨p1, p2, by omega, hr⟩ fun w => change_tail p f n d w (by omega) p2 f1 f2
          · rw [if_neg hr]; exact apply_far p f 7 n d p (f + p) w h hk' hn (by omega) fun w => change_tail p f n d w (by omega) p2 f1 f2
        · by_cases hz : p ≤ f
          · have e : applyP p f 8 n d = (p, f - p, 0) := by unfold applyP; rw [if_neg n1, if_neg n2, if_neg (by omega), if_neg (by omega), if_neg (by omega), if_neg (by omega), if_neg (by omega), if_pos hz]
            rw [e]
            refine apply_yes p f 8 n d p (f - p) w h hk' hn ⟨p1, p2, by omega, by omega⟩ fun w => ?_
            have := change_cons p f n d w (by omega) p2 f1 f2
            rwa [show decide (p ≤ f) = true by simpa using hz] at this
          · have e : applyP p f 8 n d = (0, 0, 5) := by unfold applyP; rw [if_neg n1, if_neg n2, if_neg (by omega), if_neg (by omega), if_neg (by omega), if_neg (by omega), if_neg (by omega), if_neg hz]
            rw [e]
            refine apply_no p f 8 n d p (f - p) w h hk' hn fun w => ?_
            have := change_cons p f n d w (by omega) p2 f1 f2
            rwa [show decide (p ≤ f) = false by simpa using hz] at this
  · have e : applyP p f k n d = (0, 0, 12) := by unfold applyP; rw [if_pos (.inl (right_no h))]
    rw [e]; exact apply_wrong p f k n d w h


/-! ### All -/
/-- What operators make, one behind the other. -/
def allFrom : Int → Int → List (Int × Int × Int) → Int × Int × Int
  | p, f, [] => (p, f, 0)
  | p, f, o :: l => let r := applyP p f o.1 o.2.1 o.2.2; if r.2.2 = 0 then allFrom r.1 r.2.1 l else (0, 0, r.2.2)
def allP (p f : Int) (l : List (Int × Int × Int)) : Int × Int × Int := if rightB p f = true then allFrom p f l else (0, 0, 12)

/-- A slice of operators that reads as a list. -/
def OpsAt (w : World) (v : Value) (l : List (Int × Int × Int)) : Prop :=
  (∃ a cap, v = .slice a 0 cap ∧ l = []) ∨ ∃ b off cap, v = .slice (some ⟨b, off, none⟩) l.length cap ∧ b < w.heap.size ∧
    ∀ k, k < l.length → w.cell? ⟨b, off + k * 3, none⟩ = some (.int .i64 (l.getD k (0, 0, 0)).1) ∧ w.cell? ⟨b, off + k * 3 + 1, none⟩ = some (.int .i64 (l.getD k (0, 0, 0)).2.1) ∧ w.cell? ⟨b, off + k * 3 + 2, none⟩ = some (.int .i64 (l.getD k (0, 0, 0)).2.2)

theorem all_wrong (p f : Int) (v : Value) (w : World) (h : ¬ (1 ≤ p ∧ p ≤ 2000 ∧ 0 ≤ f ∧ f ≤ 2000)) :
    Calls Try.prog 10 #[.agg #[.int .i64 p, .int .i64 f], v] w fun e w' => e = .returned (ansC 0 0 12) ∧ Below w.heap.size w w' := by
  have HR := Lib.hid (fun w => right_false p f w h)
  clear h
  go_enter Try.func10, Try.ntmps10
  go_wp2_with (go_at_call 12; (with_reducible refine (HR.out _).mono ?_); rintro e w1 ⟨rfl, hb1⟩; obtain ⟨hc1, hf1⟩ := arith.bcell hb1; have ha1 : w.heap.size < w1.heap.size := sz_of hb1 (by first | (simp; done) | (simp; omega)); have hy1 : w.heap.size + 1 < w1.heap.size := sz_of hb1 (by simp))
  exact bodyPost_ret (v := .tuple #[.agg #[.int .i64 0, .int .i64 0], .int .i64 12]) (by simp only [results, Try.results10]; go_simp) rfl ⟨rfl, (by repeat (first | exact Below.refl _ _ | (refine Below.setCell ?_ (by first | omega | (simp; done) | (simp; omega)) _) | (refine Below.alloc ?_ (by first | omega | (simp; done) | (simp; omega)) _) | (refine Below.trans ?_ (hb1.mono (by first | omega | (simp; done) | (simp; omega))))))⟩

/-- What holds at the head of a round of All. -/
def AllRel (B : Nat) (w : World) (p f : Int) (l : List (Int × Int × Int)) (k : Nat) (p' f' : Int) (wr : World) : Prop :=
  allFrom p' f' (l.drop k) = allFrom p f l ∧ Below B w wr ∧ B + 1 < wr.heap.size ∧
  wr.cell? ⟨B, 0, none⟩ = some (.int .i64 p') ∧ wr.cell? ⟨B, 1, none⟩ = some (.int .i64 f') ∧ wr.cell? ⟨B + 1, 0, none⟩ = some (.int .i64 0) ∧ wr.cell? ⟨B + 1, 1, none⟩ = some (.int .i64 0) ∧
  wr.frozen? ⟨B, 0, none⟩ = false ∧ wr.frozen? ⟨B, 1, none⟩ = false ∧ wr.frozen? ⟨B + 1, 0, none⟩ = false ∧ wr.frozen? ⟨B + 1, 1, none⟩ = false

theorem allRel_step {B : Nat} {w wr w2 : World} {p f : Int} {l : List (Int × Int × Int)} {k : Nat} {p' f' p2 f2 : Int} {o o2 : Obj} (h : AllRel B w p f l k p' f' wr)
    (hn : allFrom p2 f2 (l.drop (k + 1)) = allFrom p f l) (hb : Below (wr.alloc o).heap.size (wr.alloc o) w2) :
    AllRel B w p f l (k + 1) p2 f2 (((w2.setCell ⟨B, 0, none⟩ (.int .i64 p2)).setCell ⟨B, 1, none⟩ (.int .i64 f2)).alloc o2) := by
  obtain ⟨hA, hB, hz, c0, c1, c2, c3, z0, z1, z2, z3⟩ := h
  have hs := hb.size
  rw [World.size_alloc] at hs
  have hk : Below wr.heap.size wr w2 := Below.trans ((Below.refl _ _).alloc (Nat.le_refl _) o) (hb.mono (by rw [World.size_alloc]; omega))
  have s0 : B < wr.heap.size := by omega
  have s3 : B < w2.heap.size := by omega
  have s4 : B + 1 < w2.heap.size := by omega
  have d0 := (hk.cell (p := ⟨B, 0, none⟩) s0).trans c0
  have d1 := (hk.cell (p := ⟨B, 1, none⟩) s0).trans c1
  have d2 := (hk.cell (p := ⟨B + 1, 0, none⟩) hz).trans c2
  have d3 := (hk.cell (p := ⟨B + 1, 1, none⟩) hz).trans c3
  have y0 := (hk.frozen (p := ⟨B, 0, none⟩) s0).trans z0
  have y1 := (hk.frozen (p := ⟨B, 1, none⟩) s0).trans z1
  have y2 := (hk.frozen (p := ⟨B + 1, 0, none⟩) hz).trans z2
  have y3 := (hk.frozen (p := ⟨B + 1, 1, none⟩) hz).trans z3
  have hB2 : Below B w w2 := hB.trans (hk.mono (by omega))
  clear hk hb hB c0 c1 c2 c3 z0 z1 z2 z3 hA
  refine ⟨hn, ?_, ?_, ?_, ?_, ?_, ?_, ?_, ?_, ?_, ?_⟩
  · exact Below.alloc (Below.setCell (Below.setCell hB2 (Nat.le_refl _) _) (Nat.le_refl _) _) (by simp; omega) _
  · simp; omega
  all_goals go_simp

theorem allFrom_ok {l r : List (Int × Int × Int)} {p f k n d p2 f2 : Int} {X : Int × Int × Int} (hd : l = (k, n, d) :: r) (hr : applyP p f k n d = (p2, f2, 0)) (hA : allFrom p f l = X) : allFrom p2 f2 r = X := by
  rw [hd, allFrom] at hA
  simp only [hr] at hA
  rw [if_pos trivial] at hA; exact hA
theorem allFrom_no {l r : List (Int × Int × Int)} {p f k n d p2 f2 e : Int} {X : Int × Int × Int} (hd : l = (k, n, d) :: r) (hr : applyP p f k n d = (p2, f2, e)) (he : ¬ e = 0) (hA : allFrom p f l = X) : X = (0, 0, e) := by
  rw [hd, allFrom] at hA
  simp only [hr] at hA
  rw [if_neg he] at hA; exact hA.symm

theorem drop_cons3 {l : List (Int × Int × Int)} {k : Nat} (h : k < l.length) : l.drop k = l.getD k (0, 0, 0) :: l.drop (k + 1) := by
  rw [List.drop_eq_getElem_cons h, plain.getD_lt _ h]

theorem all_some (p f : Int) (b off cap : Nat) (l : List (Int × Int × Int)) (w : World) (h : 1 ≤ p ∧ p ≤ 2000 ∧ 0 ≤ f ∧ f ≤ 2000) (hl : l.length ≤ 9223372036854775807) (hb0 : b < w.heap.size)
    (hcell : ∀ k, k < l.length → w.cell? ⟨b, off + k * 3, none⟩ = some (.int .i64 (l.getD k (0, 0, 0)).1) ∧ w.cell? ⟨b, off + k * 3 + 1, none⟩ = some (.int .i64 (l.getD k (0, 0, 0)).2.1) ∧ w.cell? ⟨b, off + k * 3 + 2, none⟩ = some (.int .i64 (l.getD k (0, 0, 0)).2.2)) :
    Calls Try.prog 10 #[.agg #[.int .i64 p, .int .i64 f], .slice (some ⟨b, off, none⟩) l.length cap] w fun e w' => e = .returned (ansT (allFrom p f l)) ∧ Below w.heap.size w w' := by
  have HR := Lib.hid (fun w => right_true p f w h)
  have HC := Lib.hid hcell
  clear h hcell
  go_enter Try.func10, Try.ntmps10
  go_wp2_with (go_at_call 12; (with_reducible refine (HR.out _).mono ?_); rintro e w1 ⟨rfl, hb1⟩; obtain ⟨hc1, hf1⟩ := arith.bcell hb1; have ha1 : w.heap.size < w1.heap.size := sz_of hb1 (by first | (simp; done) | (simp; omega)); have hy1 : w.heap.size + 1 < w1.heap.size := sz_of hb1 (by simp))
  go_loopw [16] (fun i wr => ∃ (k : Nat) (p' f' : Int), k ≤ l.length ∧ i = .int .i64 k ∧ AllRel w.heap.size w p f l k p' f' wr) (fun i _ => l.length - (intOf i).toNat)
  case atStart =>
    refine ⟨0, p, f, by omega, rfl, rfl, ?_, hy1, ?_, ?_, ?_, ?_, ?_, ?_, ?_, ?_⟩
    · exact Below.trans (((Below.refl _ _).alloc (by first | omega | (simp; done) | (simp; omega)) _).alloc (by first | omega | (simp; done) | (simp; omega)) _) (hb1.mono (by first | omega | (simp; done) | (simp; omega)))
    all_goals go_simp
  case round =>
    obtain ⟨k, p', f', hk, rfl, hrel⟩ := hrel
    have HREL := Lib.hid hrel
    obtain ⟨hA, hB, hz, c0, c1, c2, c3, z0, z1, z2, z3⟩ := hrel
    have HA := Lib.hid hA
    have HB := Lib.hid hB
    clear hA hB hc1 hf1 hb1 ha1 hy1
    have ha : w.heap.size < wr.heap.size := by omega
    by_cases hlt : k < l.length
    · have hd := Lib.hid (drop_cons3 hlt)
      have hh := HC.out k hlt
      obtain ⟨e0, e1, e2⟩ := hh
      rw [← HB.out.cell (p := ⟨b, _, none⟩) hb0] at e0 e1 e2
      generalize l.getD k (0, 0, 0) = o at *
      obtain ⟨ok, on, od⟩ := o
      simp only at e0 e1 e2
      generalize hr : applyP p' f' ok on od = r
      obtain ⟨p2, f2, er⟩ := r
      have HAp := Lib.hid (fun w => apply_any p' f' ok on od w)
      simp only [hr, ansT, ansC] at HAp
      have Hr := Lib.hid hr
      clear hr
      have n1 : ¬ w.heap.size = wr.heap.size := by omega
      have n2 : ¬ w.heap.size + 1 = wr.heap.size := by omega
      have s1 : w.heap.size < wr.heap.size + 1 := by omega
      have s2 : w.heap.size + 1 < wr.heap.size + 1 := by omega
      by_cases he : er = 0
      · subst he
        go_wp2_with (go_at_call 11; (with_reducible refine (HAp.out _).mono ?_); rintro e w2 ⟨rfl, hb2⟩; have HB2 := Lib.hid hb2; obtain ⟨hc2, hf2⟩ := arith.bcell hb2; have s3 : w.heap.size < w2.heap.size := sz_of hb2 (by first | omega | (simp; done) | (simp; omega)); have s4 : w.heap.size + 1 < w2.heap.size := sz_of hb2 (by first | omega | (simp; done) | (simp; omega)); have n3 : ¬ w.heap.size = w2.heap.size := (by omega); have n4 : ¬ w.heap.size + 1 = w2.heap.size := (by omega))
        go_roundw
        case rel => exact ⟨k + 1, p2, f2, by omega, by go_num, allRel_step HREL.out (allFrom_ok hd.out Hr.out HA.out) HB2.out⟩
        case measure => simp [intOf]; omega
      · have hne : (er != 0) = true := by simpa using he
        have E := Lib.hid (allFrom_no hd.out Hr.out he HA.out)
        clear he
        go_wp2_with (go_at_call 11; (with_reducible refine (HAp.out _).mono ?_); rintro e w2 ⟨rfl, hb2⟩; have HB2 := Lib.hid hb2; obtain ⟨hc2, hf2⟩ := arith.bcell hb2; have s3 : w.heap.size < w2.heap.size := sz_of hb2 (by first | omega | (simp; done) | (simp; omega)); have s4 : w.heap.size + 1 < w2.heap.size := sz_of hb2 (by first | omega | (simp; done) | (simp; omega)); have n3 : ¬ w.heap.size = w2.heap.size := (by omega); have n4 : ¬ w.heap.size + 1 = w2.heap.size := (by omega))
        exact bodyPost_ret (v := .tuple #[.agg #[.int .i64 0, .int .i64 0], .int .i64 er]) (by simp only [results, Try.results10]; go_simp) rfl ⟨by rw [E.out]; rfl, (by repeat (first | exact Below.refl _ _ | exact HB.out | (refine Below.setCell ?_ (by first | omega | (simp; done) | (simp; omega)) _) | (refine Below.alloc ?_ (by first | omega | (simp; done) | (simp; omega)) _) | (refine Below.trans ?_ (HB2.out.mono (by first | omega | (simp; done) | (simp; omega))))))⟩
    · have hk' : k = l.length := by omega
      have E : Hid (allFrom p f l = (p', f', 0)) := by have := HA.out; rw [hk', List.drop_length, allFrom] at this; exact this.symm
      subst hk'
      go_wp2
      exact bodyPost_ret (v := .tuple #[.agg #[.int .i64 p', .int .i64 f'], .int .i64 0]) (by simp only [results, Try.results10]; go_simp) rfl ⟨by rw [E.out]; rfl, (by repeat (first | exact Below.refl _ _ | exact HB.out | (refine Below.setCell ?_ (by first | omega | (simp; done) | (simp; omega)) _) | (refine Below.alloc ?_ (by first | omega | (simp; done) | (simp; omega)) _)))⟩

end Go.Proofs.Ytipafnggeckojaa.clock
