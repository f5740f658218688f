/-
  Contract of the package clock's All.
-/
import Derived.Test.YtdlgpfbfhaifgaaApplyA
namespace Go.Proofs.Ytdlgpfbfhaifgaa.clock
open Go.RowKit
set_option linter.unusedVariables false

/-! ### All -/
/-- What operators make, one behind the other. -/
def allFrom : Int → Int → List (Int × Int × Int) → Int × Int × Int
  | p, f, [] => (p, f, 0)
  | p, f, o :: l => let r := applyP p f o.1 o.2.1 o.2.2; if r.2.2 = 0 then allFrom r.1 r.2.1 l else (0, 0, r.2.2)
def allP (p f : Int) (l : List (Int × Int × Int)) : Int × Int × Int := if rightB p f = true then allFrom p f l else (0, 0, 12)

/-- A slice of operators that reads as a list. -/
def OpsAt (w : World) (v : Value) (l : List (Int × Int × Int)) : Prop :=
  (∃ a cap, v = .slice a 0 cap ∧ l = []) ∨ ∃ b off cap, v = .slice (some ⟨b, off, none⟩) l.length cap ∧ b < w.heap.size ∧
    ∀ k, k < l.length → w.cell? ⟨b, off + k * 3, none⟩ = some (.int .i64 (l.getD k (0, 0, 0)).1) ∧ w.cell? ⟨b, off + k * 3 + 1, none⟩ = some (.int .i64 (l.getD k (0, 0, 0)).2.1) ∧ w.cell? ⟨b, off + k * 3 + 2, none⟩ = some (.int .i64 (l.getD k (0, 0, 0)).2.2)

theorem all_wrong (p f : Int) (v : Value) (w : World) (h : ¬ (1 ≤ p ∧ p ≤ 2000 ∧ 0 ≤ f ∧ f ≤ 2000)) :
    Calls Try.prog 12 #[.agg #[.int .i64 p, .int .i64 f], v] w fun e w' => e = .returned (ansC 0 0 12) ∧ Below w.heap.size w w' := by
  have HR := Lib.hid (fun w => right_false p f w h)
  clear h
  go_enter Try.func12, Try.ntmps12
  go_wp2_with (go_at_call 20; (with_reducible refine (HR.out _).mono ?_); rintro e w1 ⟨rfl, hb1⟩; obtain ⟨hc1, hf1⟩ := arith.bcell hb1; have ha1 : w.heap.size < w1.heap.size := sz_of hb1 (by first | (simp; done) | (simp; omega)); have hy1 : w.heap.size + 1 < w1.heap.size := sz_of hb1 (by simp))
  exact bodyPost_ret (v := .tuple #[.agg #[.int .i64 0, .int .i64 0], .int .i64 12]) (by simp only [results, Try.results12]; go_simp) rfl ⟨rfl, (by repeat (first | exact Below.refl _ _ | (refine Below.setCell ?_ (by first | omega | (simp; done) | (simp; omega)) _) | (refine Below.alloc ?_ (by first | omega | (simp; done) | (simp; omega)) _) | (refine Below.trans ?_ (hb1.mono (by first | omega | (simp; done) | (simp; omega))))))⟩

/-- What holds at the head of a round of All. -/
def AllRel (B : Nat) (w : World) (p f : Int) (l : List (Int × Int × Int)) (k : Nat) (p' f' : Int) (wr : World) : Prop :=
  allFrom p' f' (l.drop k) = allFrom p f l ∧ Below B w wr ∧ B + 1 < wr.heap.size ∧
  wr.cell? ⟨B, 0, none⟩ = some (.int .i64 p') ∧ wr.cell? ⟨B, 1, none⟩ = some (.int .i64 f') ∧ wr.cell? ⟨B + 1, 0, none⟩ = some (.int .i64 0) ∧ wr.cell? ⟨B + 1, 1, none⟩ = some (.int .i64 0) ∧
  wr.frozen? ⟨B, 0, none⟩ = false ∧ wr.frozen? ⟨B, 1, none⟩ = false ∧ wr.frozen? ⟨B + 1, 0, none⟩ = false ∧ wr.frozen? ⟨B + 1, 1, none⟩ = false

theorem allRel_step {B : Nat} {w wr w2 : World} {p f : Int} {l : List (Int × Int × Int)} {k : Nat} {p' f' p2 f2 : Int} {o o2 : Obj} (h : AllRel B w p f l k p' f' wr)
    (hn : allFrom p2 f2 (l.drop (k + 1)) = allFrom p f l) (hb : Below (wr.alloc o).heap.size (wr.alloc o) w2) :
    AllRel B w p f l (k + 1) p2 f2 (((w2.setCell ⟨B, 0, none⟩ (.int .i64 p2)).setCell ⟨B, 1, none⟩ (.int .i64 f2)).alloc o2) := by
  obtain ⟨hA, hB, hz, c0, c1, c2, c3, z0, z1, z2, z3⟩ := h
  have hs := hb.size
  rw [World.size_alloc] at hs
  have hk : Below wr.heap.size wr w2 := Below.trans ((Below.refl _ _).alloc (Nat.le_refl _) o) (hb.mono (by rw [World.size_alloc]; omega))
  have s0 : B < wr.heap.size := by omega
  have s3 : B < w2.heap.size := by omega
  have s4 : B + 1 < w2.heap.size := by omega
  have d0 := (hk.cell (p := ⟨B, 0, none⟩) s0).trans c0
  have d1 := (hk.cell (p := ⟨B, 1, none⟩) s0).trans c1
  have d2 := (hk.cell (p := ⟨B + 1, 0, none⟩) hz).trans c2
  have d3 := (hk.cell (p := ⟨B + 1, 1, none⟩) hz).trans c3
  have y0 := (hk.frozen (p := ⟨B, 0, none⟩) s0).trans z0
  have y1 := (hk.frozen (p := ⟨B, 1, none⟩) s0).trans z1
  have y2 := (hk.frozen (p := ⟨B + 1, 0, none⟩) hz).trans z2
  have y3 := (hk.frozen (p := ⟨B + 1, 1, none⟩) hz).trans z3
  have hB2 : Below B w w2 := hB.trans (hk.mono (by omega))
  clear hk hb hB c0 c1 c2 c3 z0 z1 z2 z3 hA
  refine ⟨hn, ?_, ?_, ?_, ?_, ?_, ?_, ?_, ?_, ?_, ?_⟩
  · exact Below.alloc (Below.setCell (Below.setCell hB2 (Nat.le_refl _) _) (Nat.le_refl _) _) (by simp; omega) _
  · simp; omega
  all_goals go_simp

theorem allFrom_ok {l r : List (Int × Int × Int)} {p f k n d p2 f2 : Int} {X : Int × Int × Int} (hd : l = (k, n, d) :: r) (hr : applyP p f k n d = (p2, f2, 0)) (hA : allFrom p f l = X) : allFrom p2 f2 r = X := by
  rw [hd, allFrom] at hA
  simp only [hr] at hA
  rw [if_pos trivial] at hA; exact hA
theorem allFrom_no {l r : List (Int × Int × Int)} {p f k n d p2 f2 e : Int} {X : Int × Int × Int} (hd : l = (k, n, d) :: r) (hr : applyP p f k n d = (p2, f2, e)) (he : ¬ e = 0) (hA : allFrom p f l = X) : X = (0, 0, e) := by
  rw [hd, allFrom] at hA
  simp only [hr] at hA
  rw [if_neg he] at hA; exact hA.symm

theorem drop_cons3 {l : List (Int × Int × Int)} {k : Nat} (h : k < l.length) : l.drop k = l.getD k (0, 0, 0) :: l.drop (k + 1) := by
  rw [List.drop_eq_getElem_cons h, plain.getD_lt _ h]

theorem all_row (p f : Int) (a : Option Addr) (cap : Nat) (l : List (Int × Int × Int)) (w : World) (h : 1 ≤ p ∧ p ≤ 2000 ∧ 0 ≤ f ∧ f ≤ 2000) (hl : l.length ≤ 9223372036854775807)
    (hcell : ∀ k, k < l.length → ∃ b off, a = some ⟨b, off, none⟩ ∧ b < w.heap.size ∧ w.cell? ⟨b, off + k * 3, none⟩ = some (.int .i64 (l.getD k (0, 0, 0)).1) ∧ w.cell? ⟨b, off + k * 3 + 1, none⟩ = some (.int .i64 (l.getD k (0, 0, 0)).2.1) ∧ w.cell? ⟨b, off + k * 3 + 2, none⟩ = some (.int .i64 (l.getD k (0, 0, 0)).2.2)) :
    Calls Try.prog 12 #[.agg #[.int .i64 p, .int .i64 f], .slice a l.length cap] w fun e w' => e = .returned (ansT (allFrom p f l)) ∧ Below w.heap.size w w' := by
  have HR := Lib.hid (fun w => right_true p f w h)
  have HC := Lib.hid hcell
  clear h hcell
  go_enter Try.func12, Try.ntmps12
  go_wp2_with (go_at_call 20; (with_reducible refine (HR.out _).mono ?_); rintro e w1 ⟨rfl, hb1⟩; obtain ⟨hc1, hf1⟩ := arith.bcell hb1; have ha1 : w.heap.size < w1.heap.size := sz_of hb1 (by first | (simp; done) | (simp; omega)); have hy1 : w.heap.size + 1 < w1.heap.size := sz_of hb1 (by simp))
  go_loopw [16] (fun i wr => ∃ (k : Nat) (p' f' : Int), k ≤ l.length ∧ i = .int .i64 k ∧ AllRel w.heap.size w p f l k p' f' wr) (fun i _ => l.length - (intOf i).toNat)
  case atStart =>
    refine ⟨0, p, f, by omega, rfl, rfl, ?_, hy1, ?_, ?_, ?_, ?_, ?_, ?_, ?_, ?_⟩
    · exact Below.trans (((Below.refl _ _).alloc (by first | omega | (simp; done) | (simp; omega)) _).alloc (by first | omega | (simp; done) | (simp; omega)) _) (hb1.mono (by first | omega | (simp; done) | (simp; omega)))
    all_goals go_simp
  case round =>
    obtain ⟨k, p', f', hk, rfl, hrel⟩ := hrel
    have HREL := Lib.hid hrel
    obtain ⟨hA, hB, hz, c0, c1, c2, c3, z0, z1, z2, z3⟩ := hrel
    have HA := Lib.hid hA
    have HB := Lib.hid hB
    clear hA hB hc1 hf1 hb1 ha1 hy1
    have ha : w.heap.size < wr.heap.size := by omega
    by_cases hlt : k < l.length
    · have hd := Lib.hid (drop_cons3 hlt)
      obtain ⟨b, off, rfl, hb0, e0, e1, e2⟩ := HC.out k hlt
      rw [← HB.out.cell (p := ⟨b, _, none⟩) hb0] at e0 e1 e2
      generalize l.getD k (0, 0, 0) = o at *
      obtain ⟨ok, on, od⟩ := o
      simp only at e0 e1 e2
      generalize hr : applyP p' f' ok on od = r
      obtain ⟨p2, f2, er⟩ := r
      have HAp := Lib.hid (fun w => apply_any p' f' ok on od w)
      simp only [hr, ansT, ansC] at HAp
      have Hr := Lib.hid hr
      clear hr
      have n1 : ¬ w.heap.size = wr.heap.size := by omega
      have n2 : ¬ w.heap.size + 1 = wr.heap.size := by omega
      have s1 : w.heap.size < wr.heap.size + 1 := by omega
      have s2 : w.heap.size + 1 < wr.heap.size + 1 := by omega
      by_cases he : er = 0
      · subst he
        go_wp2_with (go_at_call 21; (with_reducible refine (HAp.out _).mono ?_); rintro e w2 ⟨rfl, hb2⟩; have HB2 := Lib.hid hb2; obtain ⟨hc2, hf2⟩ := arith.bcell hb2; have s3 : w.heap.size < w2.heap.size := sz_of hb2 (by first | omega | (simp; done) | (simp; omega)); have s4 : w.heap.size + 1 < w2.heap.size := sz_of hb2 (by first | omega | (simp; done) | (simp; omega)); have n3 : ¬ w.heap.size = w2.heap.size := (by omega); have n4 : ¬ w.heap.size + 1 = w2.heap.size := (by omega))
        go_roundw
        case rel => exact ⟨k + 1, p2, f2, by omega, by go_num, allRel_step HREL.out (allFrom_ok hd.out Hr.out HA.out) HB2.out⟩
        case measure => simp [intOf]; omega
      · have hne : (er != 0) = true := by simpa using he
        have E := Lib.hid (allFrom_no hd.out Hr.out he HA.out)
        clear he
        go_wp2_with (go_at_call 21; (with_reducible refine (HAp.out _).mono ?_); rintro e w2 ⟨rfl, hb2⟩; have HB2 := Lib.hid hb2; obtain ⟨hc2, hf2⟩ := arith.bcell hb2; have s3 : w.heap.size < w2.heap.size := sz_of hb2 (by first | omega | (simp; done) | (simp; omega)); have s4 : w.heap.size + 1 < w2.heap.size := sz_of hb2 (by first | omega | (simp; done) | (simp; omega)); have n3 : ¬ w.heap.size = w2.heap.size := (by omega); have n4 : ¬ w.heap.size + 1 = w2.heap.size := (by omega))
        exact bodyPost_ret (v := .tuple #[.agg #[.int .i64 0, .int .i64 0], .int .i64 er]) (by simp only [results, Try.results12]; go_simp) rfl ⟨by rw [E.out]; rfl, (by repeat (first | exact Below.refl _ _ | exact HB.out | (refine Below.setCell ?_ (by first | omega | (simp; done) | (simp; omega)) _) | (refine Below.alloc ?_ (by first | omega | (simp; done) | (simp; omega)) _) | (refine Below.trans ?_ (HB2.out.mono (by first | omega | (simp; done) | (simp; omega))))))⟩
    · have hk' : k = l.length := by omega
      have E : Hid (allFrom p f l = (p', f', 0)) := by have := HA.out; rw [hk', List.drop_length, allFrom] at this; exact this.symm
      subst hk'
      go_wp2
      exact bodyPost_ret (v := .tuple #[.agg #[.int .i64 p', .int .i64 f'], .int .i64 0]) (by simp only [results, Try.results12]; go_simp) rfl ⟨by rw [E.out]; rfl, (by repeat (first | exact Below.refl _ _ | exact HB.out | (refine Below.setCell ?_ (by first | omega | (simp; done) | (simp; omega)) _) | (refine Below.alloc ?_ (by first | omega | (simp; done) | (simp; omega)) _)))⟩

theorem all_some (p f : Int) (b off cap : Nat) (l : List (Int × Int × Int)) (w : World) (h : 1 ≤ p ∧ p ≤ 2000 ∧ 0 ≤ f ∧ f ≤ 2000) (hl : l.length ≤ 9223372036854775807) (hb0 : b < w.heap.size)
    (hcell : ∀ k, k < l.length → w.cell? ⟨b, off + k * 3, none⟩ = some (.int .i64 (l.getD k (0, 0, 0)).1) ∧ w.cell? ⟨b, off + k * 3 + 1, none⟩ = some (.int .i64 (l.getD k (0, 0, 0)).2.1) ∧ w.cell? ⟨b, off + k * 3 + 2, none⟩ = some (.int .i64 (l.getD k (0, 0, 0)).2.2)) :
    Calls Try.prog 12 #[.agg #[.int .i64 p, .int .i64 f], .slice (some ⟨b, off, none⟩) l.length cap] w fun e w' => e = .returned (ansT (allFrom p f l)) ∧ Below w.heap.size w w' := by
  exact all_row p f _ cap l w h hl fun k hk => ⟨b, off, rfl, hb0, hcell k hk⟩

end Go.Proofs.Ytdlgpfbfhaifgaa.clock
