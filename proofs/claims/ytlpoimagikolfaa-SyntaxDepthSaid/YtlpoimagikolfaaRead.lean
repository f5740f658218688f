/-
  Contracts of the reader's small calls: fail, next, sees, seesName, seesNumber, take, need, want, name, number, signed.
-/
import Derived.Test.YtlpoimagikolfaaSyn
namespace Go.Proofs.Ytlpoimagikolfaa.syn
open Go.RowKit
set_option linter.unusedVariables false
set_option linter.unusedSimpArgs false

theorem blk_alloc {w : World} {r : Nat} {x : Obj} (h : w.heap[r]? = some x) (o : Obj) : (w.alloc o).heap[r]? = some x := by
  rw [Below.heap_alloc _ _ _ (lt_of_block h)]; exact h
theorem blk_other {w : World} {r : Nat} {x : Obj} {p : Addr} (hp : ¬ p.block = r) (h : w.heap[r]? = some x) (u : Value) : (w.setCell p u).heap[r]? = some x := by
  rw [Below.heap_setCell _ _ _ _ (fun e => hp e.symm)]; exact h

theorem blk_below {w w' : World} {r B : Nat} {x : Obj} (hr : r < B) (hb : Below B w w') (h : w.heap[r]? = some x) : w'.heap[r]? = some x := by rw [hb.block r hr]; exact h
theorem blk_set0 {w : World} {r : Nat} {a b c d e : Value} {t : TypeId} (h : w.heap[r]? = some (.cells #[a, b, c, d, e] t (0, 0))) (u : Value) : (w.setCell ⟨r, 0, none⟩ u).heap[r]? = some (.cells #[u, b, c, d, e] t (0, 0)) := blk_set h 0 u
theorem blk_set3 {w : World} {r : Nat} {a b c d e : Value} {t : TypeId} (h : w.heap[r]? = some (.cells #[a, b, c, d, e] t (0, 0))) (u : Value) : (w.setCell ⟨r, 3, none⟩ u).heap[r]? = some (.cells #[a, b, c, u, e] t (0, 0)) := blk_set h 3 u
theorem blk_set4 {w : World} {r : Nat} {a b c d e : Value} {t : TypeId} (h : w.heap[r]? = some (.cells #[a, b, c, d, e] t (0, 0))) (u : Value) : (w.setCell ⟨r, 4, none⟩ u).heap[r]? = some (.cells #[a, b, c, d, u] t (0, 0)) := blk_set h 4 u

/-- The reader behind stores into its own memory. -/
theorem Rd.again {w w' : World} {r : Nat} {en : Int} {S S' : St} (h : Rd w r en S) (hu : Upon r w w') (tv : Value)
    (hb : ∀ wv tv0, w.heap[r]? = some (.cells #[tv0, wv, .int .i64 en, .int .i64 S.at_, .int .i64 S.err] 71 (0, 0)) →
      w'.heap[r]? = some (.cells #[tv, wv, .int .i64 en, .int .i64 S'.at_, .int .i64 S'.err] 71 (0, 0)))
    (ht : ToksV w r tv S'.toks) (hs : S'.toks.length ≤ 4000) : Rd w' r en S' := by
  have hlt := h.lt
  obtain ⟨⟨tv0, wb, h1, h2, h4, h5⟩, h6⟩ := h
  refine ⟨⟨tv, wb, hb _ _ h1, ht.keep (fun b o hbs => hu.cell (p := ⟨b, o, none⟩) (by show b < w.heap.size; omega) (by show b ≠ r; omega)), h4, fun j hj => ?_⟩, hs⟩
  rw [hu.cell (p := ⟨wb, 0 + j, none⟩) (by show wb < w.heap.size; omega) (by show wb ≠ r; omega)]; exact h5 j hj


theorem fail_any {w : World} {r : Nat} {en : Int} {S : St} (h : Rd w r en S) (a er : Int) :
    Calls Try.prog 36 #[.pointer (some ⟨r, 0, none⟩), .int .i64 a, .int .i64 er] w fun e w' => e = .returned (.tuple #[]) ∧ Rd w' r en (S.fail a er) ∧ Upon r w w' := by
  have HR := Lib.hid h
  have hr := h.lt
  obtain ⟨⟨tv, wb, h1, h2, h4, h5⟩, h6⟩ := h
  obtain ⟨c0, c1, c2, c3, c4⟩ := blk_cells h1
  have fr := blk_free h1
  clear h1 h5 h6 h2
  obtain ⟨toks, at_, err⟩ := S
  by_cases he : err = 0
  · subst he
    go_enter Try.func36, Try.ntmps36
    go_wp2
    go_end0
    have es : St.fail a er ⟨toks, at_, 0⟩ = ⟨[], a, er⟩ := by simp [St.fail]
    rw [es]
    refine ⟨rfl, HR.out.again (S' := ⟨[], a, er⟩) (by repeat (first | (with_reducible exact Upon.refl _ _) | ((with_reducible refine Upon.setAt ?_ ?_ _); (rotate_left; focus (first | exact Or.inl rfl | omega | (simp; done) | (simp; omega)))) | (with_reducible refine Upon.alloc ?_ _) | (with_reducible refine Upon.drewN ?_ _) | (with_reducible refine Upon.drew ?_))) (.slice none 0 0) ?_ (.inl ⟨none, 0, rfl, rfl⟩) (by simp), (by repeat (first | (with_reducible exact Upon.refl _ _) | ((with_reducible refine Upon.setAt ?_ ?_ _); (rotate_left; focus (first | exact Or.inl rfl | omega | (simp; done) | (simp; omega)))) | (with_reducible refine Upon.alloc ?_ _) | (with_reducible refine Upon.drewN ?_ _) | (with_reducible refine Upon.drew ?_)))⟩
    exact (by intro wv tv0 hh; repeat (first | (with_reducible exact hh) | (with_reducible refine blk_alloc ?_ _) | ((with_reducible refine blk_other ?_ ?_ _); (focus (first | omega | (simp; done) | (simp; omega)))) | (with_reducible apply blk_set0) | (with_reducible apply blk_set3) | (with_reducible apply blk_set4) | ((with_reducible refine blk_below ?_ (Below.refl 0 w) ?_); (focus (first | omega | (simp; done) | (simp; omega))))))
  · have he' : (err == 0) = false := by simpa using he
    go_enter Try.func36, Try.ntmps36
    go_wp2
    go_end0
    have es : St.fail a er ⟨toks, at_, err⟩ = ⟨[], at_, err⟩ := by simp [St.fail, he]
    rw [es]
    refine ⟨rfl, HR.out.again (S' := ⟨[], at_, err⟩) (by repeat (first | (with_reducible exact Upon.refl _ _) | ((with_reducible refine Upon.setAt ?_ ?_ _); (rotate_left; focus (first | exact Or.inl rfl | omega | (simp; done) | (simp; omega)))) | (with_reducible refine Upon.alloc ?_ _) | (with_reducible refine Upon.drewN ?_ _) | (with_reducible refine Upon.drew ?_))) (.slice none 0 0) ?_ (.inl ⟨none, 0, rfl, rfl⟩) (by simp), (by repeat (first | (with_reducible exact Upon.refl _ _) | ((with_reducible refine Upon.setAt ?_ ?_ _); (rotate_left; focus (first | exact Or.inl rfl | omega | (simp; done) | (simp; omega)))) | (with_reducible refine Upon.alloc ?_ _) | (with_reducible refine Upon.drewN ?_ _) | (with_reducible refine Upon.drew ?_)))⟩
    exact (by intro wv tv0 hh; repeat (first | (with_reducible exact hh) | (with_reducible refine blk_alloc ?_ _) | ((with_reducible refine blk_other ?_ ?_ _); (focus (first | omega | (simp; done) | (simp; omega)))) | (with_reducible apply blk_set0) | (with_reducible apply blk_set3) | (with_reducible apply blk_set4) | ((with_reducible refine blk_below ?_ (Below.refl 0 w) ?_); (focus (first | omega | (simp; done) | (simp; omega))))))

/-- The address behind 'x[1:]' of a slice of tokens. -/
def tailAddr (tb o cap : Nat) : Option Addr := if cap = 1 then some ⟨tb, o, none⟩ else some ⟨tb, o + 4, none⟩
theorem slice_tail (tb o n cap : Nat) (w : World) : (Instr.slice 31 (.slice (some ⟨tb, o, none⟩) (n + 1) cap) (some (.int .i64 1)) none none).run Try.prog w = .ok (.slice (tailAddr tb o cap) n (cap - 1)) w := by
  rw [run_slice_l (P := Try.prog) (w := w) 31 (some ⟨tb, o, none⟩) (n + 1) cap (by kernel_rfl) .i64 1 (by omega) (by omega)]
  have hs : (sizeOf (Try.prog.elem 31)).run Try.prog w = .ok 4 w := by kernel_rfl
  rw [hs]
  simp only [Result.andThen, sliced, tailAddr]
  by_cases h : cap = 1
  · simp [h]
  · simp [h, Addr.add]


theorem next_any {w : World} {r : Nat} {en : Int} {S : St} (h : Rd w r en S) {xk xn xa : Int} {xt : ByteArray} (hx : S.peek en = ⟨xk, xt, xn, xa⟩) :
    Calls Try.prog 55 #[.pointer (some ⟨r, 0, none⟩)] w fun e w' => e = .returned (.agg #[.int .i64 xk, .string xt, .int .i64 xn, .int .i64 xa]) ∧ Rd w' r en S.next ∧ Upon r w w' := by
  have HR := Lib.hid h
  have HX := Lib.hid hx
  have hr := h.lt
  have hr' : r < w.heap.size + 1 := by omega
  have hne : ¬ w.heap.size = r := by omega
  have hne' : ¬ r = w.heap.size := by omega
  obtain ⟨⟨tv, wb, h1, h2, h4, h5⟩, h6⟩ := h
  obtain ⟨c0, c1, c2, c3, c4⟩ := blk_cells h1
  have fr := blk_free h1
  have HS := Lib.hid h6
  clear h1 h5 h6 hx
  obtain ⟨toks, at_, err⟩ := S
  rcases h2 with ⟨a, cap, rfl, he⟩ | ⟨tb, o, cap, rfl, hn, hcap, ht, hT⟩
  · simp only at he
    subst he
    clear HS
    go_enter Try.func55, Try.ntmps55
    go_wp2_with (go_at_call 54; refine (peek_at (Rd.below HR.out ?_) HX.out).mono ?_; exact (by repeat (first | (with_reducible exact Below.refl _ _) | ((with_reducible refine below_setAt ?_ ?_ _); (rotate_left; focus (first | omega | (simp; done) | (simp; omega)))) | ((with_reducible refine Below.alloc ?_ ?_ _); (rotate_left; focus (first | omega | (simp; done) | (simp; omega)))) | (with_reducible refine below_drewN ?_ _) | (with_reducible refine Below.drew ?_))); rintro e w1 ⟨rfl, hb1⟩; obtain ⟨hc1, hf1⟩ := bcell hb1; have a1 : w.heap.size < w1.heap.size := sz_of hb1 (by first | omega | (simp; done) | (simp; omega)); have hr1 : r < w1.heap.size := sz_of hb1 (by first | omega | (simp; done) | (simp; omega)))
    exact bodyPost_ret (v := .agg #[.int .i64 xk, .string xt, .int .i64 xn, .int .i64 xa]) (by simp only [results, Try.results55]; go_simp) rfl ⟨rfl, (Rd.below HR.out (by repeat (first | (with_reducible exact Below.refl _ _) | ((with_reducible refine below_setAt ?_ ?_ _); (rotate_left; focus (first | omega | (simp; done) | (simp; omega)))) | ((with_reducible refine Below.alloc ?_ ?_ _); (rotate_left; focus (first | omega | (simp; done) | (simp; omega)))) | (with_reducible refine below_drewN ?_ _) | (with_reducible refine Below.drew ?_) | ((with_reducible refine Below.trans ?_ (Below.mono hb1 ?_)); (rotate_left; focus (first | omega | (simp; done) | (simp; omega))))))), (by repeat (first | (with_reducible exact Upon.refl _ _) | ((with_reducible refine Upon.setAt ?_ ?_ _); (rotate_left; focus (first | exact Or.inl rfl | omega | (simp; done) | (simp; omega)))) | (with_reducible refine Upon.alloc ?_ _) | (with_reducible refine Upon.drewN ?_ _) | (with_reducible refine Upon.drew ?_) | (with_reducible refine Upon.trans ?_ (Upon.of_below hb1))))⟩
  · cases toks with
    | nil => exact absurd rfl hn
    | cons x l =>
      have hTl := hT.2.2.2.2
      have hlen : l.length + 1 ≤ 4000 := HS.out
      have hcap' : l.length + 1 ≤ cap := hcap
      have HT := Lib.hid hTl
      clear HS hn hTl hT hcap
      simp only [List.length_cons] at c0
      go_enter Try.func55, Try.ntmps55
      have hsl := slice_tail tb o l.length cap
      obtain ⟨ad, had⟩ : ∃ ad, tailAddr tb o cap = ad := ⟨_, rfl⟩
      rw [had] at hsl
      have HA := Lib.hid had
      clear had
      repeat' (first | (go_at_call 54; refine (peek_at (Rd.below HR.out ?_) HX.out).mono ?_; exact (by repeat (first | (with_reducible exact Below.refl _ _) | ((with_reducible refine below_setAt ?_ ?_ _); (rotate_left; focus (first | omega | (simp; done) | (simp; omega)))) | ((with_reducible refine Below.alloc ?_ ?_ _); (rotate_left; focus (first | omega | (simp; done) | (simp; omega)))) | (with_reducible refine below_drewN ?_ _) | (with_reducible refine Below.drew ?_))); rintro e w1 ⟨rfl, hb1⟩; obtain ⟨hc1, hf1⟩ := bcell hb1; have a1 : w.heap.size < w1.heap.size := sz_of hb1 (by first | omega | (simp; done) | (simp; omega)); have hr1 : r < w1.heap.size := sz_of hb1 (by first | omega | (simp; done) | (simp; omega))) | go_values | go_skip | go_guarded | go_step | go_upon | (simp only [Int.not_lt, Int.not_le] at *; go_simp) | (go_values <;> (try go_simp)) | (go_ite <;> go_prune <;> (try go_simp)) | (split <;> (first | (rename_i hx; exact (hx _ rfl).elim) | go_prune)))
      refine bodyPost_ret (v := .agg #[.int .i64 xk, .string xt, .int .i64 xn, .int .i64 xa]) ?_ rfl ?_; focus (simp only [results, Try.results55]; go_simp)
      refine ⟨rfl, HR.out.again (S' := ⟨l, at_, err⟩) (by repeat (first | (with_reducible exact Upon.refl _ _) | ((with_reducible refine Upon.setAt ?_ ?_ _); (rotate_left; focus (first | exact Or.inl rfl | omega | (simp; done) | (simp; omega)))) | (with_reducible refine Upon.alloc ?_ _) | (with_reducible refine Upon.drewN ?_ _) | (with_reducible refine Upon.drew ?_) | (with_reducible refine Upon.trans ?_ (Upon.of_below hb1)))) (.slice ad l.length (cap - 1)) ?_ ?_ (by show l.length ≤ 4000; omega), (by repeat (first | (with_reducible exact Upon.refl _ _) | ((with_reducible refine Upon.setAt ?_ ?_ _); (rotate_left; focus (first | exact Or.inl rfl | omega | (simp; done) | (simp; omega)))) | (with_reducible refine Upon.alloc ?_ _) | (with_reducible refine Upon.drewN ?_ _) | (with_reducible refine Upon.drew ?_) | (with_reducible refine Upon.trans ?_ (Upon.of_below hb1))))⟩
      · exact (by intro wv tv0 hh; repeat (first | (with_reducible exact hh) | (with_reducible refine blk_alloc ?_ _) | ((with_reducible refine blk_other ?_ ?_ _); (focus (first | omega | (simp; done) | (simp; omega)))) | (with_reducible apply blk_set0) | (with_reducible apply blk_set3) | (with_reducible apply blk_set4) | ((with_reducible refine blk_below ?_ hb1 ?_); (focus (first | omega | (simp; done) | (simp; omega))))))
      · cases l with
        | nil => exact .inl ⟨ad, cap - 1, rfl, rfl⟩
        | cons y l =>
          simp only [List.length_cons] at hcap'
          have ha : ad = some ⟨tb, o + 4, none⟩ := by rw [← HA.out, tailAddr, if_neg (by omega)]
          subst ha
          exact .inr ⟨tb, o + 4, cap - 1, rfl, by simp, by simp only [List.length_cons]; omega, ht, HT.out⟩

end Go.Proofs.Ytlpoimagikolfaa.syn
