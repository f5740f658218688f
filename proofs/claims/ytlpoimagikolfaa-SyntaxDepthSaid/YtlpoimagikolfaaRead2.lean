/-
  Contracts of the reader's small calls, two: sees, seesName, seesNumber, take, need, want, name, number, signed.
-/
import Derived.Test.YtlpoimagikolfaaRead
namespace Go.Proofs.Ytlpoimagikolfaa.syn
open Go.RowKit
set_option linter.unusedVariables false
set_option linter.unusedSimpArgs false

theorem field_k (k n a : Int) (t : ByteArray) (w : World) : (Instr.field 36 (.agg #[.int .i64 k, .string t, .int .i64 n, .int .i64 a]) 0).run Try.prog w = .ok (.int .i64 k) w := by kernel_rfl
theorem field_t (k n a : Int) (t : ByteArray) (w : World) : (Instr.field 36 (.agg #[.int .i64 k, .string t, .int .i64 n, .int .i64 a]) 1).run Try.prog w = .ok (.string t) w := by kernel_rfl
theorem field_n (k n a : Int) (t : ByteArray) (w : World) : (Instr.field 36 (.agg #[.int .i64 k, .string t, .int .i64 n, .int .i64 a]) 2).run Try.prog w = .ok (.int .i64 n) w := by kernel_rfl
theorem field_a (k n a : Int) (t : ByteArray) (w : World) : (Instr.field 36 (.agg #[.int .i64 k, .string t, .int .i64 n, .int .i64 a]) 3).run Try.prog w = .ok (.int .i64 a) w := by kernel_rfl

theorem contains_at (b n c : Nat) (zs : List ByteArray) (x : ByteArray) (w : World) (hn : zs.length = n) (hz : n ≤ 10)
    (hc : ∀ j, j < zs.length → w.cell? ⟨b, 0 + j, none⟩ = some (.string (zs.getD j ByteArray.empty))) :
    Calls Try.prog 56 #[.slice (some ⟨b, 0, none⟩) n c, .string x] w fun e w' => e = .returned (.bool (Lib.containsS zs x)) ∧ w = w' := by
  have := Try.slices_Contains_string b 0 n c zs x w (by omega) (by omega) hc
  rw [List.take_of_length_le (by omega)] at this
  exact this.mono (fun e w' h => ⟨h.1, h.2.symm⟩)

theorem sees_any {w : World} {r : Nat} {en : Int} {S : St} (h : Rd w r en S) {xk xn xa : Int} {xt : ByteArray} (hx : S.peek en = ⟨xk, xt, xn, xa⟩)
    (b n c : Nat) (zs : List ByteArray) (hn : zs.length = n) (hz : n ≤ 10) (hbs : b < w.heap.size)
    (hc : ∀ j, j < zs.length → w.cell? ⟨b, 0 + j, none⟩ = some (.string (zs.getD j ByteArray.empty))) :
    Calls Try.prog 44 #[.pointer (some ⟨r, 0, none⟩), .slice (some ⟨b, 0, none⟩) n c] w fun e w' => e = .returned (.bool (Lib.containsS zs xt)) ∧ Below w.heap.size w w' := by
  have HR := Lib.hid h
  have HX := Lib.hid hx
  have hr := h.lt
  have HC := Lib.hid (fun (w1 : World) (hb : Below w.heap.size w w1) => contains_at b n c zs xt w1 hn hz (fun j hj => by rw [hb.cell (p := ⟨b, 0 + j, none⟩) hbs]; exact hc j hj))
  clear hx hc
  have F := field_t xk xn xa xt
  go_enter Try.func44, Try.ntmps44
  repeat' (first | (go_at_call 54; refine (peek_at (Rd.below HR.out ?_) HX.out).mono ?_; exact (by repeat (first | (with_reducible exact Below.refl _ _) | ((with_reducible refine below_setAt ?_ ?_ _); (rotate_left; focus (first | omega | (simp; done) | (simp; omega)))) | ((with_reducible refine Below.alloc ?_ ?_ _); (rotate_left; focus (first | omega | (simp; done) | (simp; omega)))) | (with_reducible refine below_drewN ?_ _) | (with_reducible refine Below.drew ?_))); rintro e w1 ⟨rfl, hb1⟩; obtain ⟨hc1, hf1⟩ := bcell hb1; have a1 : w.heap.size < w1.heap.size + 1 := Nat.lt_succ_of_le hb1.size; have hr1 : r < w1.heap.size := sz_of hb1 (by first | omega | (simp; done) | (simp; omega))) | (go_at_call 56; refine (HC.out _ hb1).mono ?_; rintro e w2 ⟨rfl, rfl⟩) | go_values | go_skip | go_guarded | go_step | go_upon | (simp only [Int.not_lt, Int.not_le] at *; go_simp) | (go_values <;> (try go_simp)) | (go_ite <;> go_prune <;> (try go_simp)) | (split <;> (first | (rename_i hx; exact (hx _ rfl).elim) | go_prune)))
  go_ret
  exact ⟨rfl, (by repeat (first | (with_reducible exact Below.refl _ _) | ((with_reducible refine below_setAt ?_ ?_ _); (rotate_left; focus (first | omega | (simp; done) | (simp; omega)))) | ((with_reducible refine Below.alloc ?_ ?_ _); (rotate_left; focus (first | omega | (simp; done) | (simp; omega)))) | (with_reducible refine below_drewN ?_ _) | (with_reducible refine Below.drew ?_) | ((with_reducible refine Below.trans ?_ (Below.mono hb1 ?_)); (rotate_left; focus (first | omega | (simp; done) | (simp; omega))))))⟩

theorem seesNumber_any {w : World} {r : Nat} {en : Int} {S : St} (h : Rd w r en S) {xk xn xa : Int} {xt : ByteArray} (hx : S.peek en = ⟨xk, xt, xn, xa⟩) :
    Calls Try.prog 58 #[.pointer (some ⟨r, 0, none⟩)] w fun e w' => e = .returned (.bool (xk == 2)) ∧ Below w.heap.size w w' := by
  have HR := Lib.hid h
  have HX := Lib.hid hx
  have hr := h.lt
  clear hx
  have F := field_k xk xn xa xt
  go_enter Try.func58, Try.ntmps58
  repeat' (first | (go_at_call 54; refine (peek_at (Rd.below HR.out ?_) HX.out).mono ?_; exact (by repeat (first | (with_reducible exact Below.refl _ _) | ((with_reducible refine below_setAt ?_ ?_ _); (rotate_left; focus (first | omega | (simp; done) | (simp; omega)))) | ((with_reducible refine Below.alloc ?_ ?_ _); (rotate_left; focus (first | omega | (simp; done) | (simp; omega)))) | (with_reducible refine below_drewN ?_ _) | (with_reducible refine Below.drew ?_))); rintro e w1 ⟨rfl, hb1⟩; obtain ⟨hc1, hf1⟩ := bcell hb1; have a1 : w.heap.size < w1.heap.size + 1 := Nat.lt_succ_of_le hb1.size; have hr1 : r < w1.heap.size := sz_of hb1 (by first | omega | (simp; done) | (simp; omega))) | go_values | go_skip | go_guarded | go_step | go_upon | (simp only [Int.not_lt, Int.not_le] at *; go_simp) | (go_values <;> (try go_simp)) | (go_ite <;> go_prune <;> (try go_simp)) | (split <;> (first | (rename_i hx; exact (hx _ rfl).elim) | go_prune)))
  go_ret
  exact ⟨rfl, (by repeat (first | (with_reducible exact Below.refl _ _) | ((with_reducible refine below_setAt ?_ ?_ _); (rotate_left; focus (first | omega | (simp; done) | (simp; omega)))) | ((with_reducible refine Below.alloc ?_ ?_ _); (rotate_left; focus (first | omega | (simp; done) | (simp; omega)))) | (with_reducible refine below_drewN ?_ _) | (with_reducible refine Below.drew ?_) | ((with_reducible refine Below.trans ?_ (Below.mono hb1 ?_)); (rotate_left; focus (first | omega | (simp; done) | (simp; omega))))))⟩

/-- A name, and no word. -/
def nameB (k : Int) (t : ByteArray) : Bool := (k == 1) && !Lib.containsS wordsL t

theorem seesName_any {w : World} {r : Nat} {en : Int} {S : St} (h : Rd w r en S) {xk xn xa : Int} {xt : ByteArray} (hx : S.peek en = ⟨xk, xt, xn, xa⟩) :
    Calls Try.prog 47 #[.pointer (some ⟨r, 0, none⟩)] w fun e w' => e = .returned (.bool (nameB xk xt)) ∧ Below w.heap.size w w' := by
  have HR := Lib.hid h
  have HX := Lib.hid hx
  have hr := h.lt
  obtain ⟨⟨tv, wb, h1, h2, h4, h5⟩, h6⟩ := h
  obtain ⟨c0, c1, c2, c3, c4⟩ := blk_cells h1
  have HC := Lib.hid (fun (w1 : World) (hb : Below w.heap.size w w1) => contains_at wb 10 10 wordsL xt w1 rfl (by omega) (fun j hj => by rw [hb.cell (p := ⟨wb, 0 + j, none⟩) (by show wb < w.heap.size; omega)]; exact h5 j hj))
  clear h1 h2 h5 h6 hx c0 c2 c3 c4
  by_cases hk : xk = 1
  · subst hk
    go_enter Try.func47, Try.ntmps47
    repeat' (first | (go_at_call 54; refine (peek_at (Rd.below HR.out ?_) HX.out).mono ?_; exact (by repeat (first | (with_reducible exact Below.refl _ _) | ((with_reducible refine below_setAt ?_ ?_ _); (rotate_left; focus (first | omega | (simp; done) | (simp; omega)))) | ((with_reducible refine Below.alloc ?_ ?_ _); (rotate_left; focus (first | omega | (simp; done) | (simp; omega)))) | (with_reducible refine below_drewN ?_ _) | (with_reducible refine Below.drew ?_))); rintro e w1 ⟨rfl, hb1⟩; obtain ⟨hc1, hf1⟩ := bcell hb1; have a1 : w.heap.size < w1.heap.size + 1 := Nat.lt_succ_of_le hb1.size; have hr1 : r < w1.heap.size := sz_of hb1 (by first | omega | (simp; done) | (simp; omega))) | go_values | go_skip | go_guarded | go_step | go_upon | (simp only [Int.not_lt, Int.not_le] at *; go_simp) | (go_values <;> (try go_simp)) | (go_ite <;> go_prune <;> (try go_simp)) | (split <;> (first | (rename_i hx; exact (hx _ rfl).elim) | go_prune)))
    go_quiet ((go_at_call 56; refine Calls.quiet_of_same ((HC.out _ (below_drewN ?_ _)).mono (fun e w2 h => ⟨h.1, h.2.symm⟩)); exact (by repeat (first | (with_reducible exact Below.refl _ _) | ((with_reducible refine below_setAt ?_ ?_ _); (rotate_left; focus (first | omega | (simp; done) | (simp; omega)))) | ((with_reducible refine Below.alloc ?_ ?_ _); (rotate_left; focus (first | omega | (simp; done) | (simp; omega)))) | (with_reducible refine below_drewN ?_ _) | (with_reducible refine Below.drew ?_) | ((with_reducible refine Below.trans ?_ (Below.mono hb1 ?_)); (rotate_left; focus (first | omega | (simp; done) | (simp; omega))))))))
    repeat' (first | go_values | go_skip | go_guarded | go_step | go_upon | (simp only [Int.not_lt, Int.not_le] at *; go_simp) | (go_values <;> (try go_simp)) | (go_ite <;> go_prune <;> (try go_simp)) | (split <;> (first | (rename_i hx; exact (hx _ rfl).elim) | go_prune)))
    go_ret
    exact ⟨rfl, (by repeat (first | (with_reducible exact Below.refl _ _) | ((with_reducible refine below_setAt ?_ ?_ _); (rotate_left; focus (first | omega | (simp; done) | (simp; omega)))) | ((with_reducible refine Below.alloc ?_ ?_ _); (rotate_left; focus (first | omega | (simp; done) | (simp; omega)))) | (with_reducible refine below_drewN ?_ _) | (with_reducible refine Below.drew ?_) | ((with_reducible refine Below.trans ?_ (Below.mono hb1 ?_)); (rotate_left; focus (first | omega | (simp; done) | (simp; omega))))))⟩
  · have hk' : (xk == 1) = false := by simpa using hk
    have E := Lib.hid (show nameB xk xt = false by unfold nameB; rw [hk']; rfl)
    clear hk
    go_enter Try.func47, Try.ntmps47
    repeat' (first | (go_at_call 54; refine (peek_at (Rd.below HR.out ?_) HX.out).mono ?_; exact (by repeat (first | (with_reducible exact Below.refl _ _) | ((with_reducible refine below_setAt ?_ ?_ _); (rotate_left; focus (first | omega | (simp; done) | (simp; omega)))) | ((with_reducible refine Below.alloc ?_ ?_ _); (rotate_left; focus (first | omega | (simp; done) | (simp; omega)))) | (with_reducible refine below_drewN ?_ _) | (with_reducible refine Below.drew ?_))); rintro e w1 ⟨rfl, hb1⟩; obtain ⟨hc1, hf1⟩ := bcell hb1; have a1 : w.heap.size < w1.heap.size + 1 := Nat.lt_succ_of_le hb1.size; have hr1 : r < w1.heap.size := sz_of hb1 (by first | omega | (simp; done) | (simp; omega))) | go_values | go_skip | go_guarded | go_step | go_upon | (simp only [Int.not_lt, Int.not_le] at *; go_simp) | (go_values <;> (try go_simp)) | (go_ite <;> go_prune <;> (try go_simp)) | (split <;> (first | (rename_i hx; exact (hx _ rfl).elim) | go_prune)))
    go_quiet ((go_at_call 56; refine Calls.quiet_of_same ((HC.out _ (below_drewN ?_ _)).mono (fun e w2 h => ⟨h.1, h.2.symm⟩)); exact (by repeat (first | (with_reducible exact Below.refl _ _) | ((with_reducible refine below_setAt ?_ ?_ _); (rotate_left; focus (first | omega | (simp; done) | (simp; omega)))) | ((with_reducible refine Below.alloc ?_ ?_ _); (rotate_left; focus (first | omega | (simp; done) | (simp; omega)))) | (with_reducible refine below_drewN ?_ _) | (with_reducible refine Below.drew ?_) | ((with_reducible refine Below.trans ?_ (Below.mono hb1 ?_)); (rotate_left; focus (first | omega | (simp; done) | (simp; omega))))))))
    repeat' (first | go_values | go_skip | go_guarded | go_step | go_upon | (simp only [Int.not_lt, Int.not_le] at *; go_simp) | (go_values <;> (try go_simp)) | (go_ite <;> go_prune <;> (try go_simp)) | (split <;> (first | (rename_i hx; exact (hx _ rfl).elim) | go_prune)))
    go_ret
    exact ⟨by rw [E.out]; rfl, (by repeat (first | (with_reducible exact Below.refl _ _) | ((with_reducible refine below_setAt ?_ ?_ _); (rotate_left; focus (first | omega | (simp; done) | (simp; omega)))) | ((with_reducible refine Below.alloc ?_ ?_ _); (rotate_left; focus (first | omega | (simp; done) | (simp; omega)))) | (with_reducible refine below_drewN ?_ _) | (with_reducible refine Below.drew ?_) | ((with_reducible refine Below.trans ?_ (Below.mono hb1 ?_)); (rotate_left; focus (first | omega | (simp; done) | (simp; omega))))))⟩

end Go.Proofs.Ytlpoimagikolfaa.syn
