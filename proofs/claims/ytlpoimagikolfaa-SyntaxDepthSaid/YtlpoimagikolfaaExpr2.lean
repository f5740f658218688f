/-
  Contract of expr, for texts in which no name has a bracket behind it (what is read of a call comes in as a premise).
-/
import Derived.Test.YtlpoimagikolfaaExpr
import Derived.Test.YtlpoimagikolfaaSize
import Derived.Laws.EntriesVeiled
namespace Go.Proofs.Ytlpoimagikolfaa.syn
open Go.RowKit
set_option linter.unusedVariables false
set_option linter.unusedSimpArgs false

def atomF (r : Nat) : Value := .func (.func 65) #[.pointer (some ⟨r, 0, none⟩)] #[]

theorem followed_mk (r : Nat) (w : World) :
    Calls Try.prog 64 #[.pointer (some ⟨r, 0, none⟩), .func (.func 65) #[.pointer (some ⟨r, 0, none⟩)] #[]] w fun e w' =>
      e = .returned (.func (.func 76) #[] #[.pointer (some ⟨w.heap.size + 1, 0, none⟩), .pointer (some ⟨w.heap.size, 0, none⟩)]) ∧
      w' = (w.alloc (Obj.cells #[.pointer (some ⟨r, 0, none⟩)] 68)).alloc (Obj.cells #[.func (.func 65) #[.pointer (some ⟨r, 0, none⟩)] #[]] 96) := by
  have hmf : ∀ (fn : Fn) (first cap : Array Value) (w : World), (Instr.makeFunc fn first cap).run Try.prog w = .ok (.func fn first cap) w := fun _ _ _ _ => rfl
  go_enter Try.func64, Try.ntmps64
  repeat' (first | go_values | go_skip | go_guarded | go_step | go_upon | (simp only [Int.not_lt, Int.not_le] at *; go_simp) | (go_values <;> (try go_simp)) | (go_ite <;> go_prune <;> (try go_simp)) | (split <;> (first | (rename_i hx; exact (hx _ rfl).elim) | go_prune)))
  go_ret
  exact ⟨rfl, rfl⟩

theorem led_mk (r a b : Nat) (w : World) :
    Calls Try.prog 63 #[.pointer (some ⟨r, 0, none⟩), .func (.func 76) #[] #[.pointer (some ⟨a, 0, none⟩), .pointer (some ⟨b, 0, none⟩)]] w fun e w' =>
      e = .returned (.func (.func 74) #[] #[.pointer (some ⟨w.heap.size, 0, none⟩), .pointer (some ⟨w.heap.size + 1, 0, none⟩), .pointer (some ⟨w.heap.size + 1 + 1, 0, none⟩)]) ∧
      w' = ((w.alloc (Obj.cells #[.pointer (some ⟨r, 0, none⟩)] 68)).alloc (Obj.cells #[.func (.func 76) #[] #[.pointer (some ⟨a, 0, none⟩), .pointer (some ⟨b, 0, none⟩)]] 96)).alloc
        (Obj.cells #[.func (.func 74) #[] #[.pointer (some ⟨w.heap.size, 0, none⟩), .pointer (some ⟨w.heap.size + 1, 0, none⟩), .pointer (some ⟨w.heap.size + 1 + 1, 0, none⟩)]] 96) := by
  have hmf : ∀ (fn : Fn) (first cap : Array Value) (w : World), (Instr.makeFunc fn first cap).run Try.prog w = .ok (.func fn first cap) w := fun _ _ _ _ => rfl
  go_enter Try.func63, Try.ntmps63
  repeat' (first | go_values | go_skip | go_guarded | go_step | go_upon | (simp only [Int.not_lt, Int.not_le] at *; go_simp) | (go_values <;> (try go_simp)) | (go_ite <;> go_prune <;> (try go_simp)) | (split <;> (first | (rename_i hx; exact (hx _ rfl).elim) | go_prune)))
  go_ret
  exact ⟨rfl, rfl⟩

/-- What a call of a node is read as. -/
def CallSaid (r : Nat) (en : Int) (Q : List Tok → Prop) (n : Nat) : Prop := ∀ w S, Rd w r en S → Q S.toks → S.toks.length ≤ n →
  (∀ w1 S1, Upon r w w1 → Rd w1 r en S1 → S1.toks.length < n → Q S1.toks → Calls Try.prog 51 #[.pointer (some ⟨r, 0, none⟩)] w1 (TreeAns w1 r en (exprP en n S1))) →
  seesP en [lpar] S = false → seesP en [lpar] (S.name en).2 = true → Calls Try.prog 65 #[.pointer (some ⟨r, 0, none⟩)] w (TreeAns w r en (callP en (exprP en n) (S.name en).1 (S.name en).2))

theorem nextP_any (hD : DepthSaid) {r : Nat} {en : Int} {Q : List Tok → Prop} (kq : Kept Q) (n : Nat) (hn0 : n ≤ 100000) (hC : CallSaid r en Q n)
    (ih : ∀ w S, Rd w r en S → S.toks.length < n → Q S.toks → Calls Try.prog 51 #[.pointer (some ⟨r, 0, none⟩)] w (TreeAns w r en (exprP en n S)))
    (a b : Nat) (ha : a ≠ r) (hb : b ≠ r) {w : World} {S : St} (hR : Rd w r en S) (hlen : S.toks.length ≤ n) (hQ : Q S.toks)
    (ca : w.cell? ⟨a, 0, none⟩ = some (.func (.func 65) #[.pointer (some ⟨r, 0, none⟩)] #[])) (cb : w.cell? ⟨b, 0, none⟩ = some (.pointer (some ⟨r, 0, none⟩))) :
    Calls Try.prog 76 #[.pointer (some ⟨a, 0, none⟩), .pointer (some ⟨b, 0, none⟩)] w (TreeAns w r en (nextP en (exprP en n) S)) := by
  unfold nextP
  refine followed_any hD a b hR.lt (atomP en (exprP en n) S) ?_ ca cb ha hb _ (Nat.lt_succ_self _) (fun e => by have := (took_atom n (took_expr en n) S (fun _ => by omega) e).2; omega)
  intro w1 hb1 _
  have hR1 := hR.below hb1
  refine atom_any hR1 (exprP en n) ?_ ?_
  · intro hs w2 hu2 hR2
    have h1 := sees_some hs (by simp [lpar])
    have h2 := S.next_len
    exact ih w2 S.next hR2 (by omega) (kq.next hQ)
  · intro hs hs1
    exact hC w1 S hR1 hQ hlen (fun w2 S2 _ hR2 hl hQ2 => ih w2 S2 hR2 hl hQ2) hs hs1

set_option maxRecDepth 100000 in
set_option maxHeartbeats 2000000 in
theorem expr_step (hD : DepthSaid) {r : Nat} {en : Int} {Q : List Tok → Prop} (kq : Kept Q) (n : Nat) (hn0 : n ≤ 100000) (hC : CallSaid r en Q n)
    (ih : ∀ w S, Rd w r en S → S.toks.length < n → Q S.toks → Calls Try.prog 51 #[.pointer (some ⟨r, 0, none⟩)] w (TreeAns w r en (exprP en n S)))
    {w : World} {S : St} (hR : Rd w r en S) (hlen : S.toks.length < n + 1) (hQ : Q S.toks) :
    Calls Try.prog 51 #[.pointer (some ⟨r, 0, none⟩)] w (TreeAns w r en (exprP en (n + 1) S)) := by
  have hr := hR.lt
  have HR := Lib.hid hR
  rw [exprP]
  obtain ⟨⟨⟨xk, xnm, xn, xd, xargs, xa⟩, SX⟩, hX⟩ : ∃ X, ledP en (nextP en (exprP en n)) (S.toks.length + 1) S = X := ⟨_, rfl⟩
  have hmf : ∀ (fn : Fn) (first cap : Array Value) (w : World), (Instr.makeFunc fn first cap).run Try.prog w = .ok (.func fn first cap) w := fun _ _ _ _ => rfl
  have HL : Hid (∀ W : World, W = (((((w.alloc (Obj.cells #[.int .i64 0, .string ⟨#[]⟩, .int .i64 0, .int .i64 0, .slice none 0 0, .int .i64 0] 43)).alloc (Obj.cells #[.pointer (some ⟨r, 0, none⟩)] 68)).alloc (Obj.cells #[.func (.func 65) #[.pointer (some ⟨r, 0, none⟩)] #[]] 96)).alloc
      (Obj.cells #[.pointer (some ⟨r, 0, none⟩)] 68)).alloc (Obj.cells #[.func (.func 76) #[] #[.pointer (some ⟨w.heap.size + 1 + 1, 0, none⟩), .pointer (some ⟨w.heap.size + 1, 0, none⟩)]] 96)).alloc
      (Obj.cells #[.func (.func 74) #[] #[.pointer (some ⟨w.heap.size + 1 + 1 + 1, 0, none⟩), .pointer (some ⟨w.heap.size + 1 + 1 + 1 + 1, 0, none⟩), .pointer (some ⟨w.heap.size + 1 + 1 + 1 + 1 + 1, 0, none⟩)]] 96) →
      Calls Try.prog 74 #[.pointer (some ⟨w.heap.size + 1 + 1 + 1, 0, none⟩), .pointer (some ⟨w.heap.size + 1 + 1 + 1 + 1, 0, none⟩), .pointer (some ⟨w.heap.size + 1 + 1 + 1 + 1 + 1, 0, none⟩)] W (TreeAns W r en (⟨xk, xnm, xn, xd, xargs, xa⟩, SX))) := by
    intro W hW
    have hRW : Rd W r en S := by subst hW; exact hR.below (by repeat (first | (with_reducible exact Below.refl _ _) | ((with_reducible refine below_setAt ?_ ?_ _); (rotate_left; focus (first | omega | (simp; done) | (simp; omega)))) | ((with_reducible refine Below.alloc ?_ ?_ _); (rotate_left; focus (first | omega | (simp; done) | (simp; omega)))) | (with_reducible refine below_drewN ?_ _) | (with_reducible refine Below.drew ?_)))
    have sW : W.heap.size = w.heap.size + 6 := by subst hW; simp
    have h1 : W.cell? ⟨w.heap.size + 1, 0, none⟩ = some (.pointer (some ⟨r, 0, none⟩)) := by subst hW; simp [go_sem]
    have h2 : W.cell? ⟨w.heap.size + 1 + 1, 0, none⟩ = some (.func (.func 65) #[.pointer (some ⟨r, 0, none⟩)] #[]) := by subst hW; simp [go_sem]
    have h3 : W.cell? ⟨w.heap.size + 1 + 1 + 1, 0, none⟩ = some (.pointer (some ⟨r, 0, none⟩)) := by subst hW; simp [go_sem]
    have h4 : W.cell? ⟨w.heap.size + 1 + 1 + 1 + 1, 0, none⟩ = some (.func (.func 76) #[] #[.pointer (some ⟨w.heap.size + 1 + 1, 0, none⟩), .pointer (some ⟨w.heap.size + 1, 0, none⟩)]) := by subst hW; simp [go_sem]
    have h5 : W.cell? ⟨w.heap.size + 1 + 1 + 1 + 1 + 1, 0, none⟩ = some (.func (.func 74) #[] #[.pointer (some ⟨w.heap.size + 1 + 1 + 1, 0, none⟩), .pointer (some ⟨w.heap.size + 1 + 1 + 1 + 1, 0, none⟩), .pointer (some ⟨w.heap.size + 1 + 1 + 1 + 1 + 1, 0, none⟩)]) := by subst hW; simp [go_sem]
    clear hW
    rw [← hX]
    refine led_any hD (w.heap.size + 1 + 1 + 1) (w.heap.size + 1 + 1 + 1 + 1) (w.heap.size + 1 + 1 + 1 + 1 + 1) (w.heap.size + 1 + 1) (w.heap.size + 1) (by omega) h3 h4 h5 (by omega) (by omega) (by omega) kq _ S.toks.length (by omega) (fun S' h' => took_next n (took_expr en n) S' (fun e => by have := h' e; omega)) ?_ _ W S (Upon.refl _ _) hRW (Nat.lt_succ_self _) (Nat.le_refl _) hQ
    intro w1 S1 hu1 hR1 hl1 hQ1
    exact nextP_any hD kq n hn0 hC ih _ _ (by omega) (by omega) hR1 (by omega) hQ1 ((hu1.cell (p := ⟨w.heap.size + 1 + 1, 0, none⟩) (by show w.heap.size + 1 + 1 < W.heap.size; omega) (by show w.heap.size + 1 + 1 ≠ r; omega)).trans h2)
      ((hu1.cell (p := ⟨w.heap.size + 1, 0, none⟩) (by show w.heap.size + 1 < W.heap.size; omega) (by show w.heap.size + 1 ≠ r; omega)).trans h1)
  rw [hX]
  clear hX hlen hQ ih hC kq hR hD
  go_enter Try.func51, Try.ntmps51
  repeat' (first | (go_at_call 64; refine (followed_mk r _).mono ?_; rintro e w1 ⟨rfl, rfl⟩) | (go_at_call 63; refine (led_mk r _ _ _).mono ?_; rintro e w1 ⟨rfl, rfl⟩) | (go_at_call 74; refine (HL.out _ ?_).mono ?_; (focus (simp; done)); rintro e w5 ⟨⟨ad5, cap5, rfl, hcap5, hs5⟩, hR5, hu5⟩; have HR5 := Lib.hid hR5; have HS5 := Lib.hid hs5; have hr5 := hR5.lt; clear hR5 hs5; have nwheapsize_0 : ¬ w.heap.size = r := (by omega); have hE5 : w5.heap[w.heap.size]? = some (.cells #[.int .i64 0, .string ⟨#[]⟩, .int .i64 0, .int .i64 0, .slice none 0 0, .int .i64 0] 43 (0, 0)) := (((by repeat (first | (with_reducible exact Same.refl _ _) | (with_reducible refine Same.alloc ?_ _) | (with_reducible refine Same.drewN ?_ _) | (with_reducible refine Same.drew ?_) | ((with_reducible refine Same.setCell ?_ ?_ _); focus (omega)) | ((with_reducible refine Same.upon ?_ hu5 ?_); focus (omega)))) : Same (fun b => b = w.heap.size) (w.alloc (Obj.cells #[.int .i64 0, .string ⟨#[]⟩, .int .i64 0, .int .i64 0, .slice none 0 0, .int .i64 0] 43)) w5).block _ rfl (by simp)).trans (heap_new _ _); obtain ⟨⟨x70, x71, x72, x73, x74, x75⟩, x7f⟩ := cells6 hE5; clear hE5) | go_values | go_skip | go_guarded | go_step | go_upon | (simp only [Int.not_lt, Int.not_le] at *; go_simp) | (go_values <;> (try go_simp)) | (go_ite <;> go_prune <;> (try go_simp)) | (split <;> (first | (rename_i hx; exact (hx _ rfl).elim) | go_prune)))
  refine bodyPost_ret (v := .agg #[.int .i64 xk, .string xnm, .int .i64 xn, .int .i64 xd, .slice ad5 xargs.len cap5, .int .i64 xa]) ?_ rfl ?_; focus (simp only [results, Try.results51]; go_simp)
  refine ⟨⟨ad5, cap5, rfl, hcap5, ?_⟩, Rd.below HR5.out (by repeat (first | (with_reducible exact Below.refl _ _) | ((with_reducible refine below_setAt ?_ ?_ _); (rotate_left; focus (first | omega | (simp; done) | (simp; omega)))) | ((with_reducible refine Below.alloc ?_ ?_ _); (rotate_left; focus (first | omega | (simp; done) | (simp; omega)))) | (with_reducible refine below_drewN ?_ _) | (with_reducible refine Below.drew ?_))), (by repeat (first | (with_reducible exact Upon.refl _ _) | ((with_reducible refine Upon.setAt ?_ ?_ _); (rotate_left; focus (first | exact Or.inl rfl | omega | (simp; done) | (simp; omega)))) | (with_reducible refine Upon.alloc ?_ _) | (with_reducible refine Upon.drewN ?_ _) | (with_reducible refine Upon.drew ?_) | (with_reducible refine Upon.trans ?_ hu5)))⟩
  refine SlA.mono (P := fun b => w.heap.size + 1 ≤ b) ?_ (fun b h _ => by have h' : w.heap.size + 1 ≤ b := h; show w.heap.size ≤ b; omega)
  refine SlA.keep (HS5.out.mono (fun b h _ => by first | (simp at h; omega) | omega)) ?_
  exact (by repeat (first | (with_reducible exact Same.refl _ _) | (with_reducible refine Same.alloc ?_ _) | (with_reducible refine Same.drewN ?_ _) | (with_reducible refine Same.drew ?_) | ((with_reducible refine Same.setCell ?_ ?_ _); focus (omega))))

end Go.Proofs.Ytlpoimagikolfaa.syn
