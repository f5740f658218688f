/-
  What can be told of an expression's clock: tell, first.
-/
import Derived.Test.YtjcmjlkihfcdcaaArg
import Derived.Test.YtjcmjlkihfcdcaaStrMap
import Derived.Test.YtjcmjlkihfcdcaaApplyA
namespace Go.Proofs.Ytjcmjlkihfcdcaa.syn
open Go.RowKit
set_option linter.unusedVariables false
set_option linter.unusedSimpArgs false

/-- What is told of an expression: nothing yet, its clock, or what is wrong and where. -/
inductive TT where
  | unk
  | ok (p f : Int)
  | bad (a e : Int)
def cvv (c : Int × Int) : Value := .agg #[.int .i64 c.1, .int .i64 c.2]
def TT.v : TT → Value
  | .unk => .agg #[.int .i64 0, .int .i64 0, .bool false, .int .i64 0, .int .i64 0]
  | .ok p f => .agg #[.int .i64 p, .int .i64 f, .bool true, .int .i64 0, .int .i64 0]
  | .bad a e => .agg #[.int .i64 0, .int .i64 0, .bool false, .int .i64 a, .int .i64 e]
abbrev Env : Type := ByteArray → Option (Int × Int)
def EnvIs (L : List (ByteArray × Value)) (env : Env) : Prop := ∀ nm, getS nm L = (env nm).map cvv
def tell1 (env : Env) (k : Int) (nm : ByteArray) (n d a : Int) (src : TT) : TT :=
  if k = 1 then match env nm with | some c => .ok c.1 c.2 | none => .unk
  else match src with
    | .ok p f => if k = 2 then .ok p f else if (clock.applyP p f k n d).2.2 = 0 then .ok (clock.applyP p f k n d).1 (clock.applyP p f k n d).2.1 else .bad a (clock.applyP p f k n d).2.2
    | .unk => .unk
    | .bad a e => .bad a e
/-- The first thing that is told of a row. -/
def tellL (env : Env) : PL → TT
  | .nil => .unk
  | .cons k nm n d args a tl => match tell1 env k nm n d a (tellL env args) with
    | .unk => tellL env tl
    | .ok p f => .ok p f
    | .bad a e => .bad a e
def tellE (env : Env) (e : PE) : TT := tell1 env e.k e.nm e.n e.d e.a (tellL env e.args)
def TellSaid (env : Env) (L : List (ByteArray × Value)) (e : PE) : Prop := ∀ (w : World) (ad : Option Addr) (cap mb : Nat), AE w e ad cap → MapS w mb L →
  Calls Try.prog 45 #[.map (some mb), .agg #[.int .i64 e.k, .string e.nm, .int .i64 e.n, .int .i64 e.d, .slice ad e.args.len cap, .int .i64 e.a]] w fun x w' => x = .returned (tellE env e).v ∧ Below w.heap.size w w'
def FirstSaid (env : Env) (L : List (ByteArray × Value)) (l : PL) : Prop := ∀ (w : World) (ad : Option Addr) (cap mb : Nat), AS w l ad → l.len ≤ cap → cap ≤ 9223372036854775807 → MapS w mb L →
  Calls Try.prog 51 #[.map (some mb), .slice ad l.len cap] w fun x w' => x = .returned (tellL env l).v ∧ Below w.heap.size w w'


set_option maxRecDepth 100000 in
set_option maxHeartbeats 2000000 in
theorem tell_step {env : Env} {L : List (ByteArray × Value)} (hE : EnvIs L env) (e : PE) (hF : FirstSaid env L e.args) : TellSaid env L e := by
  intro w ad cap mb hae hM
  obtain ⟨k, nm, n, d, args, a⟩ := e
  have hlen := hae.len
  simp only at hlen hF ⊢
  unfold FirstSaid at hF
  have HA := Lib.hid hae
  have HM := Lib.hid hM
  have HF := Lib.hid hF
  clear hae hM hF
  obtain ⟨r, hr⟩ : ∃ r, tellE env ⟨k, nm, n, d, args, a⟩ = r := ⟨_, rfl⟩
  rw [hr]
  unfold tellE at hr
  simp only at hr
  by_cases hk1 : k = 1
  · subst hk1
    unfold tell1 at hr; rw [if_pos rfl] at hr
    cases he : env nm with
    | none =>
      rw [he] at hr
      have hg : getS nm L = none := by rw [hE nm, he]; rfl
      subst hr
      clear hE he
      have HG := Lib.hid hg
      clear hg
      go_enter Try.func45, Try.ntmps45
      go_wp2_with (at_lookup; refine wpList_lookS_no2 clocksMap _ rfl _ _ rfl mb L nm rfl rfl (HM.out.below (by repeat (first | (with_reducible exact Below.refl _ _) | ((with_reducible refine below_setAt ?_ ?_ _); (rotate_left; focus (first | omega | (simp; done) | (simp; omega)))) | ((with_reducible refine Below.alloc ?_ ?_ _); (rotate_left; focus (first | omega | (simp; done) | (simp; omega)))) | (with_reducible refine below_drewN ?_ _) | (with_reducible refine Below.drew ?_)))) HG.out ?_)
      refine bodyPost_ret (v := TT.unk.v) (by simp only [results, Try.results45]; go_simp; try rfl) rfl ⟨?_, ?_⟩
      · rfl
      · exact (by repeat (first | (with_reducible exact Below.refl _ _) | ((with_reducible refine below_setAt ?_ ?_ _); (rotate_left; focus (first | omega | (simp; done) | (simp; omega)))) | ((with_reducible refine Below.alloc ?_ ?_ _); (rotate_left; focus (first | omega | (simp; done) | (simp; omega)))) | (with_reducible refine below_drewN ?_ _) | (with_reducible refine Below.drew ?_)))
    | some c =>
      rw [he] at hr
      have hg : getS nm L = some (.agg #[.int .i64 c.1, .int .i64 c.2]) := by rw [hE nm, he]; rfl
      obtain ⟨c1, c2⟩ := c
      subst hr
      clear hE he
      have HG := Lib.hid hg
      clear hg
      go_enter Try.func45, Try.ntmps45
      go_wp2_with (at_lookup; refine wpList_lookS_yes2 clocksMap _ rfl _ _ rfl mb L nm _ rfl rfl (HM.out.below (by repeat (first | (with_reducible exact Below.refl _ _) | ((with_reducible refine below_setAt ?_ ?_ _); (rotate_left; focus (first | omega | (simp; done) | (simp; omega)))) | ((with_reducible refine Below.alloc ?_ ?_ _); (rotate_left; focus (first | omega | (simp; done) | (simp; omega)))) | (with_reducible refine below_drewN ?_ _) | (with_reducible refine Below.drew ?_)))) HG.out ?_)
      refine bodyPost_ret (v := (TT.ok c1 c2).v) (by simp only [results, Try.results45]; go_simp; try rfl) rfl ⟨?_, ?_⟩
      · rfl
      · exact (by repeat (first | (with_reducible exact Below.refl _ _) | ((with_reducible refine below_setAt ?_ ?_ _); (rotate_left; focus (first | omega | (simp; done) | (simp; omega)))) | ((with_reducible refine Below.alloc ?_ ?_ _); (rotate_left; focus (first | omega | (simp; done) | (simp; omega)))) | (with_reducible refine below_drewN ?_ _) | (with_reducible refine Below.drew ?_)))
  · have hk1' : (k == 1) = false := beq_eq_false_iff_ne.2 hk1
    unfold tell1 at hr; rw [if_neg hk1] at hr
    clear hE
    cases hs : tellL env args with
    | unk =>
      rw [hs] at hr HF
      simp only at hr
      subst hr
      simp only [TT.v] at HF
      clear hk1
      by_cases hk2 : k = 2
      · subst hk2
        go_enter Try.func45, Try.ntmps45
        repeat' (first | (go_at_call 51; (with_reducible refine (HF.out _ _ _ _ (HA.out.args.below (by repeat (first | (with_reducible exact Below.refl _ _) | ((with_reducible refine below_setAt ?_ ?_ _); (rotate_left; focus (first | omega | (simp; done) | (simp; omega)))) | ((with_reducible refine Below.alloc ?_ ?_ _); (rotate_left; focus (first | omega | (simp; done) | (simp; omega)))) | (with_reducible refine below_drewN ?_ _) | (with_reducible refine Below.drew ?_)))) HA.out.len.1 HA.out.len.2 (HM.out.below (by repeat (first | (with_reducible exact Below.refl _ _) | ((with_reducible refine below_setAt ?_ ?_ _); (rotate_left; focus (first | omega | (simp; done) | (simp; omega)))) | ((with_reducible refine Below.alloc ?_ ?_ _); (rotate_left; focus (first | omega | (simp; done) | (simp; omega)))) | (with_reducible refine below_drewN ?_ _) | (with_reducible refine Below.drew ?_))))).mono ?_); rintro x w2 ⟨rfl, hb2⟩; obtain ⟨hc2, hf2⟩ := bcell hb2; have a2 : w.heap.size < w2.heap.size := sz_of hb2 (by first | omega | (simp; done) | (simp; omega)); have a3 : w.heap.size + 1 < w2.heap.size := sz_of hb2 (by first | omega | (simp; done) | (simp; omega))) | go_values | go_skip | go_guarded | go_step | go_upon | (simp only [Int.not_lt, Int.not_le] at *; go_simp) | (go_values <;> (try go_simp)) | (go_ite <;> go_prune <;> (try go_simp)) | (split <;> (first | (rename_i hx; exact (hx _ rfl).elim) | go_prune)))
        refine bodyPost_ret (v := TT.unk.v) (by simp only [results, Try.results45]; go_simp; try rfl) rfl ⟨?_, ?_⟩
        · rfl
        · exact (by repeat (first | (with_reducible exact Below.refl _ _) | ((with_reducible refine below_setAt ?_ ?_ _); (rotate_left; focus (first | omega | (simp; done) | (simp; omega)))) | ((with_reducible refine Below.alloc ?_ ?_ _); (rotate_left; focus (first | omega | (simp; done) | (simp; omega)))) | (with_reducible refine below_drewN ?_ _) | (with_reducible refine Below.drew ?_) | ((with_reducible refine Below.trans ?_ (Below.mono hb2 ?_)); (rotate_left; focus (first | omega | (simp; done) | (simp; omega))))))
      · have hk2' : (k == 2) = false := beq_eq_false_iff_ne.2 hk2
        clear hk2
        go_enter Try.func45, Try.ntmps45
        repeat' (first | (go_at_call 51; (with_reducible refine (HF.out _ _ _ _ (HA.out.args.below (by repeat (first | (with_reducible exact Below.refl _ _) | ((with_reducible refine below_setAt ?_ ?_ _); (rotate_left; focus (first | omega | (simp; done) | (simp; omega)))) | ((with_reducible refine Below.alloc ?_ ?_ _); (rotate_left; focus (first | omega | (simp; done) | (simp; omega)))) | (with_reducible refine below_drewN ?_ _) | (with_reducible refine Below.drew ?_)))) HA.out.len.1 HA.out.len.2 (HM.out.below (by repeat (first | (with_reducible exact Below.refl _ _) | ((with_reducible refine below_setAt ?_ ?_ _); (rotate_left; focus (first | omega | (simp; done) | (simp; omega)))) | ((with_reducible refine Below.alloc ?_ ?_ _); (rotate_left; focus (first | omega | (simp; done) | (simp; omega)))) | (with_reducible refine below_drewN ?_ _) | (with_reducible refine Below.drew ?_))))).mono ?_); rintro x w2 ⟨rfl, hb2⟩; obtain ⟨hc2, hf2⟩ := bcell hb2; have a2 : w.heap.size < w2.heap.size := sz_of hb2 (by first | omega | (simp; done) | (simp; omega)); have a3 : w.heap.size + 1 < w2.heap.size := sz_of hb2 (by first | omega | (simp; done) | (simp; omega))) | go_values | go_skip | go_guarded | go_step | go_upon | (simp only [Int.not_lt, Int.not_le] at *; go_simp) | (go_values <;> (try go_simp)) | (go_ite <;> go_prune <;> (try go_simp)) | (split <;> (first | (rename_i hx; exact (hx _ rfl).elim) | go_prune)))
        refine bodyPost_ret (v := TT.unk.v) (by simp only [results, Try.results45]; go_simp; try rfl) rfl ⟨?_, ?_⟩
        · rfl
        · exact (by repeat (first | (with_reducible exact Below.refl _ _) | ((with_reducible refine below_setAt ?_ ?_ _); (rotate_left; focus (first | omega | (simp; done) | (simp; omega)))) | ((with_reducible refine Below.alloc ?_ ?_ _); (rotate_left; focus (first | omega | (simp; done) | (simp; omega)))) | (with_reducible refine below_drewN ?_ _) | (with_reducible refine Below.drew ?_) | ((with_reducible refine Below.trans ?_ (Below.mono hb2 ?_)); (rotate_left; focus (first | omega | (simp; done) | (simp; omega))))))
    | bad a1 e1 =>
      rw [hs] at hr HF
      simp only at hr
      subst hr
      simp only [TT.v] at HF
      clear hk1
      by_cases hk2 : k = 2
      · subst hk2
        go_enter Try.func45, Try.ntmps45
        repeat' (first | (go_at_call 51; (with_reducible refine (HF.out _ _ _ _ (HA.out.args.below (by repeat (first | (with_reducible exact Below.refl _ _) | ((with_reducible refine below_setAt ?_ ?_ _); (rotate_left; focus (first | omega | (simp; done) | (simp; omega)))) | ((with_reducible refine Below.alloc ?_ ?_ _); (rotate_left; focus (first | omega | (simp; done) | (simp; omega)))) | (with_reducible refine below_drewN ?_ _) | (with_reducible refine Below.drew ?_)))) HA.out.len.1 HA.out.len.2 (HM.out.below (by repeat (first | (with_reducible exact Below.refl _ _) | ((with_reducible refine below_setAt ?_ ?_ _); (rotate_left; focus (first | omega | (simp; done) | (simp; omega)))) | ((with_reducible refine Below.alloc ?_ ?_ _); (rotate_left; focus (first | omega | (simp; done) | (simp; omega)))) | (with_reducible refine below_drewN ?_ _) | (with_reducible refine Below.drew ?_))))).mono ?_); rintro x w2 ⟨rfl, hb2⟩; obtain ⟨hc2, hf2⟩ := bcell hb2; have a2 : w.heap.size < w2.heap.size := sz_of hb2 (by first | omega | (simp; done) | (simp; omega)); have a3 : w.heap.size + 1 < w2.heap.size := sz_of hb2 (by first | omega | (simp; done) | (simp; omega))) | go_values | go_skip | go_guarded | go_step | go_upon | (simp only [Int.not_lt, Int.not_le] at *; go_simp) | (go_values <;> (try go_simp)) | (go_ite <;> go_prune <;> (try go_simp)) | (split <;> (first | (rename_i hx; exact (hx _ rfl).elim) | go_prune)))
        refine bodyPost_ret (v := (TT.bad a1 e1).v) (by simp only [results, Try.results45]; go_simp; try rfl) rfl ⟨?_, ?_⟩
        · rfl
        · exact (by repeat (first | (with_reducible exact Below.refl _ _) | ((with_reducible refine below_setAt ?_ ?_ _); (rotate_left; focus (first | omega | (simp; done) | (simp; omega)))) | ((with_reducible refine Below.alloc ?_ ?_ _); (rotate_left; focus (first | omega | (simp; done) | (simp; omega)))) | (with_reducible refine below_drewN ?_ _) | (with_reducible refine Below.drew ?_) | ((with_reducible refine Below.trans ?_ (Below.mono hb2 ?_)); (rotate_left; focus (first | omega | (simp; done) | (simp; omega))))))
      · have hk2' : (k == 2) = false := beq_eq_false_iff_ne.2 hk2
        clear hk2
        go_enter Try.func45, Try.ntmps45
        repeat' (first | (go_at_call 51; (with_reducible refine (HF.out _ _ _ _ (HA.out.args.below (by repeat (first | (with_reducible exact Below.refl _ _) | ((with_reducible refine below_setAt ?_ ?_ _); (rotate_left; focus (first | omega | (simp; done) | (simp; omega)))) | ((with_reducible refine Below.alloc ?_ ?_ _); (rotate_left; focus (first | omega | (simp; done) | (simp; omega)))) | (with_reducible refine below_drewN ?_ _) | (with_reducible refine Below.drew ?_)))) HA.out.len.1 HA.out.len.2 (HM.out.below (by repeat (first | (with_reducible exact Below.refl _ _) | ((with_reducible refine below_setAt ?_ ?_ _); (rotate_left; focus (first | omega | (simp; done) | (simp; omega)))) | ((with_reducible refine Below.alloc ?_ ?_ _); (rotate_left; focus (first | omega | (simp; done) | (simp; omega)))) | (with_reducible refine below_drewN ?_ _) | (with_reducible refine Below.drew ?_))))).mono ?_); rintro x w2 ⟨rfl, hb2⟩; obtain ⟨hc2, hf2⟩ := bcell hb2; have a2 : w.heap.size < w2.heap.size := sz_of hb2 (by first | omega | (simp; done) | (simp; omega)); have a3 : w.heap.size + 1 < w2.heap.size := sz_of hb2 (by first | omega | (simp; done) | (simp; omega))) | go_values | go_skip | go_guarded | go_step | go_upon | (simp only [Int.not_lt, Int.not_le] at *; go_simp) | (go_values <;> (try go_simp)) | (go_ite <;> go_prune <;> (try go_simp)) | (split <;> (first | (rename_i hx; exact (hx _ rfl).elim) | go_prune)))
        refine bodyPost_ret (v := (TT.bad a1 e1).v) (by simp only [results, Try.results45]; go_simp; try rfl) rfl ⟨?_, ?_⟩
        · rfl
        · exact (by repeat (first | (with_reducible exact Below.refl _ _) | ((with_reducible refine below_setAt ?_ ?_ _); (rotate_left; focus (first | omega | (simp; done) | (simp; omega)))) | ((with_reducible refine Below.alloc ?_ ?_ _); (rotate_left; focus (first | omega | (simp; done) | (simp; omega)))) | (with_reducible refine below_drewN ?_ _) | (with_reducible refine Below.drew ?_) | ((with_reducible refine Below.trans ?_ (Below.mono hb2 ?_)); (rotate_left; focus (first | omega | (simp; done) | (simp; omega))))))
    | ok p f =>
      rw [hs] at hr HF
      simp only at hr
      simp only [TT.v] at HF
      by_cases hk2 : k = 2
      · subst hk2
        rw [if_pos rfl] at hr
        subst hr
        clear hk1
        go_enter Try.func45, Try.ntmps45
        repeat' (first | (go_at_call 51; (with_reducible refine (HF.out _ _ _ _ (HA.out.args.below (by repeat (first | (with_reducible exact Below.refl _ _) | ((with_reducible refine below_setAt ?_ ?_ _); (rotate_left; focus (first | omega | (simp; done) | (simp; omega)))) | ((with_reducible refine Below.alloc ?_ ?_ _); (rotate_left; focus (first | omega | (simp; done) | (simp; omega)))) | (with_reducible refine below_drewN ?_ _) | (with_reducible refine Below.drew ?_)))) HA.out.len.1 HA.out.len.2 (HM.out.below (by repeat (first | (with_reducible exact Below.refl _ _) | ((with_reducible refine below_setAt ?_ ?_ _); (rotate_left; focus (first | omega | (simp; done) | (simp; omega)))) | ((with_reducible refine Below.alloc ?_ ?_ _); (rotate_left; focus (first | omega | (simp; done) | (simp; omega)))) | (with_reducible refine below_drewN ?_ _) | (with_reducible refine Below.drew ?_))))).mono ?_); rintro x w2 ⟨rfl, hb2⟩; obtain ⟨hc2, hf2⟩ := bcell hb2; have a2 : w.heap.size < w2.heap.size := sz_of hb2 (by first | omega | (simp; done) | (simp; omega)); have a3 : w.heap.size + 1 < w2.heap.size := sz_of hb2 (by first | omega | (simp; done) | (simp; omega))) | go_values | go_skip | go_guarded | go_step | go_upon | (simp only [Int.not_lt, Int.not_le] at *; go_simp) | (go_values <;> (try go_simp)) | (go_ite <;> go_prune <;> (try go_simp)) | (split <;> (first | (rename_i hx; exact (hx _ rfl).elim) | go_prune)))
        refine bodyPost_ret (v := (TT.ok p f).v) (by simp only [results, Try.results45]; go_simp; try rfl) rfl ⟨?_, ?_⟩
        · rfl
        · exact (by repeat (first | (with_reducible exact Below.refl _ _) | ((with_reducible refine below_setAt ?_ ?_ _); (rotate_left; focus (first | omega | (simp; done) | (simp; omega)))) | ((with_reducible refine Below.alloc ?_ ?_ _); (rotate_left; focus (first | omega | (simp; done) | (simp; omega)))) | (with_reducible refine below_drewN ?_ _) | (with_reducible refine Below.drew ?_) | ((with_reducible refine Below.trans ?_ (Below.mono hb2 ?_)); (rotate_left; focus (first | omega | (simp; done) | (simp; omega))))))
      · have hk2' : (k == 2) = false := beq_eq_false_iff_ne.2 hk2
        rw [if_neg hk2] at hr
        have HP := Lib.hid (fun w => clock.apply_any p f k n d w)
        unfold clock.ansT clock.ansC at HP
        generalize clock.applyP p f k n d = r at hr HP
        obtain ⟨r1, r2, r3⟩ := r
        simp only at hr HP
        clear hk1 hk2
        by_cases h0 : r3 = 0
        · subst h0
          rw [if_pos rfl] at hr
          subst hr
          go_enter Try.func45, Try.ntmps45
          repeat' (first | (go_at_call 51; (with_reducible refine (HF.out _ _ _ _ (HA.out.args.below (by repeat (first | (with_reducible exact Below.refl _ _) | ((with_reducible refine below_setAt ?_ ?_ _); (rotate_left; focus (first | omega | (simp; done) | (simp; omega)))) | ((with_reducible refine Below.alloc ?_ ?_ _); (rotate_left; focus (first | omega | (simp; done) | (simp; omega)))) | (with_reducible refine below_drewN ?_ _) | (with_reducible refine Below.drew ?_)))) HA.out.len.1 HA.out.len.2 (HM.out.below (by repeat (first | (with_reducible exact Below.refl _ _) | ((with_reducible refine below_setAt ?_ ?_ _); (rotate_left; focus (first | omega | (simp; done) | (simp; omega)))) | ((with_reducible refine Below.alloc ?_ ?_ _); (rotate_left; focus (first | omega | (simp; done) | (simp; omega)))) | (with_reducible refine below_drewN ?_ _) | (with_reducible refine Below.drew ?_))))).mono ?_); rintro x w2 ⟨rfl, hb2⟩; obtain ⟨hc2, hf2⟩ := bcell hb2; have a2 : w.heap.size < w2.heap.size := sz_of hb2 (by first | omega | (simp; done) | (simp; omega)); have a3 : w.heap.size + 1 < w2.heap.size := sz_of hb2 (by first | omega | (simp; done) | (simp; omega))) | (go_at_call 52; (with_reducible refine (HP.out _).mono ?_); rintro x w3 ⟨rfl, hb3⟩; obtain ⟨hc3, hf3⟩ := bcell hb3; have a4 : w.heap.size < w3.heap.size := sz_of hb3 (by first | omega | (simp; done) | (simp; omega)); have a5 : w.heap.size + 1 < w3.heap.size := sz_of hb3 (by first | omega | (simp; done) | (simp; omega)); have a6 : w2.heap.size < w3.heap.size := sz_of hb3 (by first | omega | (simp; done) | (simp; omega))) | go_values | go_skip | go_guarded | go_step | go_upon | (simp only [Int.not_lt, Int.not_le] at *; go_simp) | (go_values <;> (try go_simp)) | (go_ite <;> go_prune <;> (try go_simp)) | (split <;> (first | (rename_i hx; exact (hx _ rfl).elim) | go_prune)))
          refine bodyPost_ret (v := (TT.ok r1 r2).v) (by simp only [results, Try.results45]; go_simp; try rfl) rfl ⟨?_, ?_⟩
          · rfl
          · exact (by repeat (first | (with_reducible exact Below.refl _ _) | ((with_reducible refine below_setAt ?_ ?_ _); (rotate_left; focus (first | omega | (simp; done) | (simp; omega)))) | ((with_reducible refine Below.alloc ?_ ?_ _); (rotate_left; focus (first | omega | (simp; done) | (simp; omega)))) | (with_reducible refine below_drewN ?_ _) | (with_reducible refine Below.drew ?_) | ((with_reducible refine Below.trans ?_ (Below.mono hb3 ?_)); (rotate_left; focus (first | omega | (simp; done) | (simp; omega)))) | ((with_reducible refine Below.trans ?_ (Below.mono hb2 ?_)); (rotate_left; focus (first | omega | (simp; done) | (simp; omega))))))
        · rw [if_neg h0] at hr
          subst hr
          have h0' : (r3 == 0) = false := beq_eq_false_iff_ne.2 h0
          clear h0
          go_enter Try.func45, Try.ntmps45
          repeat' (first | (go_at_call 51; (with_reducible refine (HF.out _ _ _ _ (HA.out.args.below (by repeat (first | (with_reducible exact Below.refl _ _) | ((with_reducible refine below_setAt ?_ ?_ _); (rotate_left; focus (first | omega | (simp; done) | (simp; omega)))) | ((with_reducible refine Below.alloc ?_ ?_ _); (rotate_left; focus (first | omega | (simp; done) | (simp; omega)))) | (with_reducible refine below_drewN ?_ _) | (with_reducible refine Below.drew ?_)))) HA.out.len.1 HA.out.len.2 (HM.out.below (by repeat (first | (with_reducible exact Below.refl _ _) | ((with_reducible refine below_setAt ?_ ?_ _); (rotate_left; focus (first | omega | (simp; done) | (simp; omega)))) | ((with_reducible refine Below.alloc ?_ ?_ _); (rotate_left; focus (first | omega | (simp; done) | (simp; omega)))) | (with_reducible refine below_drewN ?_ _) | (with_reducible refine Below.drew ?_))))).mono ?_); rintro x w2 ⟨rfl, hb2⟩; obtain ⟨hc2, hf2⟩ := bcell hb2; have a2 : w.heap.size < w2.heap.size := sz_of hb2 (by first | omega | (simp; done) | (simp; omega)); have a3 : w.heap.size + 1 < w2.heap.size := sz_of hb2 (by first | omega | (simp; done) | (simp; omega))) | (go_at_call 52; (with_reducible refine (HP.out _).mono ?_); rintro x w3 ⟨rfl, hb3⟩; obtain ⟨hc3, hf3⟩ := bcell hb3; have a4 : w.heap.size < w3.heap.size := sz_of hb3 (by first | omega | (simp; done) | (simp; omega)); have a5 : w.heap.size + 1 < w3.heap.size := sz_of hb3 (by first | omega | (simp; done) | (simp; omega)); have a6 : w2.heap.size < w3.heap.size := sz_of hb3 (by first | omega | (simp; done) | (simp; omega))) | go_values | go_skip | go_guarded | go_step | go_upon | (simp only [Int.not_lt, Int.not_le] at *; go_simp) | (go_values <;> (try go_simp)) | (go_ite <;> go_prune <;> (try go_simp)) | (split <;> (first | (rename_i hx; exact (hx _ rfl).elim) | go_prune)))
          refine bodyPost_ret (v := (TT.bad a r3).v) (by simp only [results, Try.results45]; go_simp; try rfl) rfl ⟨?_, ?_⟩
          · rfl
          · exact (by repeat (first | (with_reducible exact Below.refl _ _) | ((with_reducible refine below_setAt ?_ ?_ _); (rotate_left; focus (first | omega | (simp; done) | (simp; omega)))) | ((with_reducible refine Below.alloc ?_ ?_ _); (rotate_left; focus (first | omega | (simp; done) | (simp; omega)))) | (with_reducible refine below_drewN ?_ _) | (with_reducible refine Below.drew ?_) | ((with_reducible refine Below.trans ?_ (Below.mono hb3 ?_)); (rotate_left; focus (first | omega | (simp; done) | (simp; omega)))) | ((with_reducible refine Below.trans ?_ (Below.mono hb2 ?_)); (rotate_left; focus (first | omega | (simp; done) | (simp; omega))))))

def TT.good : TT → Prop
  | .bad _ e => e ≠ 0
  | _ => True
theorem tell1_good {env : Env} {k : Int} {nm : ByteArray} {n d a : Int} {src : TT} (h : src.good) : (tell1 env k nm n d a src).good := by
  unfold tell1
  split
  · split <;> trivial
  · cases src with
    | unk => trivial
    | bad a e => exact h
    | ok p f =>
      simp only
      split
      · trivial
      · split
        · trivial
        · assumption
theorem tellL_good (env : Env) : ∀ l : PL, (tellL env l).good := by
  intro l
  induction l with
  | nil => trivial
  | cons k nm n d args a tl ih1 ih2 =>
    have h := tell1_good (env := env) (k := k) (nm := nm) (n := n) (d := d) (a := a) ih1
    unfold tellL
    generalize tell1 env k nm n d a (tellL env args) = t at h
    cases t with
    | unk => exact ih2
    | ok p f => trivial
    | bad a e => exact h
theorem tellE_good (env : Env) (e : PE) : (tellE env e).good := tell1_good (tellL_good env e.args)

/-- What is left of a row that came in, where a loop stands. -/
def RestP (wr : World) (ad : Option Addr) (l rest : PL) (i : Nat) : Prop :=
  i + rest.len = l.len ∧ rest.sz ≤ l.sz ∧ (rest = .nil ∨ ∃ b o, ad = some ⟨b, o, none⟩ ∧ b < wr.heap.size ∧ AC wr rest b (o + i * 6))
theorem RestP.start {w : World} {ad : Option Addr} {l : PL} (h : AS w l ad) : RestP w ad l l 0 := by
  refine ⟨by omega, Nat.le_refl _, ?_⟩
  rcases h with h | ⟨b, o, e, hb, h⟩
  · exact .inl h
  · exact .inr ⟨b, o, e, hb, by simpa using h⟩
theorem RestP.below {w w' : World} {ad : Option Addr} {l rest : PL} {i : Nat} (h : RestP w ad l rest i) (hb : Below w.heap.size w w') : RestP w' ad l rest i := by
  obtain ⟨h1, h2, h3⟩ := h
  refine ⟨h1, h2, ?_⟩
  rcases h3 with h3 | ⟨b, o, e, hlt, h3⟩
  · exact .inl h3
  · exact .inr ⟨b, o, e, Nat.lt_of_lt_of_le hlt hb.size, h3.below hb _ _ _ hlt⟩
theorem RestP.tail {w : World} {ad : Option Addr} {l tl args : PL} {k n d a : Int} {nm : ByteArray} {i : Nat} (h : RestP w ad l (.cons k nm n d args a tl) i) : RestP w ad l tl (i + 1) := by
  obtain ⟨h1, h2, h3⟩ := h
  refine ⟨by simp only [PL.len] at h1; omega, by simp only [PL.sz] at h2; omega, ?_⟩
  rcases h3 with h3 | ⟨b, o, e, hlt, h3⟩
  · cases h3
  · obtain ⟨_, _, _, _, _, _, _, ht⟩ := h3
    exact .inr ⟨b, o, e, hlt, by rw [show o + (i + 1) * 6 = o + i * 6 + 6 by omega]; exact ht⟩

theorem cells5' {w : World} {b : Nat} {v0 v1 v2 v3 v4 : Value} {t : TypeId} (h : w.heap[b]? = some (.cells #[v0, v1, v2, v3, v4] t (0, 0))) :
    (w.cell? ⟨b, 0, none⟩ = some v0 ∧ w.cell? ⟨b, 1, none⟩ = some v1 ∧ w.cell? ⟨b, 2, none⟩ = some v2 ∧ w.cell? ⟨b, 3, none⟩ = some v3 ∧ w.cell? ⟨b, 4, none⟩ = some v4) ∧ ∀ o, w.frozen? ⟨b, o, none⟩ = false := by
  refine ⟨⟨?_, ?_, ?_, ?_, ?_⟩, ?_⟩
  all_goals first | (intro o; simp [World.frozen?, h]) | simp [World.cell?, h]

def FsRel (w : World) (env : Env) (L : List (ByteArray × Value)) (l : PL) (ad : Option Addr) (mb : Nat) (v : Value) (wr : World) : Prop :=
  ∃ (i : Nat) (rest : PL), v = .int .i64 (i : Int) ∧ RestP wr ad l rest i ∧ tellL env rest = tellL env l ∧
    wr.heap[w.heap.size]? = some (.cells #[.int .i64 0, .int .i64 0, .bool false, .int .i64 0, .int .i64 0] 81 (0, 0)) ∧ Below w.heap.size w wr


set_option maxRecDepth 100000 in
set_option maxHeartbeats 2000000 in
theorem first_step {env : Env} {L : List (ByteArray × Value)} (l : PL) (ih : ∀ e : PE, e.args.sz < l.sz → TellSaid env L e) : FirstSaid env L l := by
  intro w ad cap mb hs hcap hmx hM
  have HS := Lib.hid hs
  have HM := Lib.hid hM
  have HIH := Lib.hid ih
  clear hs hM ih
  obtain ⟨r, hr⟩ : ∃ r, tellL env l = r := ⟨_, rfl⟩
  rw [hr]
  have HR := Lib.hid hr
  clear hr
  go_enter Try.func51, Try.ntmps51
  go_wp2
  go_loopw [10] (fun v wr => Hid (FsRel w env L l ad mb v wr)) (fun i _ => l.len - (intOf i).toNat)
  case atStart => exact ⟨0, l, rfl, (RestP.start HS.out).below (by repeat (first | (with_reducible exact Below.refl _ _) | ((with_reducible refine below_setAt ?_ ?_ _); (rotate_left; focus (first | omega | (simp; done) | (simp; omega)))) | ((with_reducible refine Below.alloc ?_ ?_ _); (rotate_left; focus (first | omega | (simp; done) | (simp; omega)))) | (with_reducible refine below_drewN ?_ _) | (with_reducible refine Below.drew ?_))), rfl, heap_new w _, (by repeat (first | (with_reducible exact Below.refl _ _) | ((with_reducible refine below_setAt ?_ ?_ _); (rotate_left; focus (first | omega | (simp; done) | (simp; omega)))) | ((with_reducible refine Below.alloc ?_ ?_ _); (rotate_left; focus (first | omega | (simp; done) | (simp; omega)))) | (with_reducible refine below_drewN ?_ _) | (with_reducible refine Below.drew ?_)))⟩
  case round =>
    obtain ⟨i, rest, rfl, hrest, htl, hbox, hbel⟩ := hrel.out
    clear hrel
    obtain ⟨⟨x0, x1, x2, x3, x4⟩, xf⟩ := cells5' hbox
    have HBOX := Lib.hid hbox
    have HBEL := Lib.hid hbel
    have hil := hrest.1
    have hbl := lt_of_block hbox
    have HRS := Lib.hid hrest
    have HTL := Lib.hid htl
    clear hbox hbel hrest htl
    cases rest with
    | nil =>
      have hil' : (i : Int) = (l.len : Int) := by simp only [PL.len] at hil; omega
      have h0 := HTL.out
      rw [tellL] at h0
      have h1 : r = .unk := by rw [← HR.out, ← h0]
      subst h1
      clear h0
      repeat' (first | go_values | go_skip | go_guarded | go_step | go_upon | (simp only [Int.not_lt, Int.not_le] at *; go_simp) | (go_values <;> (try go_simp)) | (go_ite <;> go_prune <;> (try go_simp)) | (split <;> (first | (rename_i hx; exact (hx _ rfl).elim) | go_prune)))
      refine bodyPost_ret (v := TT.unk.v) (by simp only [results, Try.results51]; go_simp; try rfl) rfl ⟨?_, ?_⟩
      · rfl
      · exact (by repeat (first | (with_reducible exact Below.refl _ _) | ((with_reducible refine below_setAt ?_ ?_ _); (rotate_left; focus (first | omega | (simp; done) | (simp; omega)))) | ((with_reducible refine Below.alloc ?_ ?_ _); (rotate_left; focus (first | omega | (simp; done) | (simp; omega)))) | (with_reducible refine below_drewN ?_ _) | (with_reducible refine Below.drew ?_) | ((with_reducible refine Below.trans ?_ (Below.mono HBEL.out ?_)); (rotate_left; focus (first | omega | (simp; done) | (simp; omega))))))
    | cons k1 nm1 n1 d1 args1 a1 tl =>
      have hil' : (i : Int) < (l.len : Int) := by simp only [PL.len] at hil; omega
      obtain ⟨b, o, rfl, hb, h0, h1, h2, h3, h5, hn, ⟨ad1, cap1, h4, hcap1, hcm1, hd1⟩, ht⟩ := HRS.out.2.2.resolve_left (by intro h; cases h)
      have hsub := HRS.out.2.1
      simp only [PL.sz] at hsub
      have HC := Lib.hid (HIH.out ⟨k1, nm1, n1, d1, args1, a1⟩ (by show args1.sz < l.sz; omega))
      have HE := Lib.hid (show AE wr ⟨k1, nm1, n1, d1, args1, a1⟩ ad1 cap1 from ⟨hn, ⟨hcap1, hcm1⟩, hd1⟩)
      have hgd := tellE_good env ⟨k1, nm1, n1, d1, args1, a1⟩
      have htl := HTL.out
      rw [tellL] at htl
      unfold TellSaid at HC
      simp only at HC
      have hte : tellE env ⟨k1, nm1, n1, d1, args1, a1⟩ = tell1 env k1 nm1 n1 d1 a1 (tellL env args1) := rfl
      rw [← hte] at htl
      generalize tellE env ⟨k1, nm1, n1, d1, args1, a1⟩ = t at htl hgd HC
      clear hte ht hn hd1
      cases t with
      | unk =>
        simp only at htl
        simp only [TT.v] at HC
        have HT2 := Lib.hid htl
        clear htl hgd
        repeat' (first | (go_at_call 45; (with_reducible refine (HC.out _ _ _ _ (HE.out.below (by repeat (first | (with_reducible exact Below.refl _ _) | ((with_reducible refine below_setAt ?_ ?_ _); (rotate_left; focus (first | omega | (simp; done) | (simp; omega)))) | ((with_reducible refine Below.alloc ?_ ?_ _); (rotate_left; focus (first | omega | (simp; done) | (simp; omega)))) | (with_reducible refine below_drewN ?_ _) | (with_reducible refine Below.drew ?_)))) (HM.out.below (by repeat (first | (with_reducible exact Below.refl _ _) | ((with_reducible refine below_setAt ?_ ?_ _); (rotate_left; focus (first | omega | (simp; done) | (simp; omega)))) | ((with_reducible refine Below.alloc ?_ ?_ _); (rotate_left; focus (first | omega | (simp; done) | (simp; omega)))) | (with_reducible refine below_drewN ?_ _) | (with_reducible refine Below.drew ?_) | ((with_reducible refine Below.trans ?_ (Below.mono HBEL.out ?_)); (rotate_left; focus (first | omega | (simp; done) | (simp; omega)))))))).mono ?_); rintro x w2 ⟨rfl, hb2⟩; obtain ⟨hc2, hf2⟩ := bcell hb2; have a2 : w.heap.size < w2.heap.size := sz_of hb2 (by first | omega | (simp; done) | (simp; omega)); have a3 : wr.heap.size < w2.heap.size := sz_of hb2 (by first | omega | (simp; done) | (simp; omega)); have hbx2 := (hb2.block w.heap.size (by first | omega | (simp; done) | (simp; omega))).trans ((heap_alloc_old _ _ hbl).trans HBOX.out); obtain ⟨⟨y0, y1, y2, y3, y4⟩, yf⟩ := cells5' hbx2; clear hbx2) | go_values | go_skip | go_guarded | go_step | go_upon | (simp only [Int.not_lt, Int.not_le] at *; go_simp) | (go_values <;> (try go_simp)) | (go_ite <;> go_prune <;> (try go_simp)) | (split <;> (first | (rename_i hx; exact (hx _ rfl).elim) | go_prune)))
        go_roundw
        case rel => exact ⟨i + 1, tl, by go_num, HRS.out.tail.below (by repeat (first | (with_reducible exact Below.refl _ _) | ((with_reducible refine below_setAt ?_ ?_ _); (rotate_left; focus (first | omega | (simp; done) | (simp; omega)))) | ((with_reducible refine Below.alloc ?_ ?_ _); (rotate_left; focus (first | omega | (simp; done) | (simp; omega)))) | (with_reducible refine below_drewN ?_ _) | (with_reducible refine Below.drew ?_) | ((with_reducible refine Below.trans ?_ (Below.mono hb2 ?_)); (rotate_left; focus (first | omega | (simp; done) | (simp; omega)))))), HT2.out, (Below.block (show Below wr.heap.size wr _ from (by repeat (first | (with_reducible exact Below.refl _ _) | ((with_reducible refine below_setAt ?_ ?_ _); (rotate_left; focus (first | omega | (simp; done) | (simp; omega)))) | ((with_reducible refine Below.alloc ?_ ?_ _); (rotate_left; focus (first | omega | (simp; done) | (simp; omega)))) | (with_reducible refine below_drewN ?_ _) | (with_reducible refine Below.drew ?_) | ((with_reducible refine Below.trans ?_ (Below.mono hb2 ?_)); (rotate_left; focus (first | omega | (simp; done) | (simp; omega))))))) _ hbl).trans HBOX.out, (by repeat (first | (with_reducible exact Below.refl _ _) | ((with_reducible refine below_setAt ?_ ?_ _); (rotate_left; focus (first | omega | (simp; done) | (simp; omega)))) | ((with_reducible refine Below.alloc ?_ ?_ _); (rotate_left; focus (first | omega | (simp; done) | (simp; omega)))) | (with_reducible refine below_drewN ?_ _) | (with_reducible refine Below.drew ?_) | ((with_reducible refine Below.trans ?_ (Below.mono hb2 ?_)); (rotate_left; focus (first | omega | (simp; done) | (simp; omega)))) | ((with_reducible refine Below.trans ?_ (Below.mono HBEL.out ?_)); (rotate_left; focus (first | omega | (simp; done) | (simp; omega))))))⟩
        case measure => simp [intOf]; omega
      | ok p f =>
        simp only at htl
        simp only [TT.v] at HC
        have h1 : r = .ok p f := by rw [← HR.out, ← htl]
        subst h1
        clear htl hgd
        repeat' (first | (go_at_call 45; (with_reducible refine (HC.out _ _ _ _ (HE.out.below (by repeat (first | (with_reducible exact Below.refl _ _) | ((with_reducible refine below_setAt ?_ ?_ _); (rotate_left; focus (first | omega | (simp; done) | (simp; omega)))) | ((with_reducible refine Below.alloc ?_ ?_ _); (rotate_left; focus (first | omega | (simp; done) | (simp; omega)))) | (with_reducible refine below_drewN ?_ _) | (with_reducible refine Below.drew ?_)))) (HM.out.below (by repeat (first | (with_reducible exact Below.refl _ _) | ((with_reducible refine below_setAt ?_ ?_ _); (rotate_left; focus (first | omega | (simp; done) | (simp; omega)))) | ((with_reducible refine Below.alloc ?_ ?_ _); (rotate_left; focus (first | omega | (simp; done) | (simp; omega)))) | (with_reducible refine below_drewN ?_ _) | (with_reducible refine Below.drew ?_) | ((with_reducible refine Below.trans ?_ (Below.mono HBEL.out ?_)); (rotate_left; focus (first | omega | (simp; done) | (simp; omega)))))))).mono ?_); rintro x w2 ⟨rfl, hb2⟩; obtain ⟨hc2, hf2⟩ := bcell hb2; have a2 : w.heap.size < w2.heap.size := sz_of hb2 (by first | omega | (simp; done) | (simp; omega)); have a3 : wr.heap.size < w2.heap.size := sz_of hb2 (by first | omega | (simp; done) | (simp; omega)); have hbx2 := (hb2.block w.heap.size (by first | omega | (simp; done) | (simp; omega))).trans ((heap_alloc_old _ _ hbl).trans HBOX.out); obtain ⟨⟨y0, y1, y2, y3, y4⟩, yf⟩ := cells5' hbx2; clear hbx2) | go_values | go_skip | go_guarded | go_step | go_upon | (simp only [Int.not_lt, Int.not_le] at *; go_simp) | (go_values <;> (try go_simp)) | (go_ite <;> go_prune <;> (try go_simp)) | (split <;> (first | (rename_i hx; exact (hx _ rfl).elim) | go_prune)))
        refine bodyPost_ret (v := (TT.ok p f).v) (by simp only [results, Try.results51]; go_simp; try rfl) rfl ⟨?_, ?_⟩
        · rfl
        · exact (by repeat (first | (with_reducible exact Below.refl _ _) | ((with_reducible refine below_setAt ?_ ?_ _); (rotate_left; focus (first | omega | (simp; done) | (simp; omega)))) | ((with_reducible refine Below.alloc ?_ ?_ _); (rotate_left; focus (first | omega | (simp; done) | (simp; omega)))) | (with_reducible refine below_drewN ?_ _) | (with_reducible refine Below.drew ?_) | ((with_reducible refine Below.trans ?_ (Below.mono hb2 ?_)); (rotate_left; focus (first | omega | (simp; done) | (simp; omega)))) | ((with_reducible refine Below.trans ?_ (Below.mono HBEL.out ?_)); (rotate_left; focus (first | omega | (simp; done) | (simp; omega))))))
      | bad ab eb =>
        simp only at htl
        simp only [TT.v] at HC
        have h1 : r = .bad ab eb := by rw [← HR.out, ← htl]
        subst h1
        have heb : (eb == 0) = false := beq_eq_false_iff_ne.2 hgd
        clear htl hgd
        repeat' (first | (go_at_call 45; (with_reducible refine (HC.out _ _ _ _ (HE.out.below (by repeat (first | (with_reducible exact Below.refl _ _) | ((with_reducible refine below_setAt ?_ ?_ _); (rotate_left; focus (first | omega | (simp; done) | (simp; omega)))) | ((with_reducible refine Below.alloc ?_ ?_ _); (rotate_left; focus (first | omega | (simp; done) | (simp; omega)))) | (with_reducible refine below_drewN ?_ _) | (with_reducible refine Below.drew ?_)))) (HM.out.below (by repeat (first | (with_reducible exact Below.refl _ _) | ((with_reducible refine below_setAt ?_ ?_ _); (rotate_left; focus (first | omega | (simp; done) | (simp; omega)))) | ((with_reducible refine Below.alloc ?_ ?_ _); (rotate_left; focus (first | omega | (simp; done) | (simp; omega)))) | (with_reducible refine below_drewN ?_ _) | (with_reducible refine Below.drew ?_) | ((with_reducible refine Below.trans ?_ (Below.mono HBEL.out ?_)); (rotate_left; focus (first | omega | (simp; done) | (simp; omega)))))))).mono ?_); rintro x w2 ⟨rfl, hb2⟩; obtain ⟨hc2, hf2⟩ := bcell hb2; have a2 : w.heap.size < w2.heap.size := sz_of hb2 (by first | omega | (simp; done) | (simp; omega)); have a3 : wr.heap.size < w2.heap.size := sz_of hb2 (by first | omega | (simp; done) | (simp; omega)); have hbx2 := (hb2.block w.heap.size (by first | omega | (simp; done) | (simp; omega))).trans ((heap_alloc_old _ _ hbl).trans HBOX.out); obtain ⟨⟨y0, y1, y2, y3, y4⟩, yf⟩ := cells5' hbx2; clear hbx2) | go_values | go_skip | go_guarded | go_step | go_upon | (simp only [Int.not_lt, Int.not_le] at *; go_simp) | (go_values <;> (try go_simp)) | (go_ite <;> go_prune <;> (try go_simp)) | (split <;> (first | (rename_i hx; exact (hx _ rfl).elim) | go_prune)))
        refine bodyPost_ret (v := (TT.bad ab eb).v) (by simp only [results, Try.results51]; go_simp; try rfl) rfl ⟨?_, ?_⟩
        · rfl
        · exact (by repeat (first | (with_reducible exact Below.refl _ _) | ((with_reducible refine below_setAt ?_ ?_ _); (rotate_left; focus (first | omega | (simp; done) | (simp; omega)))) | ((with_reducible refine Below.alloc ?_ ?_ _); (rotate_left; focus (first | omega | (simp; done) | (simp; omega)))) | (with_reducible refine below_drewN ?_ _) | (with_reducible refine Below.drew ?_) | ((with_reducible refine Below.trans ?_ (Below.mono hb2 ?_)); (rotate_left; focus (first | omega | (simp; done) | (simp; omega)))) | ((with_reducible refine Below.trans ?_ (Below.mono HBEL.out ?_)); (rotate_left; focus (first | omega | (simp; done) | (simp; omega))))))

theorem told_any {env : Env} {L : List (ByteArray × Value)} (hE : EnvIs L env) : ∀ (N : Nat), (∀ l : PL, l.sz < N → FirstSaid env L l) ∧ (∀ e : PE, e.args.sz < N → TellSaid env L e) := by
  intro N
  induction N with
  | zero => exact ⟨fun l h => absurd h (Nat.not_lt_zero _), fun e h => absurd h (Nat.not_lt_zero _)⟩
  | succ N ih =>
    have h1 : ∀ l : PL, l.sz < N + 1 → FirstSaid env L l := fun l h => first_step l (fun e he => ih.2 e (by omega))
    exact ⟨h1, fun e h => tell_step hE e (h1 _ h)⟩
theorem tell_any {env : Env} {L : List (ByteArray × Value)} (hE : EnvIs L env) (e : PE) : TellSaid env L e := (told_any hE _).2 e (Nat.lt_succ_self _)

end Go.Proofs.Ytjcmjlkihfcdcaa.syn
