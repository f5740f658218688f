/-
  One call's arguments have one clock: askCall; flows' clocks are their expressions': askFlows.
-/
import Derived.Test.YtjcmjlkihfcdcaaChk3
namespace Go.Proofs.Ytjcmjlkihfcdcaa.syn
open Go.RowKit
set_option linter.unusedVariables false
set_option linter.unusedSimpArgs false

theorem cells2c {w : World} {b : Nat} {v0 v1 : Value} {t : TypeId} (h : w.heap[b]? = some (.cells #[v0, v1] t (0, 0))) :
    (w.cell? ⟨b, 0, none⟩ = some v0 ∧ w.cell? ⟨b, 1, none⟩ = some v1) ∧ ∀ o, w.frozen? ⟨b, o, none⟩ = false := by
  refine ⟨⟨?_, ?_⟩, ?_⟩
  all_goals first | (intro o; simp [World.frozen?, h]) | simp [World.cell?, h]
theorem set_at2 {w : World} {r : Nat} {a b : Value} {t : TypeId} (h : w.heap[r]? = some (.cells #[a, b] t (0, 0))) (o : Nat) (u : Value) :
    (w.setCell ⟨r, o, none⟩ u).heap[r]? = some (.cells (#[a, b].setIfInBounds o u) t (0, 0)) := by
  have hlt := lt_of_block h
  have h' : w.heap[r] = .cells #[a, b] t (0, 0) := by simpa [Array.getElem?_eq_getElem hlt] using h
  show (w.heap.modify r _)[r]? = _
  rw [Array.getElem?_eq_getElem (by simpa using hlt), Array.getElem_modify_self, h']
  rfl
theorem set2 {w : World} {r : Nat} {a b a' b' : Value} {t : TypeId} (h : w.heap[r]? = some (.cells #[a, b] t (0, 0))) :
    ((w.setCell ⟨r, 0, none⟩ a').setCell ⟨r, 1, none⟩ b').heap[r]? = some (.cells #[a', b'] t (0, 0)) := set_at2 (a := a') (b := b) (set_at2 h 0 a') 1 b'

theorem told_form (env : Env) (k : Int) (nm : ByteArray) (n d a : Int) (args : PL) : (∃ ab eb, tell1 env k nm n d a (tellL env args) = .bad ab eb) ∨
    ∃ p f kb, (tell1 env k nm n d a (tellL env args)).v = .agg #[.int .i64 p, .int .i64 f, .bool kb, .int .i64 0, .int .i64 0] ∧
      (∀ c tl, ckL env c (.cons k nm n d args a tl) = (decide ((p, f) = c) && ckL env c tl)) ∧ ∀ tl, ckA env (.cons k nm n d args a tl) = ckL env (p, f) tl := by
  cases h : tell1 env k nm n d a (tellL env args) with
  | bad ab eb => exact .inl ⟨ab, eb, rfl⟩
  | unk => exact .inr ⟨0, 0, false, rfl, fun c tl => by rw [ckL, h], fun tl => by rw [ckA, h]⟩
  | ok p f => exact .inr ⟨p, f, true, rfl, fun c tl => by rw [ckL, h], fun tl => by rw [ckA, h]⟩
theorem ckL_bad {env : Env} {k : Int} {nm : ByteArray} {n d a ab eb : Int} {args : PL} (h : tell1 env k nm n d a (tellL env args) = .bad ab eb) (c : Int × Int) (tl : PL) : ckL env c (.cons k nm n d args a tl) = false := by rw [ckL, h]
theorem ckA_bad {env : Env} {k : Int} {nm : ByteArray} {n d a ab eb : Int} {args : PL} (h : tell1 env k nm n d a (tellL env args) = .bad ab eb) (tl : PL) : ckA env (.cons k nm n d args a tl) = false := by rw [ckA, h]

def AskAns (b : Bool) (x : Ending) : Prop := if b = true then x = OkPair else ∃ a e, e ≠ 0 ∧ x = .returned (.tuple #[.int .i64 a, .int .i64 e])
def AkRel (w : World) (env : Env) (e : PE) (ad : Option Addr) (cap : Nat) (v : Value) (wr : World) : Prop :=
  ∃ (i : Nat) (rest : PL) (c1 c2 : Int), v = .int .i64 (i : Int) ∧ RestP w ad e.args rest i ∧ (i = 0 → rest = e.args) ∧ (i ≠ 0 → ckL env (c1, c2) rest = ckA env e.args) ∧
    wr.heap[w.heap.size]? = some (.cells #[.int .i64 e.k, .string e.nm, .int .i64 e.n, .int .i64 e.d, .slice ad e.args.len cap, .int .i64 e.a] 39 (0, 0)) ∧
    wr.heap[w.heap.size + 1]? = some (.cells #[.int .i64 c1, .int .i64 c2] 43 (0, 0)) ∧ Below w.heap.size w wr


set_option maxRecDepth 100000 in
set_option maxHeartbeats 4000000 in
theorem askCall_any {w : World} (e : PE) (ad : Option Addr) (cap mb : Nat) (L : List (ByteArray × Value)) (env : Env) (hae : AE w e ad cap) (hM : MapS w mb L) (hE : EnvIs L env) :
    Calls Try.prog 46 #[.map (some mb), .agg #[.int .i64 e.k, .string e.nm, .int .i64 e.n, .int .i64 e.d, .slice ad e.args.len cap, .int .i64 e.a]] w fun x w' => AskAns (ckA env e.args) x ∧ Below w.heap.size w w' := by
  obtain ⟨k, nm, n, d, args, a⟩ := e
  have hlen := hae.len
  simp only at hlen ⊢
  have HA := Lib.hid hae
  have HM := Lib.hid hM
  clear hae hM
  obtain ⟨r, hr⟩ : ∃ r, ckA env args = r := ⟨_, rfl⟩
  rw [hr]
  have HR := Lib.hid hr
  clear hr
  go_enter Try.func46, Try.ntmps46
  go_wp2
  go_loopw [13] (fun v wr => Hid (AkRel w env ⟨k, nm, n, d, args, a⟩ ad cap v wr)) (fun i _ => args.len - (intOf i).toNat)
  case atStart => exact ⟨0, args, 0, 0, rfl, RestP.start HA.out.args, fun _ => rfl, fun h => absurd rfl h, (heap_alloc_old _ _ (by simp)).trans (heap_new w _), by simpa using heap_new (w.alloc _) _, (by repeat (first | (with_reducible exact Below.refl _ _) | ((with_reducible refine below_setAt ?_ ?_ _); (rotate_left; focus (first | omega | (simp; done) | (simp; omega)))) | ((with_reducible refine Below.alloc ?_ ?_ _); (rotate_left; focus (first | omega | (simp; done) | (simp; omega)))) | (with_reducible refine below_drewN ?_ _) | (with_reducible refine Below.drew ?_)))⟩
  case round =>
    obtain ⟨i, rest, c1, c2, rfl, hrest, hz, hnz, hbox, hfir, hbel⟩ := hrel.out
    clear hrel
    simp only at hz hnz
    obtain ⟨⟨x0, x1, x2, x3, x4, x5⟩, xf⟩ := cells6' hbox
    obtain ⟨⟨g0, g1⟩, gf⟩ := cells2c hfir
    have HBOX := Lib.hid hbox
    have HFIR := Lib.hid hfir
    have HBEL := Lib.hid hbel
    have hil := hrest.1
    simp only at hil
    have hbl := lt_of_block hbox
    have hbl2 := lt_of_block hfir
    have hsB := hbel.size
    have HRS0 := Lib.hid hrest
    have HRS := Lib.hid (hrest.below hbel)
    clear hbox hfir hbel hrest
    cases rest with
    | nil =>
      have hil' : (i : Int) = (args.len : Int) := by simp only [PL.len] at hil; omega
      have h1 : r = true := by
        rw [← HR.out]
        by_cases h0 : i = 0
        · rw [← hz h0]; rfl
        · rw [← hnz h0]; rfl
      subst h1
      clear hz hnz
      go_wp2
      go_ret2
      exact ⟨rfl, HBEL.out⟩
    | cons k1 nm1 n1 d1 args1 a1 tl =>
      have hil' : (i : Int) < (args.len : Int) := by simp only [PL.len] at hil; omega
      obtain ⟨b, o, rfl, hb, h0, h1, h2, h3, h5, hn, ⟨ad1, cap1, h4, hcap1, hcm1, hd1⟩, ht⟩ := HRS.out.2.2.resolve_left (by intro h; cases h)
      have HC := Lib.hid (tell_any hE ⟨k1, nm1, n1, d1, args1, a1⟩)
      have HE := Lib.hid (show AE wr ⟨k1, nm1, n1, d1, args1, a1⟩ ad1 cap1 from ⟨hn, ⟨hcap1, hcm1⟩, hd1⟩)
      have hgd := tellE_good env ⟨k1, nm1, n1, d1, args1, a1⟩
      unfold TellSaid at HC
      simp only at HC
      have hte : tellE env ⟨k1, nm1, n1, d1, args1, a1⟩ = tell1 env k1 nm1 n1 d1 a1 (tellL env args1) := rfl
      rw [hte] at HC hgd
      clear hte ht hn hd1
      rcases told_form env k1 nm1 n1 d1 a1 args1 with ⟨ab, eb, hbad⟩ | ⟨p, f, kb, hv, hckl, hcka⟩
      · have h1 : r = false := by
          rw [← HR.out]
          by_cases h0 : i = 0
          · rw [← hz h0]; exact ckA_bad hbad tl
          · rw [← hnz h0]; exact ckL_bad hbad (c1, c2) tl
        subst h1
        rw [hbad] at HC hgd
        simp only [TT.v] at HC
        have heb : (eb == 0) = false := beq_eq_false_iff_ne.2 hgd
        clear hz hnz hbad
        go_wp2_with (go_at_call 45; (with_reducible refine (HC.out _ _ _ _ (HE.out.below (by repeat (first | (with_reducible exact Below.refl _ _) | ((with_reducible refine below_setAt ?_ ?_ _); (rotate_left; focus (first | omega | (simp; done) | (simp; omega)))) | ((with_reducible refine Below.alloc ?_ ?_ _); (rotate_left; focus (first | omega | (simp; done) | (simp; omega)))) | (with_reducible refine below_drewN ?_ _) | (with_reducible refine Below.drew ?_)))) (HM.out.below (by repeat (first | (with_reducible exact Below.refl _ _) | ((with_reducible refine below_setAt ?_ ?_ _); (rotate_left; focus (first | omega | (simp; done) | (simp; omega)))) | ((with_reducible refine Below.alloc ?_ ?_ _); (rotate_left; focus (first | omega | (simp; done) | (simp; omega)))) | (with_reducible refine below_drewN ?_ _) | (with_reducible refine Below.drew ?_) | ((with_reducible refine Below.trans ?_ (Below.mono HBEL.out ?_)); (rotate_left; focus (first | omega | (simp; done) | (simp; omega)))))))).mono ?_); rintro x w2 ⟨rfl, hb2⟩; obtain ⟨hc2, hf2⟩ := bcell hb2; have a2 : w.heap.size < w2.heap.size := sz_of hb2 (by first | omega | (simp; done) | (simp; omega)); have a2' : w.heap.size + 1 < w2.heap.size := sz_of hb2 (by first | omega | (simp; done) | (simp; omega)); have a3 : wr.heap.size < w2.heap.size := sz_of hb2 (by first | omega | (simp; done) | (simp; omega)); have hbx2 := (hb2.block w.heap.size (by first | omega | (simp; done) | (simp; omega))).trans ((heap_alloc_old _ _ hbl).trans HBOX.out); obtain ⟨⟨y0, y1, y2, y3, y4, y5⟩, yf⟩ := cells6' hbx2; have hby2 := (hb2.block (w.heap.size + 1) (by first | omega | (simp; done) | (simp; omega))).trans ((heap_alloc_old _ _ hbl2).trans HFIR.out); obtain ⟨⟨z0, z1⟩, zf⟩ := cells2c hby2; have HY2 := Lib.hid hby2; clear hbx2 hby2)
        go_quiet (fail)
        go_wp2
        go_ret2
        exact ⟨⟨ab, eb, hgd, rfl⟩, (by repeat (first | (with_reducible exact Below.refl _ _) | ((with_reducible refine below_setAt ?_ ?_ _); (rotate_left; focus (first | omega | (simp; done) | (simp; omega)))) | ((with_reducible refine Below.alloc ?_ ?_ _); (rotate_left; focus (first | omega | (simp; done) | (simp; omega)))) | (with_reducible refine below_drewN ?_ _) | (with_reducible refine Below.drew ?_) | ((with_reducible refine Below.trans ?_ (Below.mono hb2 ?_)); (rotate_left; focus (first | omega | (simp; done) | (simp; omega)))) | ((with_reducible refine Below.trans ?_ (Below.mono HBEL.out ?_)); (rotate_left; focus (first | omega | (simp; done) | (simp; omega))))))⟩
      · rw [hv] at HC
        clear hv hgd
        by_cases h0 : i = 0
        · have hi0 : ((i : Int) == 0) = true := by rw [beq_iff_eq]; omega
          have hq := fun w => eq_clock p f p f w
          simp only [and_self, decide_true] at hq
          have h2 : ckL env (p, f) tl = ckA env args := by rw [← hz h0, hcka tl]
          have H2 := Lib.hid h2
          have HZ0 := Lib.hid h0
          clear hz hnz hckl hcka h0 h2
          go_wp2_with (go_at_call 45; (with_reducible refine (HC.out _ _ _ _ (HE.out.below (by repeat (first | (with_reducible exact Below.refl _ _) | ((with_reducible refine below_setAt ?_ ?_ _); (rotate_left; focus (first | omega | (simp; done) | (simp; omega)))) | ((with_reducible refine Below.alloc ?_ ?_ _); (rotate_left; focus (first | omega | (simp; done) | (simp; omega)))) | (with_reducible refine below_drewN ?_ _) | (with_reducible refine Below.drew ?_)))) (HM.out.below (by repeat (first | (with_reducible exact Below.refl _ _) | ((with_reducible refine below_setAt ?_ ?_ _); (rotate_left; focus (first | omega | (simp; done) | (simp; omega)))) | ((with_reducible refine Below.alloc ?_ ?_ _); (rotate_left; focus (first | omega | (simp; done) | (simp; omega)))) | (with_reducible refine below_drewN ?_ _) | (with_reducible refine Below.drew ?_) | ((with_reducible refine Below.trans ?_ (Below.mono HBEL.out ?_)); (rotate_left; focus (first | omega | (simp; done) | (simp; omega)))))))).mono ?_); rintro x w2 ⟨rfl, hb2⟩; obtain ⟨hc2, hf2⟩ := bcell hb2; have a2 : w.heap.size < w2.heap.size := sz_of hb2 (by first | omega | (simp; done) | (simp; omega)); have a2' : w.heap.size + 1 < w2.heap.size := sz_of hb2 (by first | omega | (simp; done) | (simp; omega)); have a3 : wr.heap.size < w2.heap.size := sz_of hb2 (by first | omega | (simp; done) | (simp; omega)); have hbx2 := (hb2.block w.heap.size (by first | omega | (simp; done) | (simp; omega))).trans ((heap_alloc_old _ _ hbl).trans HBOX.out); obtain ⟨⟨y0, y1, y2, y3, y4, y5⟩, yf⟩ := cells6' hbx2; have hby2 := (hb2.block (w.heap.size + 1) (by first | omega | (simp; done) | (simp; omega))).trans ((heap_alloc_old _ _ hbl2).trans HFIR.out); obtain ⟨⟨z0, z1⟩, zf⟩ := cells2c hby2; have HY2 := Lib.hid hby2; clear hbx2 hby2)
          refine ⟨⟨i + 1, tl, p, f, by go_num, HRS0.out.tail, fun h => by omega, fun _ => H2.out, ?_, ?_, (by repeat (first | (with_reducible exact Below.refl _ _) | ((with_reducible refine below_setAt ?_ ?_ _); (rotate_left; focus (first | omega | (simp; done) | (simp; omega)))) | ((with_reducible refine Below.alloc ?_ ?_ _); (rotate_left; focus (first | omega | (simp; done) | (simp; omega)))) | (with_reducible refine below_drewN ?_ _) | (with_reducible refine Below.drew ?_) | ((with_reducible refine Below.trans ?_ (Below.mono hb2 ?_)); (rotate_left; focus (first | omega | (simp; done) | (simp; omega)))) | ((with_reducible refine Below.trans ?_ (Below.mono HBEL.out ?_)); (rotate_left; focus (first | omega | (simp; done) | (simp; omega))))))⟩, by simp [intOf]; omega⟩
          · exact (Below.block (show Below (w.heap.size + 1) wr _ from (by repeat (first | (with_reducible exact Below.refl _ _) | ((with_reducible refine below_setAt ?_ ?_ _); (rotate_left; focus (first | omega | (simp; done) | (simp; omega)))) | ((with_reducible refine Below.alloc ?_ ?_ _); (rotate_left; focus (first | omega | (simp; done) | (simp; omega)))) | (with_reducible refine below_drewN ?_ _) | (with_reducible refine Below.drew ?_) | ((with_reducible refine Below.trans ?_ (Below.mono hb2 ?_)); (rotate_left; focus (first | omega | (simp; done) | (simp; omega))))))) _ (by omega)).trans HBOX.out
          · exact (heap_alloc_old _ _ (by simpa [World.setCell] using a2')).trans (set2 HY2.out)
        · have hi0 : ((i : Int) == 0) = false := by rw [beq_eq_false_iff_ne]; omega
          have hck := hnz h0
          rw [hckl (c1, c2) tl] at hck
          have HI0 := Lib.hid h0
          by_cases hcc : p = c1 ∧ f = c2
          · obtain ⟨rfl, rfl⟩ := hcc
            have hq := fun w => eq_clock p f p f w
            simp only [and_self, decide_true] at hq
            have H2 := Lib.hid (show ckL env (p, f) tl = ckA env args by rw [← hck]; simp)
            clear hz hnz hckl hcka h0 hck
            go_wp2_with (go_at_call 45; (with_reducible refine (HC.out _ _ _ _ (HE.out.below (by repeat (first | (with_reducible exact Below.refl _ _) | ((with_reducible refine below_setAt ?_ ?_ _); (rotate_left; focus (first | omega | (simp; done) | (simp; omega)))) | ((with_reducible refine Below.alloc ?_ ?_ _); (rotate_left; focus (first | omega | (simp; done) | (simp; omega)))) | (with_reducible refine below_drewN ?_ _) | (with_reducible refine Below.drew ?_)))) (HM.out.below (by repeat (first | (with_reducible exact Below.refl _ _) | ((with_reducible refine below_setAt ?_ ?_ _); (rotate_left; focus (first | omega | (simp; done) | (simp; omega)))) | ((with_reducible refine Below.alloc ?_ ?_ _); (rotate_left; focus (first | omega | (simp; done) | (simp; omega)))) | (with_reducible refine below_drewN ?_ _) | (with_reducible refine Below.drew ?_) | ((with_reducible refine Below.trans ?_ (Below.mono HBEL.out ?_)); (rotate_left; focus (first | omega | (simp; done) | (simp; omega)))))))).mono ?_); rintro x w2 ⟨rfl, hb2⟩; obtain ⟨hc2, hf2⟩ := bcell hb2; have a2 : w.heap.size < w2.heap.size := sz_of hb2 (by first | omega | (simp; done) | (simp; omega)); have a2' : w.heap.size + 1 < w2.heap.size := sz_of hb2 (by first | omega | (simp; done) | (simp; omega)); have a3 : wr.heap.size < w2.heap.size := sz_of hb2 (by first | omega | (simp; done) | (simp; omega)); have hbx2 := (hb2.block w.heap.size (by first | omega | (simp; done) | (simp; omega))).trans ((heap_alloc_old _ _ hbl).trans HBOX.out); obtain ⟨⟨y0, y1, y2, y3, y4, y5⟩, yf⟩ := cells6' hbx2; have hby2 := (hb2.block (w.heap.size + 1) (by first | omega | (simp; done) | (simp; omega))).trans ((heap_alloc_old _ _ hbl2).trans HFIR.out); obtain ⟨⟨z0, z1⟩, zf⟩ := cells2c hby2; have HY2 := Lib.hid hby2; clear hbx2 hby2)
            refine ⟨⟨i + 1, tl, p, f, by go_num, HRS0.out.tail, fun h => by omega, fun _ => H2.out, ?_, ?_, (by repeat (first | (with_reducible exact Below.refl _ _) | ((with_reducible refine below_setAt ?_ ?_ _); (rotate_left; focus (first | omega | (simp; done) | (simp; omega)))) | ((with_reducible refine Below.alloc ?_ ?_ _); (rotate_left; focus (first | omega | (simp; done) | (simp; omega)))) | (with_reducible refine below_drewN ?_ _) | (with_reducible refine Below.drew ?_) | ((with_reducible refine Below.trans ?_ (Below.mono hb2 ?_)); (rotate_left; focus (first | omega | (simp; done) | (simp; omega)))) | ((with_reducible refine Below.trans ?_ (Below.mono HBEL.out ?_)); (rotate_left; focus (first | omega | (simp; done) | (simp; omega))))))⟩, by simp [intOf]; omega⟩
            · exact (Below.block (show Below (w.heap.size + 1) wr _ from (by repeat (first | (with_reducible exact Below.refl _ _) | ((with_reducible refine below_setAt ?_ ?_ _); (rotate_left; focus (first | omega | (simp; done) | (simp; omega)))) | ((with_reducible refine Below.alloc ?_ ?_ _); (rotate_left; focus (first | omega | (simp; done) | (simp; omega)))) | (with_reducible refine below_drewN ?_ _) | (with_reducible refine Below.drew ?_) | ((with_reducible refine Below.trans ?_ (Below.mono hb2 ?_)); (rotate_left; focus (first | omega | (simp; done) | (simp; omega))))))) _ (by omega)).trans HBOX.out
            · exact (heap_alloc_old _ _ a2').trans HY2.out
          · have hq := fun w => eq_clock p f c1 c2 w
            simp only [hcc, decide_false] at hq
            have h1 : r = false := by
              rw [← HR.out, ← hck]
              have : ¬ ((p, f) = (c1, c2)) := by intro e; injection e with e1 e2; exact hcc ⟨e1, e2⟩
              rw [decide_eq_false this]; rfl
            subst h1
            have HCC := Lib.hid hcc
            clear hz hnz hckl hcka h0 hck hcc
            go_wp2_with (go_at_call 45; (with_reducible refine (HC.out _ _ _ _ (HE.out.below (by repeat (first | (with_reducible exact Below.refl _ _) | ((with_reducible refine below_setAt ?_ ?_ _); (rotate_left; focus (first | omega | (simp; done) | (simp; omega)))) | ((with_reducible refine Below.alloc ?_ ?_ _); (rotate_left; focus (first | omega | (simp; done) | (simp; omega)))) | (with_reducible refine below_drewN ?_ _) | (with_reducible refine Below.drew ?_)))) (HM.out.below (by repeat (first | (with_reducible exact Below.refl _ _) | ((with_reducible refine below_setAt ?_ ?_ _); (rotate_left; focus (first | omega | (simp; done) | (simp; omega)))) | ((with_reducible refine Below.alloc ?_ ?_ _); (rotate_left; focus (first | omega | (simp; done) | (simp; omega)))) | (with_reducible refine below_drewN ?_ _) | (with_reducible refine Below.drew ?_) | ((with_reducible refine Below.trans ?_ (Below.mono HBEL.out ?_)); (rotate_left; focus (first | omega | (simp; done) | (simp; omega)))))))).mono ?_); rintro x w2 ⟨rfl, hb2⟩; obtain ⟨hc2, hf2⟩ := bcell hb2; have a2 : w.heap.size < w2.heap.size := sz_of hb2 (by first | omega | (simp; done) | (simp; omega)); have a2' : w.heap.size + 1 < w2.heap.size := sz_of hb2 (by first | omega | (simp; done) | (simp; omega)); have a3 : wr.heap.size < w2.heap.size := sz_of hb2 (by first | omega | (simp; done) | (simp; omega)); have hbx2 := (hb2.block w.heap.size (by first | omega | (simp; done) | (simp; omega))).trans ((heap_alloc_old _ _ hbl).trans HBOX.out); obtain ⟨⟨y0, y1, y2, y3, y4, y5⟩, yf⟩ := cells6' hbx2; have hby2 := (hb2.block (w.heap.size + 1) (by first | omega | (simp; done) | (simp; omega))).trans ((heap_alloc_old _ _ hbl2).trans HFIR.out); obtain ⟨⟨z0, z1⟩, zf⟩ := cells2c hby2; have HY2 := Lib.hid hby2; clear hbx2 hby2)
            all_goals first | (exact (HCC.out ⟨rfl, rfl⟩).elim) | (exact (HCC.out ⟨by assumption, by assumption⟩).elim) | (exact (HCC.out ⟨by first | rfl | (symm; assumption), by first | rfl | (symm; assumption)⟩).elim) | (go_ret2; exact ⟨⟨a, 5, by decide, rfl⟩, (by repeat (first | (with_reducible exact Below.refl _ _) | ((with_reducible refine below_setAt ?_ ?_ _); (rotate_left; focus (first | omega | (simp; done) | (simp; omega)))) | ((with_reducible refine Below.alloc ?_ ?_ _); (rotate_left; focus (first | omega | (simp; done) | (simp; omega)))) | (with_reducible refine below_drewN ?_ _) | (with_reducible refine Below.drew ?_) | ((with_reducible refine Below.trans ?_ (Below.mono hb2 ?_)); (rotate_left; focus (first | omega | (simp; done) | (simp; omega)))) | ((with_reducible refine Below.trans ?_ (Below.mono HBEL.out ?_)); (rotate_left; focus (first | omega | (simp; done) | (simp; omega))))))⟩)


/-- A field of what a call answered. -/
theorem told_field (w : World) (p f a e : Int) (kb : Bool) : (Instr.field 81 (.agg #[.int .i64 p, .int .i64 f, .bool kb, .int .i64 a, .int .i64 e]) 0).run Try.prog w = .ok (.agg #[.int .i64 p, .int .i64 f]) w := by kernel_rfl

end Go.Proofs.Ytjcmjlkihfcdcaa.syn
