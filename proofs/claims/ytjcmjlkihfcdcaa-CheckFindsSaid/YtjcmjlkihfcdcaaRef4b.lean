/-
  The reference's Body, of expressions that came in.
-/
import Derived.Test.YtjcmjlkihfcdcaaRef4a
namespace Go.Proofs.Ytjcmjlkihfcdcaa.syn
open Go.RowKit
set_option linter.unusedVariables false
set_option linter.unusedSimpArgs false

def opsL : List ByteArray := [⟨#[43]⟩, ⟨#[45]⟩, ⟨#[42]⟩, ⟨#[47]⟩, ⟨#[37]⟩, ⟨#[60]⟩, ⟨#[61, 61]⟩]
def sAsk : ByteArray := ⟨#[63]⟩
theorem ask_no {s : ByteArray} (h : s ≠ sAsk) : (s.toList == [63]) = false := by
  have := str_beq s sAsk
  rw [decide_eq_false h, Lib.toList_data sAsk] at this
  exact this
/-- What Body asks of an expression, but for its arguments. -/
def bdE (k n d : Int) (nm : ByteArray) (len : Nat) : Bool :=
  if d ≠ 0 then false
  else if k = 11 then nameOK nm && decide (len = 0) && decide (n = 0)
  else if k = 12 then decide (nm = ⟨#[]⟩) && decide (len = 0) && inB n 0 1000000000
  else if k ≠ 13 ∨ n ≠ 0 then false
  else if nm = sAsk then decide (len = 3)
  else if Lib.containsS opsL nm = true then decide (len = 2) else false
def bdR : PL → Bool
  | .nil => true
  | .cons k nm n d args _ tl => (bdR args && bdE k n d nm args.len) && bdR tl
def bodyB (e : PE) : Bool := bdR e.args && bdE e.k e.n e.d e.nm e.args.len
def BodySaid (e : PE) : Prop := ∀ (w : World) (ad : Option Addr) (cap : Nat), AE w e ad cap →
  Calls Try.prog 17 #[ev e ad cap] w fun x w' => x = .returned (.bool (bodyB e)) ∧ Below w.heap.size w w'

def BdRel (w : World) (e : PE) (ad : Option Addr) (cap : Nat) (v3 : Value) (wr : World) : Prop :=
  ∃ (i : Nat) (rest : PL), v3 = .int .i64 (i : Int) ∧ Rest wr ad e.args rest i ∧ bdR rest = bdR e.args ∧
    wr.heap[w.heap.size]? = some (.cells #[.int .i64 e.k, .string e.nm, .int .i64 e.n, .int .i64 e.d, .slice ad e.args.len cap, .int .i64 e.a] 39 (0, 0)) ∧ Below w.heap.size w wr

theorem opsAt (w : World) (j : Nat) (hj : j < 7) : (w.alloc (Obj.cells #[.string ⟨#[43]⟩, .string ⟨#[45]⟩, .string ⟨#[42]⟩, .string ⟨#[47]⟩, .string ⟨#[37]⟩, .string ⟨#[60]⟩, .string ⟨#[61, 61]⟩] 9)).cell? ⟨w.heap.size, j, none⟩ = some (.string (opsL.getD j ByteArray.empty)) := by
  have hb' := heap_new w (Obj.cells #[.string ⟨#[43]⟩, .string ⟨#[45]⟩, .string ⟨#[42]⟩, .string ⟨#[47]⟩, .string ⟨#[37]⟩, .string ⟨#[60]⟩, .string ⟨#[61, 61]⟩] 9)
  have hcw := fun o => cell_of_row _ w.heap.size o _ _ _ hb'
  rw [hcw]
  match j, hj with
  | 0, _ => rfl
  | 1, _ => rfl
  | 2, _ => rfl
  | 3, _ => rfl
  | 4, _ => rfl
  | 5, _ => rfl
  | 6, _ => rfl
  | j + 7, h => omega
theorem ops_yes {s : ByteArray} {k : Nat} (hk : k < 7) (h : opsL.getD k ByteArray.empty = s) : Lib.containsS opsL s = true := by
  refine (Lib.containsS_iff _ _).2 ?_
  rw [← h, List.getD_eq_getElem?_getD, List.getElem?_eq_getElem (show k < opsL.length from hk), Option.getD_some]
  exact List.getElem_mem _
theorem ops_no {s : ByteArray} (h : ∀ j, j < 7 → opsL.getD j ByteArray.empty ≠ s) : Lib.containsS opsL s = false := by
  cases hb : Lib.containsS opsL s with
  | false => rfl
  | true =>
    obtain ⟨j, hj, he⟩ := List.getElem_of_mem ((Lib.containsS_iff _ _).1 hb)
    refine (h j hj ?_).elim
    rw [List.getD_eq_getElem?_getD, List.getElem?_eq_getElem hj, Option.getD_some]; exact he

/-- What holds at the head of the loop over the operators. -/
def OpRel (W : World) (nm : ByteArray) (v5 : Value) (wr : World) : Prop :=
  ∃ j : Nat, j ≤ 7 ∧ v5 = .int .i64 (j : Int) ∧ (∀ i, i < j → opsL.getD i ByteArray.empty ≠ nm) ∧ Below W.heap.size W wr


set_option maxRecDepth 100000 in
set_option maxHeartbeats 4000000 in
theorem body_step (e : PE) (ih : ∀ e' : PE, e'.args.sz < e.args.sz → BodySaid e') : BodySaid e := by
  intro w ad cap hae
  obtain ⟨k, nm, n, d, args, a⟩ := e
  have hlen := hae.len
  have hnm := hae.nums.2.2.2.2
  simp only at hlen hnm
  have HAE := Lib.hid hae
  have HIH := Lib.hid ih
  clear hae ih
  unfold ev
  simp only
  obtain ⟨fin, hfin⟩ : ∃ fin, bodyB ⟨k, nm, n, d, args, a⟩ = fin := ⟨_, rfl⟩
  rw [hfin]
  have HF := Lib.hid (show (bdR args && bdE k n d nm args.len) = fin from hfin)
  clear hfin
  go_enter Try.func17, Try.ntmps17
  go_wp2
  go_loopw [3] (fun v3 wr => Hid (BdRel w ⟨k, nm, n, d, args, a⟩ ad cap v3 wr)) (fun i _ => args.len - (intOf i).toNat)
  case atStart => exact ⟨0, args, rfl, (Rest.start HAE.out.args).below (by repeat (first | (with_reducible exact Below.refl _ _) | ((with_reducible refine below_setAt ?_ ?_ _); (rotate_left; focus (first | omega | (simp; done) | (simp; omega)))) | ((with_reducible refine Below.alloc ?_ ?_ _); (rotate_left; focus (first | omega | (simp; done) | (simp; omega)))) | (with_reducible refine below_drewN ?_ _) | (with_reducible refine Below.drew ?_))), rfl, heap_new w _, (by repeat (first | (with_reducible exact Below.refl _ _) | ((with_reducible refine below_setAt ?_ ?_ _); (rotate_left; focus (first | omega | (simp; done) | (simp; omega)))) | ((with_reducible refine Below.alloc ?_ ?_ _); (rotate_left; focus (first | omega | (simp; done) | (simp; omega)))) | (with_reducible refine below_drewN ?_ _) | (with_reducible refine Below.drew ?_)))⟩
  case round =>
    obtain ⟨i, rest, rfl, hrest, hsz, hbox, hbel⟩ := hrel.out
    clear hrel
    obtain ⟨⟨x0, x1, x2, x3, x4, x5⟩, xf⟩ := cells6' hbox
    have HBOX := Lib.hid hbox
    have HBEL := Lib.hid hbel
    have hil := hrest.1
    simp only at hil
    have hbl := lt_of_block hbox
    have hsB := hbel.size
    have HR := Lib.hid hrest
    clear hbox hbel hrest
    cases rest with
    | cons k1 nm1 n1 d1 args1 a1 tl =>
      have HSZ := Lib.hid hsz
      clear hsz
      have hil' : (i : Int) < (args.len : Int) := by simp only [PL.len] at hil; omega
      obtain ⟨b, o, rfl, hb, h0, h1, h2, h3, h5, hn, ⟨ad1, cap1, h4, hcap1, hcm1, hd1⟩, ht⟩ := HR.out.2.2.resolve_left (by intro h; cases h)
      have hsub := HR.out.2.1
      simp only [PL.sz] at hsub
      have HC := Lib.hid (HIH.out ⟨k1, nm1, n1, d1, args1, a1⟩ (by show args1.sz < args.sz; omega) wr ad1 cap1 ⟨hn, ⟨hcap1, hcm1⟩, hd1⟩)
      unfold ev at HC
      simp only at HC
      cases hbb : bodyB ⟨k1, nm1, n1, d1, args1, a1⟩ with
      | true =>
        rw [hbb] at HC
        have HS2 := Lib.hid (show bdR tl = bdR args from by
          have h := HSZ.out
          rw [bdR, show (bdR args1 && bdE k1 n1 d1 nm1 args1.len) = true from hbb, Bool.true_and] at h
          exact h)
        clear hbb ht hn hd1
        go_wp2_with (go_at_call 17; refine HC.out.mono ?_; rintro e w2 ⟨rfl, hb2⟩)
        go_roundw
        case rel => exact ⟨i + 1, tl, by go_num, HR.out.tail.below hb2, HS2.out, (hb2.block _ hbl).trans HBOX.out, (by repeat (first | (with_reducible exact Below.refl _ _) | ((with_reducible refine below_setAt ?_ ?_ _); (rotate_left; focus (first | omega | (simp; done) | (simp; omega)))) | ((with_reducible refine Below.alloc ?_ ?_ _); (rotate_left; focus (first | omega | (simp; done) | (simp; omega)))) | (with_reducible refine below_drewN ?_ _) | (with_reducible refine Below.drew ?_) | ((with_reducible refine Below.trans ?_ (Below.mono hb2 ?_)); (rotate_left; focus (first | omega | (simp; done) | (simp; omega)))) | ((with_reducible refine Below.trans ?_ (Below.mono HBEL.out ?_)); (rotate_left; focus (first | omega | (simp; done) | (simp; omega))))))⟩
        case measure => simp [intOf]; omega
      | false =>
        rw [hbb] at HC
        have HS2 := Lib.hid (show bdR args = false from by
          have h := HSZ.out
          rw [bdR, show (bdR args1 && bdE k1 n1 d1 nm1 args1.len) = false from hbb, Bool.false_and] at h
          exact h.symm)
        clear hbb ht hn hd1
        go_wp2_with (go_at_call 17; refine HC.out.mono ?_; rintro e w2 ⟨rfl, hb2⟩)
        go_ret
        exact ⟨ret_bool (by rw [← HF.out, HS2.out]; rfl), (by repeat (first | (with_reducible exact Below.refl _ _) | ((with_reducible refine below_setAt ?_ ?_ _); (rotate_left; focus (first | omega | (simp; done) | (simp; omega)))) | ((with_reducible refine Below.alloc ?_ ?_ _); (rotate_left; focus (first | omega | (simp; done) | (simp; omega)))) | (with_reducible refine below_drewN ?_ _) | (with_reducible refine Below.drew ?_) | ((with_reducible refine Below.trans ?_ (Below.mono hb2 ?_)); (rotate_left; focus (first | omega | (simp; done) | (simp; omega)))) | ((with_reducible refine Below.trans ?_ (Below.mono HBEL.out ?_)); (rotate_left; focus (first | omega | (simp; done) | (simp; omega))))))⟩
    | nil =>
      have hil' : (i : Int) = (args.len : Int) := by simp only [PL.len] at hil; omega
      have HSZ := Lib.hid (show true = bdR args from hsz)
      have HRI := Lib.hid (fun w => right_any nm w hnm)
      have HNU := Lib.hid (fun w => number_ref n 0 1000000000 w)
      clear hsz hil
      by_cases hd : d = 0
      · subst hd
        by_cases hk1 : k = 11
        · subst hk1
          cases hno : nameOK nm with
          | false =>
            rw [hno] at HRI
            go_wp2_with (first | (go_at_call 13; refine (HRI.out _).mono ?_; rintro e w2 ⟨rfl, hb2⟩; obtain ⟨hc2, hf2⟩ := bcell hb2) | (go_at_call 14; refine (HNU.out _).mono ?_; rintro e w2 ⟨rfl, rfl⟩))
            all_goals (go_ret; exact ⟨ret_bool (by rw [← HF.out, ← HSZ.out]; simp [bdE, hno]), (by repeat (first | (with_reducible exact Below.refl _ _) | ((with_reducible refine below_setAt ?_ ?_ _); (rotate_left; focus (first | omega | (simp; done) | (simp; omega)))) | ((with_reducible refine Below.alloc ?_ ?_ _); (rotate_left; focus (first | omega | (simp; done) | (simp; omega)))) | (with_reducible refine below_drewN ?_ _) | (with_reducible refine Below.drew ?_) | ((with_reducible refine Below.trans ?_ (Below.mono hb2 ?_)); (rotate_left; focus (first | omega | (simp; done) | (simp; omega)))) | ((with_reducible refine Below.trans ?_ (Below.mono HBEL.out ?_)); (rotate_left; focus (first | omega | (simp; done) | (simp; omega))))))⟩)
          | true =>
            rw [hno] at HRI
            by_cases hl0 : args.len = 0
            · have hl1 : ((args.len : Int) == 0) = true := by rw [beq_iff_eq]; omega
              have HL := Lib.hid hl0
              clear hl0
              by_cases hn0 : n = 0
              · subst hn0
                go_wp2_with (first | (go_at_call 13; refine (HRI.out _).mono ?_; rintro e w2 ⟨rfl, hb2⟩; obtain ⟨hc2, hf2⟩ := bcell hb2) | (go_at_call 14; refine (HNU.out _).mono ?_; rintro e w2 ⟨rfl, rfl⟩))
                all_goals (go_ret; exact ⟨ret_bool (by rw [← HF.out, ← HSZ.out]; simp [bdE, hno, HL.out]), (by repeat (first | (with_reducible exact Below.refl _ _) | ((with_reducible refine below_setAt ?_ ?_ _); (rotate_left; focus (first | omega | (simp; done) | (simp; omega)))) | ((with_reducible refine Below.alloc ?_ ?_ _); (rotate_left; focus (first | omega | (simp; done) | (simp; omega)))) | (with_reducible refine below_drewN ?_ _) | (with_reducible refine Below.drew ?_) | ((with_reducible refine Below.trans ?_ (Below.mono hb2 ?_)); (rotate_left; focus (first | omega | (simp; done) | (simp; omega)))) | ((with_reducible refine Below.trans ?_ (Below.mono HBEL.out ?_)); (rotate_left; focus (first | omega | (simp; done) | (simp; omega))))))⟩)
              · have hn1 : (n == 0) = false := beq_eq_false_iff_ne.2 hn0
                go_wp2_with (first | (go_at_call 13; refine (HRI.out _).mono ?_; rintro e w2 ⟨rfl, hb2⟩; obtain ⟨hc2, hf2⟩ := bcell hb2) | (go_at_call 14; refine (HNU.out _).mono ?_; rintro e w2 ⟨rfl, rfl⟩))
                all_goals (go_ret; exact ⟨ret_bool (by rw [← HF.out, ← HSZ.out]; simp [bdE, hno, hn0]), (by repeat (first | (with_reducible exact Below.refl _ _) | ((with_reducible refine below_setAt ?_ ?_ _); (rotate_left; focus (first | omega | (simp; done) | (simp; omega)))) | ((with_reducible refine Below.alloc ?_ ?_ _); (rotate_left; focus (first | omega | (simp; done) | (simp; omega)))) | (with_reducible refine below_drewN ?_ _) | (with_reducible refine Below.drew ?_) | ((with_reducible refine Below.trans ?_ (Below.mono hb2 ?_)); (rotate_left; focus (first | omega | (simp; done) | (simp; omega)))) | ((with_reducible refine Below.trans ?_ (Below.mono HBEL.out ?_)); (rotate_left; focus (first | omega | (simp; done) | (simp; omega))))))⟩)
            · have hl1 : ((args.len : Int) == 0) = false := by rw [beq_eq_false_iff_ne]; omega
              have HL := Lib.hid hl0
              clear hl0
              go_wp2_with (first | (go_at_call 13; refine (HRI.out _).mono ?_; rintro e w2 ⟨rfl, hb2⟩; obtain ⟨hc2, hf2⟩ := bcell hb2) | (go_at_call 14; refine (HNU.out _).mono ?_; rintro e w2 ⟨rfl, rfl⟩))
              all_goals (go_ret; exact ⟨ret_bool (by rw [← HF.out, ← HSZ.out]; simp [bdE, hno, HL.out]), (by repeat (first | (with_reducible exact Below.refl _ _) | ((with_reducible refine below_setAt ?_ ?_ _); (rotate_left; focus (first | omega | (simp; done) | (simp; omega)))) | ((with_reducible refine Below.alloc ?_ ?_ _); (rotate_left; focus (first | omega | (simp; done) | (simp; omega)))) | (with_reducible refine below_drewN ?_ _) | (with_reducible refine Below.drew ?_) | ((with_reducible refine Below.trans ?_ (Below.mono hb2 ?_)); (rotate_left; focus (first | omega | (simp; done) | (simp; omega)))) | ((with_reducible refine Below.trans ?_ (Below.mono HBEL.out ?_)); (rotate_left; focus (first | omega | (simp; done) | (simp; omega))))))⟩)
        · have hk1' : (k == 11) = false := beq_eq_false_iff_ne.2 hk1
          by_cases hk2 : k = 12
          · subst hk2
            by_cases he : nm = ⟨#[]⟩
            · subst he
              by_cases hl0 : args.len = 0
              · have hl1 : ((args.len : Int) == 0) = true := by rw [beq_iff_eq]; omega
                have HL := Lib.hid hl0
                clear hl0
                go_wp2_with (first | (go_at_call 13; refine (HRI.out _).mono ?_; rintro e w2 ⟨rfl, hb2⟩; obtain ⟨hc2, hf2⟩ := bcell hb2) | (go_at_call 14; refine (HNU.out _).mono ?_; rintro e w2 ⟨rfl, rfl⟩))
                all_goals (go_ret; exact ⟨ret_bool (by rw [← HF.out, ← HSZ.out]; simp [bdE, HL.out]), (by repeat (first | (with_reducible exact Below.refl _ _) | ((with_reducible refine below_setAt ?_ ?_ _); (rotate_left; focus (first | omega | (simp; done) | (simp; omega)))) | ((with_reducible refine Below.alloc ?_ ?_ _); (rotate_left; focus (first | omega | (simp; done) | (simp; omega)))) | (with_reducible refine below_drewN ?_ _) | (with_reducible refine Below.drew ?_) | ((with_reducible refine Below.trans ?_ (Below.mono HBEL.out ?_)); (rotate_left; focus (first | omega | (simp; done) | (simp; omega))))))⟩)
              · have hl1 : ((args.len : Int) == 0) = false := by rw [beq_eq_false_iff_ne]; omega
                have HL := Lib.hid hl0
                clear hl0
                go_wp2_with (first | (go_at_call 13; refine (HRI.out _).mono ?_; rintro e w2 ⟨rfl, hb2⟩; obtain ⟨hc2, hf2⟩ := bcell hb2) | (go_at_call 14; refine (HNU.out _).mono ?_; rintro e w2 ⟨rfl, rfl⟩))
                all_goals (go_ret; exact ⟨ret_bool (by rw [← HF.out, ← HSZ.out]; simp [bdE, HL.out]), (by repeat (first | (with_reducible exact Below.refl _ _) | ((with_reducible refine below_setAt ?_ ?_ _); (rotate_left; focus (first | omega | (simp; done) | (simp; omega)))) | ((with_reducible refine Below.alloc ?_ ?_ _); (rotate_left; focus (first | omega | (simp; done) | (simp; omega)))) | (with_reducible refine below_drewN ?_ _) | (with_reducible refine Below.drew ?_) | ((with_reducible refine Below.trans ?_ (Below.mono HBEL.out ?_)); (rotate_left; focus (first | omega | (simp; done) | (simp; omega))))))⟩)
            · have he0 : nm.data.toList ≠ [] := by
                intro h; apply he
                obtain ⟨⟨l⟩⟩ := nm
                simp at h; subst h; rfl
              have he1 : nm.toList.isEmpty = false := by rw [Lib.toList_data]; simpa using he0
              have he2 : ¬ nm.toList = [] := by rw [Lib.toList_data]; exact he0
              have HE := Lib.hid he
              clear he he0
              go_wp2_with (first | (go_at_call 13; refine (HRI.out _).mono ?_; rintro e w2 ⟨rfl, hb2⟩; obtain ⟨hc2, hf2⟩ := bcell hb2) | (go_at_call 14; refine (HNU.out _).mono ?_; rintro e w2 ⟨rfl, rfl⟩))
              all_goals (go_ret; exact ⟨ret_bool (by rw [← HF.out, ← HSZ.out]; simp [bdE, HE.out]), (by repeat (first | (with_reducible exact Below.refl _ _) | ((with_reducible refine below_setAt ?_ ?_ _); (rotate_left; focus (first | omega | (simp; done) | (simp; omega)))) | ((with_reducible refine Below.alloc ?_ ?_ _); (rotate_left; focus (first | omega | (simp; done) | (simp; omega)))) | (with_reducible refine below_drewN ?_ _) | (with_reducible refine Below.drew ?_) | ((with_reducible refine Below.trans ?_ (Below.mono HBEL.out ?_)); (rotate_left; focus (first | omega | (simp; done) | (simp; omega))))))⟩)
          · have hk2' : (k == 12) = false := beq_eq_false_iff_ne.2 hk2
            by_cases hk3 : k = 13
            · subst hk3
              clear hk1 hk2 hk1' hk2'
              by_cases hn0 : n = 0
              · subst hn0
                by_cases hq : nm = sAsk
                · subst hq
                  have hq' : (sAsk.toList == [63]) = true := by rw [Lib.toList_data]; rfl
                  by_cases hl3 : args.len = 3
                  · have hl1 : ((args.len : Int) == 3) = true := by rw [beq_iff_eq]; omega
                    have HL := Lib.hid hl3
                    clear hl3
                    go_wp2_with (first | (go_at_call 13; refine (HRI.out _).mono ?_; rintro e w2 ⟨rfl, hb2⟩; obtain ⟨hc2, hf2⟩ := bcell hb2) | (go_at_call 14; refine (HNU.out _).mono ?_; rintro e w2 ⟨rfl, rfl⟩))
                    all_goals (go_ret; exact ⟨ret_bool (by rw [← HF.out, ← HSZ.out]; simp [bdE, HL.out]), (by repeat (first | (with_reducible exact Below.refl _ _) | ((with_reducible refine below_setAt ?_ ?_ _); (rotate_left; focus (first | omega | (simp; done) | (simp; omega)))) | ((with_reducible refine Below.alloc ?_ ?_ _); (rotate_left; focus (first | omega | (simp; done) | (simp; omega)))) | (with_reducible refine below_drewN ?_ _) | (with_reducible refine Below.drew ?_) | ((with_reducible refine Below.trans ?_ (Below.mono HBEL.out ?_)); (rotate_left; focus (first | omega | (simp; done) | (simp; omega))))))⟩)
                  · have hl1 : ((args.len : Int) == 3) = false := by rw [beq_eq_false_iff_ne]; omega
                    have HL := Lib.hid hl3
                    clear hl3
                    go_wp2_with (first | (go_at_call 13; refine (HRI.out _).mono ?_; rintro e w2 ⟨rfl, hb2⟩; obtain ⟨hc2, hf2⟩ := bcell hb2) | (go_at_call 14; refine (HNU.out _).mono ?_; rintro e w2 ⟨rfl, rfl⟩))
                    all_goals (go_ret; exact ⟨ret_bool (by rw [← HF.out, ← HSZ.out]; simp [bdE, HL.out]), (by repeat (first | (with_reducible exact Below.refl _ _) | ((with_reducible refine below_setAt ?_ ?_ _); (rotate_left; focus (first | omega | (simp; done) | (simp; omega)))) | ((with_reducible refine Below.alloc ?_ ?_ _); (rotate_left; focus (first | omega | (simp; done) | (simp; omega)))) | (with_reducible refine below_drewN ?_ _) | (with_reducible refine Below.drew ?_) | ((with_reducible refine Below.trans ?_ (Below.mono HBEL.out ?_)); (rotate_left; focus (first | omega | (simp; done) | (simp; omega))))))⟩)
                · have hq' : (nm.toList == [63]) = false := ask_no hq
                  have HQ := Lib.hid hq
                  clear hq
                  obtain ⟨wo, rfl⟩ : ∃ wo : World, wo = wr := ⟨_, rfl⟩
                  go_wp2
                  go_loopw [5] (fun v5 wr2 => Hid (OpRel (wo.alloc (Obj.cells #[.string ⟨#[43]⟩, .string ⟨#[45]⟩, .string ⟨#[42]⟩, .string ⟨#[47]⟩, .string ⟨#[37]⟩, .string ⟨#[60]⟩, .string ⟨#[61, 61]⟩] 9)) nm v5 wr2)) (fun i _ => 7 - (intOf i).toNat)
                  case atStart => exact ⟨0, by omega, rfl, fun j hj => by omega, (by repeat (first | (with_reducible exact Below.refl _ _) | ((with_reducible refine below_setAt ?_ ?_ _); (rotate_left; focus (first | omega | (simp; done) | (simp; omega)))) | ((with_reducible refine Below.alloc ?_ ?_ _); (rotate_left; focus (first | omega | (simp; done) | (simp; omega)))) | (with_reducible refine below_drewN ?_ _) | (with_reducible refine Below.drew ?_)))⟩
                  case round =>
                    obtain ⟨j, hj, rfl, hno, hb3⟩ := hrel.out
                    clear hrel
                    have HNO := Lib.hid hno
                    have HB3 := Lib.hid hb3
                    have l3 : wo.heap.size + 1 ≤ wr.heap.size := by have := hb3.size; simpa using this
                    clear hno
                    by_cases hj7 : j < 7
                    · have hop := opsAt wo j hj7
                      obtain ⟨x, hx⟩ : ∃ x, opsL.getD j ByteArray.empty = x := ⟨_, rfl⟩
                      rw [hx] at hop
                      have c0 := (hb3.cell (p := ⟨wo.heap.size, j, none⟩) (by simp)).trans hop
                      have c1 := (hb3.cell (p := ⟨w.heap.size, 1, none⟩) (by simp; omega)).trans ((World.cell?_of_block (w := wo) (a := ⟨w.heap.size, 1, none⟩) (heap_alloc_old _ _ hbl)).trans x1)
                      have c4 := (hb3.cell (p := ⟨w.heap.size, 4, none⟩) (by simp; omega)).trans ((World.cell?_of_block (w := wo) (a := ⟨w.heap.size, 4, none⟩) (heap_alloc_old _ _ hbl)).trans x4)
                      have hb := str_beq x nm
                      have HX := Lib.hid hx
                      clear hx hop hb3
                      by_cases he : x = nm
                      · rw [decide_eq_true he] at hb
                        have HE := Lib.hid he
                        clear he
                        go_wp2
                        go_region
                        go_wp2
                        go_ret
                        have hbel := HBEL.out
                        have hb3 := HB3.out
                        have e1 : ((args.len : Int) == 2) = decide (args.len = 2) := by rw [Bool.eq_iff_iff]; simp; omega
                        exact ⟨ret_bool (by rw [← HF.out, ← HSZ.out]; refine Eq.trans e1 ?_; simp [bdE, HQ.out, ops_yes hj7 (HX.out.trans HE.out)]), (by repeat (first | (with_reducible exact Below.refl _ _) | ((with_reducible refine below_setAt ?_ ?_ _); (rotate_left; focus (first | omega | (simp; done) | (simp; omega)))) | ((with_reducible refine Below.alloc ?_ ?_ _); (rotate_left; focus (first | omega | (simp; done) | (simp; omega)))) | (with_reducible refine below_drewN ?_ _) | (with_reducible refine Below.drew ?_) | ((with_reducible refine Below.trans ?_ (Below.mono hb3 ?_)); (rotate_left; focus (first | omega | (simp; done) | (simp; omega)))) | ((with_reducible refine Below.trans ?_ (Below.mono hbel ?_)); (rotate_left; focus (first | omega | (simp; done) | (simp; omega))))))⟩
                      · rw [decide_eq_false he] at hb
                        have HE := Lib.hid he
                        clear he
                        go_wp2
                        go_region
                        go_wp2
                        refine ⟨?_, by simp [intOf]; omega⟩
                        exact ⟨j + 1, by omega, by go_num, fun i hi => by by_cases h : i < j; (· exact HNO.out i h); (· obtain rfl : i = j := (by omega); rw [HX.out]; exact HE.out), (by repeat (first | (with_reducible exact Below.refl _ _) | ((with_reducible refine below_setAt ?_ ?_ _); (rotate_left; focus (first | omega | (simp; done) | (simp; omega)))) | ((with_reducible refine Below.alloc ?_ ?_ _); (rotate_left; focus (first | omega | (simp; done) | (simp; omega)))) | (with_reducible refine below_drewN ?_ _) | (with_reducible refine Below.drew ?_) | ((with_reducible refine Below.trans ?_ (Below.mono HB3.out ?_)); (rotate_left; focus (first | omega | (simp; done) | (simp; omega))))))⟩
                    · clear hb3
                      go_wp2
                      go_ret
                      have hbel := HBEL.out
                      have hb3 := HB3.out
                      exact ⟨ret_bool (by rw [← HF.out, ← HSZ.out]; simp [bdE, HQ.out, ops_no (fun j' h => HNO.out j' (by omega))]), (by repeat (first | (with_reducible exact Below.refl _ _) | ((with_reducible refine below_setAt ?_ ?_ _); (rotate_left; focus (first | omega | (simp; done) | (simp; omega)))) | ((with_reducible refine Below.alloc ?_ ?_ _); (rotate_left; focus (first | omega | (simp; done) | (simp; omega)))) | (with_reducible refine below_drewN ?_ _) | (with_reducible refine Below.drew ?_) | ((with_reducible refine Below.trans ?_ (Below.mono hb3 ?_)); (rotate_left; focus (first | omega | (simp; done) | (simp; omega)))) | ((with_reducible refine Below.trans ?_ (Below.mono hbel ?_)); (rotate_left; focus (first | omega | (simp; done) | (simp; omega))))))⟩
              · have hn1 : (n == 0) = false := beq_eq_false_iff_ne.2 hn0
                go_wp2_with (first | (go_at_call 13; refine (HRI.out _).mono ?_; rintro e w2 ⟨rfl, hb2⟩; obtain ⟨hc2, hf2⟩ := bcell hb2) | (go_at_call 14; refine (HNU.out _).mono ?_; rintro e w2 ⟨rfl, rfl⟩))
                all_goals (go_ret; exact ⟨ret_bool (by rw [← HF.out, ← HSZ.out]; simp [bdE, hn0]), (by repeat (first | (with_reducible exact Below.refl _ _) | ((with_reducible refine below_setAt ?_ ?_ _); (rotate_left; focus (first | omega | (simp; done) | (simp; omega)))) | ((with_reducible refine Below.alloc ?_ ?_ _); (rotate_left; focus (first | omega | (simp; done) | (simp; omega)))) | (with_reducible refine below_drewN ?_ _) | (with_reducible refine Below.drew ?_) | ((with_reducible refine Below.trans ?_ (Below.mono HBEL.out ?_)); (rotate_left; focus (first | omega | (simp; done) | (simp; omega))))))⟩)
            · have hk3' : (k == 13) = false := beq_eq_false_iff_ne.2 hk3
              go_wp2_with (first | (go_at_call 13; refine (HRI.out _).mono ?_; rintro e w2 ⟨rfl, hb2⟩; obtain ⟨hc2, hf2⟩ := bcell hb2) | (go_at_call 14; refine (HNU.out _).mono ?_; rintro e w2 ⟨rfl, rfl⟩))
              all_goals (go_ret; exact ⟨ret_bool (by rw [← HF.out, ← HSZ.out]; simp [bdE, hk1, hk2, hk3]), (by repeat (first | (with_reducible exact Below.refl _ _) | ((with_reducible refine below_setAt ?_ ?_ _); (rotate_left; focus (first | omega | (simp; done) | (simp; omega)))) | ((with_reducible refine Below.alloc ?_ ?_ _); (rotate_left; focus (first | omega | (simp; done) | (simp; omega)))) | (with_reducible refine below_drewN ?_ _) | (with_reducible refine Below.drew ?_) | ((with_reducible refine Below.trans ?_ (Below.mono HBEL.out ?_)); (rotate_left; focus (first | omega | (simp; done) | (simp; omega))))))⟩)
      · have hd1 : (d == 0) = false := beq_eq_false_iff_ne.2 hd
        go_wp2_with (first | (go_at_call 13; refine (HRI.out _).mono ?_; rintro e w2 ⟨rfl, hb2⟩; obtain ⟨hc2, hf2⟩ := bcell hb2) | (go_at_call 14; refine (HNU.out _).mono ?_; rintro e w2 ⟨rfl, rfl⟩))
        all_goals (go_ret; exact ⟨ret_bool (by rw [← HF.out, ← HSZ.out]; simp [bdE, hd]), (by repeat (first | (with_reducible exact Below.refl _ _) | ((with_reducible refine below_setAt ?_ ?_ _); (rotate_left; focus (first | omega | (simp; done) | (simp; omega)))) | ((with_reducible refine Below.alloc ?_ ?_ _); (rotate_left; focus (first | omega | (simp; done) | (simp; omega)))) | (with_reducible refine below_drewN ?_ _) | (with_reducible refine Below.drew ?_) | ((with_reducible refine Below.trans ?_ (Below.mono HBEL.out ?_)); (rotate_left; focus (first | omega | (simp; done) | (simp; omega))))))⟩)

theorem body_ref (e : PE) : BodySaid e := by
  suffices h : ∀ (N : Nat) (e : PE), e.args.sz < N → BodySaid e from h _ e (Nat.lt_succ_self _)
  intro N
  induction N with
  | zero => intro e h; omega
  | succ N ih => intro e h; exact body_step e (fun e' h' => ih e' (by omega))

end Go.Proofs.Ytjcmjlkihfcdcaa.syn
