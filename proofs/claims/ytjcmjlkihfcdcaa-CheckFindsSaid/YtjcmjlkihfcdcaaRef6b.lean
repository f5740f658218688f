/-
  The reference's look at names in bodies and expressions: param, body, expr.
-/
import Derived.Test.YtjcmjlkihfcdcaaRef6a
namespace Go.Proofs.Ytjcmjlkihfcdcaa.syn
open Go.RowKit
set_option linter.unusedVariables false
set_option linter.unusedSimpArgs false

def SomeBool (x : Ending) : Prop := ∃ b : Bool, x = .returned (.bool b)
def nodeV (nm nm1 : ByteArray) (ps : List ByteArray) (pa : Option Addr) (pc : Nat) (bud k1 n1 d1 a1 fa : Int) (ad : Option Addr) (len cap : Nat) : Value :=
  .agg #[.string nm, .slice pa ps.length pc, .int .i64 bud, .int .i64 k1, .string nm1, .int .i64 n1, .int .i64 d1, .slice ad len cap, .int .i64 a1, .int .i64 fa]
theorem cells10' {w : World} {b : Nat} {v0 v1 v2 v3 v4 v5 v6 v7 v8 v9 : Value} {t : TypeId} (h : w.heap[b]? = some (.cells #[v0, v1, v2, v3, v4, v5, v6, v7, v8, v9] t (0, 0))) :
    (w.cell? ⟨b, 0, none⟩ = some v0 ∧ w.cell? ⟨b, 1, none⟩ = some v1 ∧ w.cell? ⟨b, 2, none⟩ = some v2 ∧ w.cell? ⟨b, 3, none⟩ = some v3 ∧ w.cell? ⟨b, 4, none⟩ = some v4 ∧ w.cell? ⟨b, 5, none⟩ = some v5 ∧ w.cell? ⟨b, 6, none⟩ = some v6 ∧ w.cell? ⟨b, 7, none⟩ = some v7 ∧ w.cell? ⟨b, 8, none⟩ = some v8 ∧ w.cell? ⟨b, 9, none⟩ = some v9) ∧ ∀ o, w.frozen? ⟨b, o, none⟩ = false := by
  refine ⟨⟨?_, ?_, ?_, ?_, ?_, ?_, ?_, ?_, ?_, ?_⟩, ?_⟩
  all_goals first | (intro o; simp [World.frozen?, h]) | simp [World.cell?, h]
def PmRel (w : World) (v0 v1 v2 v3 v4 v5 v6 v7 v8 v9 : Value) (len : Nat) (v : Value) (wr : World) : Prop :=
  ∃ i : Nat, v = .int .i64 (i : Int) ∧ i ≤ len ∧ wr.heap[w.heap.size]? = some (.cells #[v0, v1, v2, v3, v4, v5, v6, v7, v8, v9] 50 (0, 0)) ∧ Below w.heap.size w wr

set_option maxRecDepth 100000 in
set_option maxHeartbeats 2000000 in
theorem param_any {w : World} (nm nm1 q : ByteArray) (ps : List ByteArray) (pa : Option Addr) (pc : Nat) (bud k1 n1 d1 a1 fa : Int) (ad : Option Addr) (len cap : Nat) (hps : Row StrC 1 w ps pa) (hl : ps.length ≤ 1000) :
    Calls Try.prog 43 #[nodeV nm nm1 ps pa pc bud k1 n1 d1 a1 fa ad len cap, .string q] w fun x w' => SomeBool x ∧ Below w.heap.size w w' := by
  have HPS := Lib.hid hps
  clear hps
  unfold nodeV
  go_enter Try.func43, Try.ntmps43
  go_wp2
  go_loopw [5] (fun v wr => Hid (PmRel w (.string nm) (.slice pa ps.length pc) (.int .i64 bud) (.int .i64 k1) (.string nm1) (.int .i64 n1) (.int .i64 d1) (.slice ad len cap) (.int .i64 a1) (.int .i64 fa) ps.length v wr)) (fun i _ => ps.length - (intOf i).toNat)
  case atStart => exact ⟨0, rfl, Nat.zero_le _, heap_new w _, (by repeat (first | (with_reducible exact Below.refl _ _) | ((with_reducible refine below_setAt ?_ ?_ _); (rotate_left; focus (first | omega | (simp; done) | (simp; omega)))) | ((with_reducible refine Below.alloc ?_ ?_ _); (rotate_left; focus (first | omega | (simp; done) | (simp; omega)))) | (with_reducible refine below_drewN ?_ _) | (with_reducible refine Below.drew ?_)))⟩
  case round =>
    obtain ⟨i, rfl, hi, hnb, hbel⟩ := hrel.out
    clear hrel
    obtain ⟨⟨x0, x1, x2, x3, x4, x5, x6, x7, x8, x9⟩, xf⟩ := cells10' hnb
    have HNB := Lib.hid hnb
    have HBEL := Lib.hid hbel
    by_cases hlt : i < ps.length
    · have hps' := HPS.out.below strSta hbel
      obtain ⟨pb, po, hpa, hpb, hpc0, hpsz⟩ := hps'.at hlt
      rw [hpa] at x1
      rw [Nat.mul_one] at hpc0
      generalize ps[i] = s at hpc0 hpsz
      have hie : (i : Int) < (ps.length : Int) := by omega
      have hq := str_beq s q
      clear hbel hnb hps' hpsz
      by_cases he : s = q
      · rw [decide_eq_true he] at hq
        clear he
        go_wp2
        go_ret
        exact ⟨⟨_, rfl⟩, HBEL.out⟩
      · rw [decide_eq_false he] at hq
        clear he
        go_wp2
        exact ⟨⟨i + 1, by go_num, by omega, HNB.out, HBEL.out⟩, by simp [intOf]; omega⟩
    · have hie : (i : Int) = (ps.length : Int) := by omega
      clear hbel hnb
      go_wp2
      go_ret
      exact ⟨⟨_, rfl⟩, HBEL.out⟩

def BodySomeSaid (e : PE) : Prop := ∀ (w : World) (nm nm1 : ByteArray) (ps : List ByteArray) (pa : Option Addr) (pc : Nat) (bud k1 n1 d1 a1 fa : Int) (ad' : Option Addr) (len cap' : Nat) (ad : Option Addr) (cap : Nat), Row StrC 1 w ps pa → ps.length ≤ 1000 → AE w e ad cap →
  Calls Try.prog 25 #[nodeV nm nm1 ps pa pc bud k1 n1 d1 a1 fa ad' len cap', .agg #[.int .i64 e.k, .string e.nm, .int .i64 e.n, .int .i64 e.d, .slice ad e.args.len cap, .int .i64 e.a]] w fun x w' => SomeBool x ∧ Below w.heap.size w w'
def BsRel (w : World) (e : PE) (ad : Option Addr) (cap : Nat) (v0 v1 v2 v3 v4 v5 v6 v7 v8 v9 : Value) (v : Value) (wr : World) : Prop :=
  ∃ (i : Nat) (rest : PL), v = .int .i64 (i : Int) ∧ RestP wr ad e.args rest i ∧ wr.heap[w.heap.size]? = some (.cells #[v0, v1, v2, v3, v4, v5, v6, v7, v8, v9] 50 (0, 0)) ∧
    wr.heap[w.heap.size + 1]? = some (.cells #[.int .i64 e.k, .string e.nm, .int .i64 e.n, .int .i64 e.d, .slice ad e.args.len cap, .int .i64 e.a] 39 (0, 0)) ∧ Below w.heap.size w wr

set_option maxRecDepth 100000 in
set_option maxHeartbeats 4000000 in
theorem bodyS_step (e : PE) (ih : ∀ e' : PE, e'.args.sz < e.args.sz → BodySomeSaid e') : BodySomeSaid e := by
  intro w nm nm1 ps pa pc bud k1 n1 d1 a1 fa ad' len cap' ad cap hps hpl hae
  obtain ⟨k, nmE, n, d, args, a⟩ := e
  have hlen := hae.len
  simp only at hlen ⊢
  have HA := Lib.hid hae
  have HIH := Lib.hid ih
  have HPS := Lib.hid hps
  have HPM := Lib.hid (fun (w' : World) (h : Row StrC 1 w' ps pa) => param_any (w := w') nm nm1 nmE ps pa pc bud k1 n1 d1 a1 fa ad' len cap' h hpl)
  unfold nodeV at HPM ⊢
  clear hae ih hps
  have main : ∀ (W : World), W.heap[w.heap.size]? = some (.cells #[.string nm, .slice pa ps.length pc, .int .i64 bud, .int .i64 k1, .string nm1, .int .i64 n1, .int .i64 d1, .slice ad' len cap', .int .i64 a1, .int .i64 fa] 50 (0, 0)) →
      W.heap[w.heap.size + 1]? = some (.cells #[.int .i64 k, .string nmE, .int .i64 n, .int .i64 d, .slice ad args.len cap, .int .i64 a] 39 (0, 0)) → Below w.heap.size w W → BsRel w ⟨k, nmE, n, d, args, a⟩ ad cap (.string nm) (.slice pa ps.length pc) (.int .i64 bud) (.int .i64 k1) (.string nm1) (.int .i64 n1) (.int .i64 d1) (.slice ad' len cap') (.int .i64 a1) (.int .i64 fa) (.int .i64 0) W := fun W h1 h2 h3 =>
    ⟨0, args, rfl, (RestP.start HA.out.args).below h3, h1, h2, h3⟩
  have HMAIN := Lib.hid main
  clear main
  by_cases hk : k = 11
  · subst hk
    go_enter Try.func25, Try.ntmps25
    go_wp2_with (go_at_call 43; go_loud (refine (HPM.out _ (HPS.out.below strSta (by repeat (first | (with_reducible exact Below.refl _ _) | ((with_reducible refine below_setAt ?_ ?_ _); (rotate_left; focus (first | omega | (simp; done) | (simp; omega)))) | ((with_reducible refine Below.alloc ?_ ?_ _); (rotate_left; focus (first | omega | (simp; done) | (simp; omega)))) | (with_reducible refine below_drewN ?_ _) | (with_reducible refine Below.drew ?_))))).mono ?_; rintro x w1 ⟨⟨b, rfl⟩, hb1⟩; obtain ⟨hc1, hf1⟩ := bcell hb1; cases b))
    all_goals (try (go_ret; exact ⟨⟨_, rfl⟩, (by repeat (first | (with_reducible exact Below.refl _ _) | ((with_reducible refine below_setAt ?_ ?_ _); (rotate_left; focus (first | omega | (simp; done) | (simp; omega)))) | ((with_reducible refine Below.alloc ?_ ?_ _); (rotate_left; focus (first | omega | (simp; done) | (simp; omega)))) | (with_reducible refine below_drewN ?_ _) | (with_reducible refine Below.drew ?_) | ((with_reducible refine Below.trans ?_ (Below.mono hb1 ?_)); (rotate_left; focus (first | omega | (simp; done) | (simp; omega))))))⟩))
    go_loopw [5] (fun v wr => Hid (BsRel w ⟨11, nmE, n, d, args, a⟩ ad cap (.string nm) (.slice pa ps.length pc) (.int .i64 bud) (.int .i64 k1) (.string nm1) (.int .i64 n1) (.int .i64 d1) (.slice ad' len cap') (.int .i64 a1) (.int .i64 fa) v wr)) (fun i _ => args.len - (intOf i).toNat)
    case atStart => exact HMAIN.out _ ((hb1.block _ (by first | omega | (simp; done) | (simp; omega))).trans ((Below.heap_alloc _ _ _ (by simp)).trans (heap_new w _))) ((hb1.block _ (by first | omega | (simp; done) | (simp; omega))).trans (by simpa using heap_new (w.alloc _) _)) (by repeat (first | (with_reducible exact Below.refl _ _) | ((with_reducible refine below_setAt ?_ ?_ _); (rotate_left; focus (first | omega | (simp; done) | (simp; omega)))) | ((with_reducible refine Below.alloc ?_ ?_ _); (rotate_left; focus (first | omega | (simp; done) | (simp; omega)))) | (with_reducible refine below_drewN ?_ _) | (with_reducible refine Below.drew ?_) | ((with_reducible refine Below.trans ?_ (Below.mono hb1 ?_)); (rotate_left; focus (first | omega | (simp; done) | (simp; omega))))))
    case round =>
      obtain ⟨i, rest, rfl, hrest, hnb, heb, hbel⟩ := hrel.out
      clear hrel
      simp only at heb
      obtain ⟨⟨x0, x1, x2, x3, x4, x5, x6, x7, x8, x9⟩, xf⟩ := cells10' hnb
      obtain ⟨⟨e0, e1, e2, e3, e4, e5⟩, ef⟩ := cells6' heb
      have HNB := Lib.hid hnb
      have HEB := Lib.hid heb
      have HBEL := Lib.hid hbel
      have hil := hrest.1
      simp only at hil
      have HRS := Lib.hid hrest
      have hnlt := lt_of_block hnb
      have helt := lt_of_block heb
      clear hnb heb hrest
      cases rest with
      | nil =>
        have hil' : (i : Int) = (args.len : Int) := by simp only [PL.len] at hil; omega
        clear hbel
        go_wp2
        go_ret
        exact ⟨⟨_, rfl⟩, HBEL.out⟩
      | cons k9 nm9 n9 d9 args9 a9 tl =>
        have hil' : (i : Int) < (args.len : Int) := by simp only [PL.len] at hil; omega
        obtain ⟨b, o, rfl, hb, h0, h1, h2, h3, h5, hn, ⟨ad1, cap1, h4, hcap1, hcm1, hd1⟩, ht⟩ := HRS.out.2.2.resolve_left (by intro h; cases h)
        have hsub := HRS.out.2.1
        simp only [PL.sz] at hsub
        have HAX := Lib.hid (show AE wr ⟨k9, nm9, n9, d9, args9, a9⟩ ad1 cap1 from ⟨hn, ⟨hcap1, hcm1⟩, hd1⟩)
        have HC := Lib.hid (fun (W' : World) (hW : Below wr.heap.size wr W') => HIH.out ⟨k9, nm9, n9, d9, args9, a9⟩ (by show args9.sz < args.sz; omega) W' nm nm1 ps pa pc bud k1 n1 d1 a1 fa ad' len cap' ad1 cap1 ((HPS.out.below strSta HBEL.out).below strSta hW) hpl (HAX.out.below hW))
        unfold nodeV at HC
        simp only at HC
        clear hbel hn hd1 ht
        go_wp2
        go_region_with (go_at_call 25; refine (HC.out _ (by repeat (first | (with_reducible exact Below.refl _ _) | ((with_reducible refine below_setAt ?_ ?_ _); (rotate_left; focus (first | omega | (simp; done) | (simp; omega)))) | ((with_reducible refine Below.alloc ?_ ?_ _); (rotate_left; focus (first | omega | (simp; done) | (simp; omega)))) | (with_reducible refine below_drewN ?_ _) | (with_reducible refine Below.drew ?_)))).mono ?_; rintro x w2 ⟨⟨b2, rfl⟩, hb2⟩)
        all_goals go_wp2
        all_goals first
          | (go_ret; exact ⟨⟨_, rfl⟩, (by repeat (first | (with_reducible exact Below.refl _ _) | ((with_reducible refine below_setAt ?_ ?_ _); (rotate_left; focus (first | omega | (simp; done) | (simp; omega)))) | ((with_reducible refine Below.alloc ?_ ?_ _); (rotate_left; focus (first | omega | (simp; done) | (simp; omega)))) | (with_reducible refine below_drewN ?_ _) | (with_reducible refine Below.drew ?_) | ((with_reducible refine Below.trans ?_ (Below.mono hb2 ?_)); (rotate_left; focus (first | omega | (simp; done) | (simp; omega)))) | ((with_reducible refine Below.trans ?_ (Below.mono HBEL.out ?_)); (rotate_left; focus (first | omega | (simp; done) | (simp; omega))))))⟩)
          | (go_roundw; (case rel => first | exact ⟨i + 1, tl, by go_num, HRS.out.tail.below (by repeat (first | (with_reducible exact Below.refl _ _) | ((with_reducible refine below_setAt ?_ ?_ _); (rotate_left; focus (first | omega | (simp; done) | (simp; omega)))) | ((with_reducible refine Below.alloc ?_ ?_ _); (rotate_left; focus (first | omega | (simp; done) | (simp; omega)))) | (with_reducible refine below_drewN ?_ _) | (with_reducible refine Below.drew ?_) | ((with_reducible refine Below.trans ?_ (Below.mono hb2 ?_)); (rotate_left; focus (first | omega | (simp; done) | (simp; omega)))))), (hb2.block _ hnlt).trans HNB.out, (hb2.block _ helt).trans HEB.out, (by repeat (first | (with_reducible exact Below.refl _ _) | ((with_reducible refine below_setAt ?_ ?_ _); (rotate_left; focus (first | omega | (simp; done) | (simp; omega)))) | ((with_reducible refine Below.alloc ?_ ?_ _); (rotate_left; focus (first | omega | (simp; done) | (simp; omega)))) | (with_reducible refine below_drewN ?_ _) | (with_reducible refine Below.drew ?_) | ((with_reducible refine Below.trans ?_ (Below.mono hb2 ?_)); (rotate_left; focus (first | omega | (simp; done) | (simp; omega)))) | ((with_reducible refine Below.trans ?_ (Below.mono HBEL.out ?_)); (rotate_left; focus (first | omega | (simp; done) | (simp; omega))))))⟩ | ((repeat apply Exists.intro); exact ⟨⟨i + 1, tl, by go_num, HRS.out.tail.below (by repeat (first | (with_reducible exact Below.refl _ _) | ((with_reducible refine below_setAt ?_ ?_ _); (rotate_left; focus (first | omega | (simp; done) | (simp; omega)))) | ((with_reducible refine Below.alloc ?_ ?_ _); (rotate_left; focus (first | omega | (simp; done) | (simp; omega)))) | (with_reducible refine below_drewN ?_ _) | (with_reducible refine Below.drew ?_) | ((with_reducible refine Below.trans ?_ (Below.mono hb2 ?_)); (rotate_left; focus (first | omega | (simp; done) | (simp; omega)))))), (hb2.block _ hnlt).trans HNB.out, (hb2.block _ helt).trans HEB.out, (by repeat (first | (with_reducible exact Below.refl _ _) | ((with_reducible refine below_setAt ?_ ?_ _); (rotate_left; focus (first | omega | (simp; done) | (simp; omega)))) | ((with_reducible refine Below.alloc ?_ ?_ _); (rotate_left; focus (first | omega | (simp; done) | (simp; omega)))) | (with_reducible refine below_drewN ?_ _) | (with_reducible refine Below.drew ?_) | ((with_reducible refine Below.trans ?_ (Below.mono hb2 ?_)); (rotate_left; focus (first | omega | (simp; done) | (simp; omega)))) | ((with_reducible refine Below.trans ?_ (Below.mono HBEL.out ?_)); (rotate_left; focus (first | omega | (simp; done) | (simp; omega))))))⟩, rfl⟩)); (case measure => simp [intOf]; omega))
  · have hk' : (k == 11) = false := beq_eq_false_iff_ne.2 hk
    clear hk
    go_enter Try.func25, Try.ntmps25
    go_wp2
    go_loopw [5] (fun v wr => Hid (BsRel w ⟨k, nmE, n, d, args, a⟩ ad cap (.string nm) (.slice pa ps.length pc) (.int .i64 bud) (.int .i64 k1) (.string nm1) (.int .i64 n1) (.int .i64 d1) (.slice ad' len cap') (.int .i64 a1) (.int .i64 fa) v wr)) (fun i _ => args.len - (intOf i).toNat)
    case atStart => exact HMAIN.out _ ((Below.heap_alloc _ _ _ (by simp)).trans (heap_new w _)) (by simpa using heap_new (w.alloc _) _) (by repeat (first | (with_reducible exact Below.refl _ _) | ((with_reducible refine below_setAt ?_ ?_ _); (rotate_left; focus (first | omega | (simp; done) | (simp; omega)))) | ((with_reducible refine Below.alloc ?_ ?_ _); (rotate_left; focus (first | omega | (simp; done) | (simp; omega)))) | (with_reducible refine below_drewN ?_ _) | (with_reducible refine Below.drew ?_)))
    case round =>
      obtain ⟨i, rest, rfl, hrest, hnb, heb, hbel⟩ := hrel.out
      clear hrel
      simp only at heb
      obtain ⟨⟨x0, x1, x2, x3, x4, x5, x6, x7, x8, x9⟩, xf⟩ := cells10' hnb
      obtain ⟨⟨e0, e1, e2, e3, e4, e5⟩, ef⟩ := cells6' heb
      have HNB := Lib.hid hnb
      have HEB := Lib.hid heb
      have HBEL := Lib.hid hbel
      have hil := hrest.1
      simp only at hil
      have HRS := Lib.hid hrest
      have hnlt := lt_of_block hnb
      have helt := lt_of_block heb
      clear hnb heb hrest
      cases rest with
      | nil =>
        have hil' : (i : Int) = (args.len : Int) := by simp only [PL.len] at hil; omega
        clear hbel
        go_wp2
        go_ret
        exact ⟨⟨_, rfl⟩, HBEL.out⟩
      | cons k9 nm9 n9 d9 args9 a9 tl =>
        have hil' : (i : Int) < (args.len : Int) := by simp only [PL.len] at hil; omega
        obtain ⟨b, o, rfl, hb, h0, h1, h2, h3, h5, hn, ⟨ad1, cap1, h4, hcap1, hcm1, hd1⟩, ht⟩ := HRS.out.2.2.resolve_left (by intro h; cases h)
        have hsub := HRS.out.2.1
        simp only [PL.sz] at hsub
        have HAX := Lib.hid (show AE wr ⟨k9, nm9, n9, d9, args9, a9⟩ ad1 cap1 from ⟨hn, ⟨hcap1, hcm1⟩, hd1⟩)
        have HC := Lib.hid (fun (W' : World) (hW : Below wr.heap.size wr W') => HIH.out ⟨k9, nm9, n9, d9, args9, a9⟩ (by show args9.sz < args.sz; omega) W' nm nm1 ps pa pc bud k1 n1 d1 a1 fa ad' len cap' ad1 cap1 ((HPS.out.below strSta HBEL.out).below strSta hW) hpl (HAX.out.below hW))
        unfold nodeV at HC
        simp only at HC
        clear hbel hn hd1 ht
        go_wp2
        go_region_with (go_at_call 25; refine (HC.out _ (by repeat (first | (with_reducible exact Below.refl _ _) | ((with_reducible refine below_setAt ?_ ?_ _); (rotate_left; focus (first | omega | (simp; done) | (simp; omega)))) | ((with_reducible refine Below.alloc ?_ ?_ _); (rotate_left; focus (first | omega | (simp; done) | (simp; omega)))) | (with_reducible refine below_drewN ?_ _) | (with_reducible refine Below.drew ?_)))).mono ?_; rintro x w2 ⟨⟨b2, rfl⟩, hb2⟩)
        all_goals go_wp2
        all_goals first
          | (go_ret; exact ⟨⟨_, rfl⟩, (by repeat (first | (with_reducible exact Below.refl _ _) | ((with_reducible refine below_setAt ?_ ?_ _); (rotate_left; focus (first | omega | (simp; done) | (simp; omega)))) | ((with_reducible refine Below.alloc ?_ ?_ _); (rotate_left; focus (first | omega | (simp; done) | (simp; omega)))) | (with_reducible refine below_drewN ?_ _) | (with_reducible refine Below.drew ?_) | ((with_reducible refine Below.trans ?_ (Below.mono hb2 ?_)); (rotate_left; focus (first | omega | (simp; done) | (simp; omega)))) | ((with_reducible refine Below.trans ?_ (Below.mono HBEL.out ?_)); (rotate_left; focus (first | omega | (simp; done) | (simp; omega))))))⟩)
          | (go_roundw; (case rel => first | exact ⟨i + 1, tl, by go_num, HRS.out.tail.below (by repeat (first | (with_reducible exact Below.refl _ _) | ((with_reducible refine below_setAt ?_ ?_ _); (rotate_left; focus (first | omega | (simp; done) | (simp; omega)))) | ((with_reducible refine Below.alloc ?_ ?_ _); (rotate_left; focus (first | omega | (simp; done) | (simp; omega)))) | (with_reducible refine below_drewN ?_ _) | (with_reducible refine Below.drew ?_) | ((with_reducible refine Below.trans ?_ (Below.mono hb2 ?_)); (rotate_left; focus (first | omega | (simp; done) | (simp; omega)))))), (hb2.block _ hnlt).trans HNB.out, (hb2.block _ helt).trans HEB.out, (by repeat (first | (with_reducible exact Below.refl _ _) | ((with_reducible refine below_setAt ?_ ?_ _); (rotate_left; focus (first | omega | (simp; done) | (simp; omega)))) | ((with_reducible refine Below.alloc ?_ ?_ _); (rotate_left; focus (first | omega | (simp; done) | (simp; omega)))) | (with_reducible refine below_drewN ?_ _) | (with_reducible refine Below.drew ?_) | ((with_reducible refine Below.trans ?_ (Below.mono hb2 ?_)); (rotate_left; focus (first | omega | (simp; done) | (simp; omega)))) | ((with_reducible refine Below.trans ?_ (Below.mono HBEL.out ?_)); (rotate_left; focus (first | omega | (simp; done) | (simp; omega))))))⟩ | ((repeat apply Exists.intro); exact ⟨⟨i + 1, tl, by go_num, HRS.out.tail.below (by repeat (first | (with_reducible exact Below.refl _ _) | ((with_reducible refine below_setAt ?_ ?_ _); (rotate_left; focus (first | omega | (simp; done) | (simp; omega)))) | ((with_reducible refine Below.alloc ?_ ?_ _); (rotate_left; focus (first | omega | (simp; done) | (simp; omega)))) | (with_reducible refine below_drewN ?_ _) | (with_reducible refine Below.drew ?_) | ((with_reducible refine Below.trans ?_ (Below.mono hb2 ?_)); (rotate_left; focus (first | omega | (simp; done) | (simp; omega)))))), (hb2.block _ hnlt).trans HNB.out, (hb2.block _ helt).trans HEB.out, (by repeat (first | (with_reducible exact Below.refl _ _) | ((with_reducible refine below_setAt ?_ ?_ _); (rotate_left; focus (first | omega | (simp; done) | (simp; omega)))) | ((with_reducible refine Below.alloc ?_ ?_ _); (rotate_left; focus (first | omega | (simp; done) | (simp; omega)))) | (with_reducible refine below_drewN ?_ _) | (with_reducible refine Below.drew ?_) | ((with_reducible refine Below.trans ?_ (Below.mono hb2 ?_)); (rotate_left; focus (first | omega | (simp; done) | (simp; omega)))) | ((with_reducible refine Below.trans ?_ (Below.mono HBEL.out ?_)); (rotate_left; focus (first | omega | (simp; done) | (simp; omega))))))⟩, rfl⟩)); (case measure => simp [intOf]; omega))

theorem bodyS_any (e : PE) : BodySomeSaid e := by
  suffices h : ∀ (N : Nat) (e : PE), e.args.sz < N → BodySomeSaid e from h _ e (Nat.lt_succ_self _)
  intro N
  induction N with
  | zero => intro e h; omega
  | succ N ih => intro e h; exact bodyS_step e (fun e' h' => ih e' (by omega))

end Go.Proofs.Ytjcmjlkihfcdcaa.syn
