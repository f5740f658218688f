/-
  The reference's number, Size and Depth, of expressions that came in.
-/
import Derived.Test.YtjcmjlkihfcdcaaArg
import Derived.Test.YtjcmjlkihfcdcaaName
namespace Go.Proofs.Ytjcmjlkihfcdcaa.syn
open Go.RowKit
set_option linter.unusedVariables false
set_option linter.unusedSimpArgs false

theorem ret_int {k : IntKind} {a b : Int} (h : a = b) : Ending.returned (.int k a) = .returned (.int k b) := by rw [h]

def inB (n lo hi : Int) : Bool := decide (lo ≤ n) && decide (n ≤ hi)
theorem number_ref (n lo hi : Int) (w : World) : Calls Try.prog 14 #[.int .i64 n, .int .i64 lo, .int .i64 hi] w fun e w' => e = .returned (.bool (inB n lo hi)) ∧ w = w' := by
  unfold inB
  by_cases h1 : lo ≤ n
  · by_cases h2 : n ≤ hi
    · have E := Lib.hid (show (decide (lo ≤ n) && decide (n ≤ hi)) = true by simp; omega)
      go_enter Try.func14, Try.ntmps14
      go_wp2
      go_ret
      exact ⟨ret_bool (by rw [E.out]), rfl⟩
    · have E := Lib.hid (show (decide (lo ≤ n) && decide (n ≤ hi)) = false by simp; omega)
      have h2' : hi < n := by omega
      have h3 : decide (n ≤ hi) = false := by simpa using h2'
      clear h2
      go_enter Try.func14, Try.ntmps14
      go_wp2
      go_ret
      exact ⟨ret_bool (by rw [E.out]), rfl⟩
  · have E := Lib.hid (show (decide (lo ≤ n) && decide (n ≤ hi)) = false by simp; omega)
    have h1' : n < lo := by omega
    have h3 : decide (lo ≤ n) = false := by simpa using h1'
    clear h1
    go_enter Try.func14, Try.ntmps14
    go_wp2
    go_ret
    exact ⟨ret_bool (by rw [E.out]), rfl⟩

/-- What Size counts: the row, so far, at most. -/
def szL : PL → Int → Int → Int
  | .nil, n, _ => n
  | .cons _ _ _ _ args _ tl, n, most => if n ≤ most then szL tl (n + szL args 1 (most - n)) most else n
theorem szL_bd : ∀ (l : PL) (n most : Int), 1 ≤ n → n ≤ most + 1 → n ≤ szL l n most ∧ szL l n most ≤ most + 1 := by
  intro l
  induction l with
  | nil => intro n most h1 h2; exact ⟨Int.le_refl _, h2⟩
  | cons k nm n' d args a tl ih1 ih2 =>
    intro n most h1 h2
    rw [szL]
    split
    · rename_i h
      have h3 := ih1 1 (most - n) (by omega) (by omega)
      have h4 := ih2 (n + szL args 1 (most - n)) most (by omega) (by omega)
      omega
    · omega
def ev (e : PE) (ad : Option Addr) (cap : Nat) : Value := .agg #[.int .i64 e.k, .string e.nm, .int .i64 e.n, .int .i64 e.d, .slice ad e.args.len cap, .int .i64 e.a]
def SizeSaid (e : PE) : Prop := ∀ (w : World) (ad : Option Addr) (cap : Nat) (most : Int), AE w e ad cap → 0 ≤ most → most ≤ 1000 →
  Calls Try.prog 15 #[ev e ad cap, .int .i64 most] w fun x w' => x = .returned (.int .i64 (szL e.args 1 most)) ∧ Below w.heap.size w w'

/-- What is left of a row that came in, where the loop stands. -/
def Rest (wr : World) (ad : Option Addr) (l rest : PL) (i : Nat) : Prop :=
  i + rest.len = l.len ∧ rest.sz ≤ l.sz ∧ (rest = .nil ∨ ∃ b o, ad = some ⟨b, o, none⟩ ∧ b < wr.heap.size ∧ AC wr rest b (o + i * 6))
theorem Rest.start {w : World} {ad : Option Addr} {l : PL} (h : AS w l ad) : Rest w ad l l 0 := by
  refine ⟨by omega, Nat.le_refl _, ?_⟩
  rcases h with h | ⟨b, o, e, hb, h⟩
  · exact .inl h
  · exact .inr ⟨b, o, e, hb, by simpa using h⟩
theorem Rest.below {w w' : World} {ad : Option Addr} {l rest : PL} {i : Nat} (h : Rest w ad l rest i) (hb : Below w.heap.size w w') : Rest w' ad l rest i := by
  obtain ⟨h1, h2, h3⟩ := h
  refine ⟨h1, h2, ?_⟩
  rcases h3 with h3 | ⟨b, o, e, hlt, h3⟩
  · exact .inl h3
  · exact .inr ⟨b, o, e, Nat.lt_of_lt_of_le hlt hb.size, h3.below hb _ _ _ hlt⟩
theorem Rest.tail {w : World} {ad : Option Addr} {l tl args : PL} {k n d a : Int} {nm : ByteArray} {i : Nat} (h : Rest w ad l (.cons k nm n d args a tl) i) : Rest w ad l tl (i + 1) := by
  obtain ⟨h1, h2, h3⟩ := h
  refine ⟨by simp only [PL.len] at h1; omega, by simp only [PL.sz] at h2; omega, ?_⟩
  rcases h3 with h3 | ⟨b, o, e, hlt, h3⟩
  · cases h3
  · obtain ⟨_, _, _, _, _, _, _, ht⟩ := h3
    exact .inr ⟨b, o, e, hlt, by rw [show o + (i + 1) * 6 = o + i * 6 + 6 by omega]; exact ht⟩

/-- What holds at the head of Size's loop. -/
def SzRel (w : World) (e : PE) (ad : Option Addr) (cap : Nat) (most : Int) (v5 v6 : Value) (wr : World) : Prop :=
  ∃ (i : Nat) (n : Int) (rest : PL), v6 = .int .i64 (i : Int) ∧ v5 = .int .i64 n ∧ Rest wr ad e.args rest i ∧ 1 ≤ n ∧ n ≤ most + 1 ∧ szL rest n most = szL e.args 1 most ∧
    wr.heap[w.heap.size]? = some (.cells #[.int .i64 e.k, .string e.nm, .int .i64 e.n, .int .i64 e.d, .slice ad e.args.len cap, .int .i64 e.a] 39 (0, 0)) ∧ Below w.heap.size w wr

set_option maxRecDepth 100000 in
set_option maxHeartbeats 1000000 in
theorem size_step (e : PE) (ih : ∀ e' : PE, e'.args.sz < e.args.sz → SizeSaid e') : SizeSaid e := by
  intro w ad cap most hae hm1 hm2
  obtain ⟨k, nm, n, d, args, a⟩ := e
  have hlen := hae.len
  simp only at hlen
  have HAE := Lib.hid hae
  have HIH := Lib.hid ih
  clear hae ih
  unfold ev
  simp only
  obtain ⟨fin, hfin⟩ : ∃ fin, szL args 1 most = fin := ⟨_, rfl⟩
  rw [hfin]
  have HF := Lib.hid hfin
  clear hfin
  go_enter Try.func15, Try.ntmps15
  go_wp2
  go_loopw [5, 6] (fun v5 v6 wr => Hid (SzRel w ⟨k, nm, n, d, args, a⟩ ad cap most v5 v6 wr)) (fun _ i _ => args.len - (intOf i).toNat)
  case atStart => exact ⟨0, 1, args, rfl, rfl, (Rest.start HAE.out.args).below (by repeat (first | (with_reducible exact Below.refl _ _) | ((with_reducible refine below_setAt ?_ ?_ _); (rotate_left; focus (first | omega | (simp; done) | (simp; omega)))) | ((with_reducible refine Below.alloc ?_ ?_ _); (rotate_left; focus (first | omega | (simp; done) | (simp; omega)))) | (with_reducible refine below_drewN ?_ _) | (with_reducible refine Below.drew ?_))), by omega, by omega, rfl, heap_new w _, (by repeat (first | (with_reducible exact Below.refl _ _) | ((with_reducible refine below_setAt ?_ ?_ _); (rotate_left; focus (first | omega | (simp; done) | (simp; omega)))) | ((with_reducible refine Below.alloc ?_ ?_ _); (rotate_left; focus (first | omega | (simp; done) | (simp; omega)))) | (with_reducible refine below_drewN ?_ _) | (with_reducible refine Below.drew ?_)))⟩
  case round =>
    obtain ⟨i, c, rest, rfl, rfl, hrest, hc1, hc2, hsz, hbox, hbel⟩ := hrel.out
    clear hrel
    obtain ⟨⟨x0, x1, x2, x3, x4, x5⟩, xf⟩ := cells6' hbox
    have HBOX := Lib.hid hbox
    have HBEL := Lib.hid hbel
    have hil := hrest.1
    simp only at hil
    have hbl := lt_of_block hbox
    have HR := Lib.hid hrest
    have HSZ := Lib.hid hsz
    clear hbox hbel hrest hsz
    cases rest with
    | nil =>
      have hil' : (i : Int) = (args.len : Int) := by simp only [PL.len] at hil; omega
      go_wp2
      go_ret
      exact ⟨ret_int (by rw [← HF.out, ← HSZ.out]; rfl), HBEL.out⟩
    | cons k1 nm1 n1 d1 args1 a1 tl =>
      have hil' : (i : Int) < (args.len : Int) := by simp only [PL.len] at hil; omega
      by_cases hcm : c ≤ most
      · obtain ⟨b, o, rfl, hb, h0, h1, h2, h3, h5, hn, ⟨ad1, cap1, h4, hcap1, hcm1, hd1⟩, ht⟩ := HR.out.2.2.resolve_left (by intro h; cases h)
        have hsub := HR.out.2.1
        simp only [PL.sz] at hsub
        have HC := Lib.hid (HIH.out ⟨k1, nm1, n1, d1, args1, a1⟩ (by show args1.sz < args.sz; omega) wr ad1 cap1 (most - c) ⟨hn, ⟨hcap1, hcm1⟩, hd1⟩ (by omega) (by omega))
        have hbd := szL_bd args1 1 (most - c) (by omega) (by omega)
        have hs2 := HSZ.out
        rw [szL, if_pos hcm] at hs2
        have HS2 := Lib.hid hs2
        obtain ⟨m2, hm2'⟩ : ∃ m2, szL args1 1 (most - c) = m2 := ⟨_, rfl⟩
        unfold ev at HC
        simp only [hm2'] at HC
        rw [hm2'] at hbd
        have HM2 := Lib.hid hm2'
        clear hs2 hm2' ht hn hd1
        go_wp2_with (go_at_call 15; refine HC.out.mono ?_; rintro e w2 ⟨rfl, hb2⟩)
        go_roundw
        case rel =>
          refine ⟨i + 1, c + m2, tl, by go_num, rfl, HR.out.tail.below hb2, by omega, by omega, by rw [← HM2.out]; exact HS2.out, ?_, (by repeat (first | (with_reducible exact Below.refl _ _) | ((with_reducible refine below_setAt ?_ ?_ _); (rotate_left; focus (first | omega | (simp; done) | (simp; omega)))) | ((with_reducible refine Below.alloc ?_ ?_ _); (rotate_left; focus (first | omega | (simp; done) | (simp; omega)))) | (with_reducible refine below_drewN ?_ _) | (with_reducible refine Below.drew ?_) | ((with_reducible refine Below.trans ?_ (Below.mono hb2 ?_)); (rotate_left; focus (first | omega | (simp; done) | (simp; omega)))) | ((with_reducible refine Below.trans ?_ (Below.mono HBEL.out ?_)); (rotate_left; focus (first | omega | (simp; done) | (simp; omega))))))⟩
          exact (hb2.block _ hbl).trans HBOX.out
        case measure => simp [intOf]; omega
      · have hcm' : most < c := by omega
        have hcd : decide (c ≤ most) = false := by simpa using hcm'
        go_wp2
        go_ret
        exact ⟨ret_int (by rw [← HF.out, ← HSZ.out, szL, if_neg (by omega)]), HBEL.out⟩

theorem size_any (e : PE) : SizeSaid e := by
  suffices h : ∀ (N : Nat) (e : PE), e.args.sz < N → SizeSaid e from h _ e (Nat.lt_succ_self _)
  intro N
  induction N with
  | zero => intro e h; omega
  | succ N ih => intro e h; exact size_step e (fun e' h' => ih e' (by omega))

/-- How deep the deepest of a row is, up to so many levels. -/
def dpR : PL → Nat → Int → Int
  | .nil, _, acc => acc
  | .cons _ _ _ _ args _ tl, m, acc => dpR tl m (max acc (match m with | 0 => 0 | m + 1 => dpR args m 0 + 1))
def dpE (e : PE) (most : Nat) : Int := match most with | 0 => 0 | m + 1 => dpR e.args m 0 + 1
theorem dpR_bd : ∀ (l : PL) (m : Nat) (acc : Int), 0 ≤ acc → acc ≤ m → 0 ≤ dpR l m acc ∧ dpR l m acc ≤ m := by
  intro l
  induction l with
  | nil => intro m acc h1 h2; exact ⟨h1, h2⟩
  | cons k nm n d args a tl ih1 ih2 =>
    intro m acc h1 h2
    match m with
    | 0 =>
      rw [dpR]
      exact ih2 0 _ (by omega) (by omega)
    | m + 1 =>
      have h3 := ih1 m 0 (by omega) (by omega)
      rw [dpR]
      exact ih2 (m + 1) _ (by omega) (by omega)
theorem dpE_bd (e : PE) (m : Nat) : 0 ≤ dpE e m ∧ dpE e m ≤ m := by
  match m with
  | 0 => simp [dpE]
  | m + 1 => have := dpR_bd e.args m 0 (by omega) (by omega); simp only [dpE]; omega
def DepSaid (e : PE) : Prop := ∀ (w : World) (ad : Option Addr) (cap : Nat) (most : Nat), AE w e ad cap → most ≤ 1000 →
  Calls Try.prog 16 #[ev e ad cap, .int .i64 (most : Int)] w fun x w' => x = .returned (.int .i64 (dpE e most)) ∧ Below w.heap.size w w'

def DpRel (w : World) (e : PE) (ad : Option Addr) (cap : Nat) (m : Nat) (v5 v6 : Value) (wr : World) : Prop :=
  ∃ (i : Nat) (n : Int) (rest : PL), v6 = .int .i64 (i : Int) ∧ v5 = .int .i64 n ∧ Rest wr ad e.args rest i ∧ 0 ≤ n ∧ n ≤ m ∧ dpR rest m n = dpR e.args m 0 ∧
    wr.heap[w.heap.size]? = some (.cells #[.int .i64 e.k, .string e.nm, .int .i64 e.n, .int .i64 e.d, .slice ad e.args.len cap, .int .i64 e.a] 39 (0, 0)) ∧ Below w.heap.size w wr

set_option maxRecDepth 100000 in
set_option maxHeartbeats 1000000 in
theorem dep_step (e : PE) (ih : ∀ e' : PE, e'.args.sz < e.args.sz → DepSaid e') : DepSaid e := by
  intro w ad cap most hae hm
  obtain ⟨k, nm, n, d, args, a⟩ := e
  have hlen := hae.len
  simp only at hlen
  have HAE := Lib.hid hae
  have HIH := Lib.hid ih
  clear hae ih
  unfold ev
  simp only
  match most, hm with
  | 0, _ =>
    show Calls _ _ #[_, .int .i64 0] _ _
    go_enter Try.func16, Try.ntmps16
    go_wp2
    go_ret
    exact ⟨rfl, (by repeat (first | (with_reducible exact Below.refl _ _) | ((with_reducible refine below_setAt ?_ ?_ _); (rotate_left; focus (first | omega | (simp; done) | (simp; omega)))) | ((with_reducible refine Below.alloc ?_ ?_ _); (rotate_left; focus (first | omega | (simp; done) | (simp; omega)))) | (with_reducible refine below_drewN ?_ _) | (with_reducible refine Below.drew ?_)))⟩
  | m + 1, hm =>
    obtain ⟨fin, hfin⟩ : ∃ fin, dpR args m 0 = fin := ⟨_, rfl⟩
    have hfb := dpR_bd args m 0 (by omega) (by omega)
    rw [hfin] at hfb
    have HG := Lib.hid (show dpE ⟨k, nm, n, d, args, a⟩ (m + 1) = fin + 1 by rw [← hfin]; rfl)
    have HF := Lib.hid hfin
    have hm0 : (((m + 1 : Nat) : Int) == 0) = false := by rw [beq_eq_false_iff_ne]; omega
    have hm1 : (((m + 1 : Nat) : Int)) = (m : Int) + 1 := by omega
    rw [hm1] at hm0
    rw [hm1]
    clear hfin
    go_enter Try.func16, Try.ntmps16
    go_wp2
    go_loopw [5, 6] (fun v5 v6 wr => Hid (DpRel w ⟨k, nm, n, d, args, a⟩ ad cap m v5 v6 wr)) (fun _ i _ => args.len - (intOf i).toNat)
    case atStart => exact ⟨0, 0, args, rfl, rfl, (Rest.start HAE.out.args).below (by repeat (first | (with_reducible exact Below.refl _ _) | ((with_reducible refine below_setAt ?_ ?_ _); (rotate_left; focus (first | omega | (simp; done) | (simp; omega)))) | ((with_reducible refine Below.alloc ?_ ?_ _); (rotate_left; focus (first | omega | (simp; done) | (simp; omega)))) | (with_reducible refine below_drewN ?_ _) | (with_reducible refine Below.drew ?_))), by omega, by omega, rfl, heap_new w _, (by repeat (first | (with_reducible exact Below.refl _ _) | ((with_reducible refine below_setAt ?_ ?_ _); (rotate_left; focus (first | omega | (simp; done) | (simp; omega)))) | ((with_reducible refine Below.alloc ?_ ?_ _); (rotate_left; focus (first | omega | (simp; done) | (simp; omega)))) | (with_reducible refine below_drewN ?_ _) | (with_reducible refine Below.drew ?_)))⟩
    case round =>
      obtain ⟨i, c, rest, rfl, rfl, hrest, hc1, hc2, hsz, hbox, hbel⟩ := hrel.out
      clear hrel
      obtain ⟨⟨x0, x1, x2, x3, x4, x5⟩, xf⟩ := cells6' hbox
      have HBOX := Lib.hid hbox
      have HBEL := Lib.hid hbel
      have hil := hrest.1
      simp only at hil
      have hbl := lt_of_block hbox
      have HR := Lib.hid hrest
      have HSZ := Lib.hid hsz
      clear hbox hbel hrest hsz
      cases rest with
      | nil =>
        have hil' : (i : Int) = (args.len : Int) := by simp only [PL.len] at hil; omega
        go_wp2
        go_ret
        exact ⟨ret_int (by rw [HG.out, ← HF.out, ← HSZ.out]; rfl), HBEL.out⟩
      | cons k1 nm1 n1 d1 args1 a1 tl =>
        have hil' : (i : Int) < (args.len : Int) := by simp only [PL.len] at hil; omega
        obtain ⟨b, o, rfl, hb, h0, h1, h2, h3, h5, hn, ⟨ad1, cap1, h4, hcap1, hcm1, hd1⟩, ht⟩ := HR.out.2.2.resolve_left (by intro h; cases h)
        have hsub := HR.out.2.1
        simp only [PL.sz] at hsub
        have HC := Lib.hid (HIH.out ⟨k1, nm1, n1, d1, args1, a1⟩ (by show args1.sz < args.sz; omega) wr ad1 cap1 m ⟨hn, ⟨hcap1, hcm1⟩, hd1⟩ (by omega))
        have hbd := dpE_bd ⟨k1, nm1, n1, d1, args1, a1⟩ m
        obtain ⟨m2, hm2'⟩ : ∃ m2, dpE ⟨k1, nm1, n1, d1, args1, a1⟩ m = m2 := ⟨_, rfl⟩
        unfold ev at HC
        simp only [hm2'] at HC
        rw [hm2'] at hbd
        have HS2 := Lib.hid (show dpR tl m (max c m2) = dpR args m 0 from by rw [← hm2']; exact HSZ.out)
        clear hm2' ht hn hd1
        go_wp2_with (go_at_call 16; refine HC.out.mono ?_; rintro e w2 ⟨rfl, hb2⟩)
        go_roundw
        case rel =>
          refine ⟨i + 1, max c m2, tl, by go_num, (by first | rfl | (refine congrArg (Value.int IntKind.i64) ?_; split <;> omega)), HR.out.tail.below hb2, by omega, by omega, HS2.out, ?_, (by repeat (first | (with_reducible exact Below.refl _ _) | ((with_reducible refine below_setAt ?_ ?_ _); (rotate_left; focus (first | omega | (simp; done) | (simp; omega)))) | ((with_reducible refine Below.alloc ?_ ?_ _); (rotate_left; focus (first | omega | (simp; done) | (simp; omega)))) | (with_reducible refine below_drewN ?_ _) | (with_reducible refine Below.drew ?_) | ((with_reducible refine Below.trans ?_ (Below.mono hb2 ?_)); (rotate_left; focus (first | omega | (simp; done) | (simp; omega)))) | ((with_reducible refine Below.trans ?_ (Below.mono HBEL.out ?_)); (rotate_left; focus (first | omega | (simp; done) | (simp; omega))))))⟩
          exact (hb2.block _ hbl).trans HBOX.out
        case measure => simp [intOf]; omega

theorem dep_any (e : PE) : DepSaid e := by
  suffices h : ∀ (N : Nat) (e : PE), e.args.sz < N → DepSaid e from h _ e (Nat.lt_succ_self _)
  intro N
  induction N with
  | zero => intro e h; omega
  | succ N ih => intro e h; exact dep_step e (fun e' h' => ih e' (by omega))

end Go.Proofs.Ytjcmjlkihfcdcaa.syn
