/-
  IndexJoins returns true for all arguments, and what was in memory stays as it was. No conditions.
-/
import Derived.Test.YtdlgpfbfhaifgaaRef07B
import Derived.Test.YtdlgpfbfhaifgaaOps
import Derived.Test.YtdlgpfbfhaifgaaApp
import Derived.Lib.AppendZeros
import Derived.Test.YtdlgpfbfhaifgaaRows
import Derived.WalkKit
import Derived.ProofKit
import Derived.OpenShut
import Derived.ShutString
import Derived.ChangeOld
import Derived.Below
import Derived.Carry
import Derived.Lib.SmallJoins
namespace Go.Proofs.Ytdlgpfbfhaifgaa.indexJoins
open Go.ChangeShapes Go.WideShapes Go.ChangeAt Go.RowKit Go.Joins
set_option linter.unusedVariables false

theorem own : ownKnob Try.prog.godebug = none := by kernel_rfl
theorem laidOut : laidOutB Try.prog = true := by kernel_rfl

open index syn lite clock

theorem backA_cat : ∀ (p q : List Op3) (n : Int), backA (p ++ q) n = match backA p n with | .ok t => backA q t | .error e => .error e := by
  intro p
  induction p with
  | nil => intro q n; rfl
  | cons x p ih =>
    intro q n
    simp only [List.cons_append, backA]
    cases stepA x n with
    | ok t => exact ih q t
    | error e => rfl

theorem backA_in : ∀ (l : List Op3) (n : Int), l.any wrongB = false → 0 ≤ n → n ≤ 1099511627776 → (∃ m, backA l n = .ok m ∧ 0 ≤ m ∧ m ≤ 1099511627776) ∨ (∃ N, backA l n = .error (0, N, 2)) ∨ backA l n = .error (0, 0, 0) := by
  intro l
  induction l with
  | nil => intro n _ h0 h1; exact .inl ⟨n, rfl, h0, h1⟩
  | cons o l ih =>
    intro n hw h0 h1
    rw [List.any_cons, Bool.or_eq_false_iff] at hw
    rw [backA]
    by_cases hb : n = 0 ∧ beginsB o = true
    · have : stepA o n = .error (0, o.2.1, 2) := by unfold stepA; exact if_pos hb
      rw [this]; exact .inr (.inl ⟨_, rfl⟩)
    · cases hs : stepP o n with
      | none =>
        have : stepA o n = .error (0, 0, 0) := by unfold stepA; rw [if_neg hb, hs]
        rw [this]; exact .inr (.inr rfl)
      | some t =>
        have : stepA o n = .ok t := by unfold stepA; rw [if_neg hb, hs]
        rw [this]
        have ht := stepP_in hw.1 h0 h1 hb hs
        exact ih t hw.2 ht.1 ht.2

theorem backP_in (l : List Op3) (n : Int) : (∃ m, backP l n = (m, 0, 1) ∧ 0 ≤ m ∧ m ≤ 1099511627776) ∨ (∃ N, backP l n = (0, N, 2)) ∨ backP l n = (0, 0, 0) := by
  unfold backP
  by_cases h : n < 0 ∨ 1099511627776 < n ∨ l.any wrongB = true
  · rw [if_pos h]; exact .inr (.inr rfl)
  · rw [if_neg h]
    have hw : l.reverse.any wrongB = false := by
      rw [List.any_reverse]
      cases hw : l.any wrongB with
      | false => rfl
      | true => exact absurd (Or.inr (Or.inr hw)) h
    rcases backA_in l.reverse n hw (by omega) (by omega) with ⟨m, h1, h2, h3⟩ | ⟨N, h1⟩ | h1
    · rw [h1]; exact .inl ⟨m, rfl, h2, h3⟩
    · rw [h1]; exact .inr (.inl ⟨N, rfl⟩)
    · rw [h1]; exact .inr (.inr rfl)

/-- The cells of operators. -/
def opV : List Op3 → List Value
  | [] => []
  | o :: l => .int .i64 o.1 :: .int .i64 o.2.1 :: .int .i64 o.2.2 :: opV l
theorem opV_len : ∀ l : List Op3, (opV l).length = l.length * 3 := by
  intro l; induction l with
  | nil => rfl
  | cons o l ih => simp only [opV, List.length_cons, ih]; omega
theorem opV_app : ∀ a b : List Op3, opV (a ++ b) = opV a ++ opV b := by
  intro a b; induction a with
  | nil => rfl
  | cons o l ih => simp only [List.cons_append, opV, ih]
theorem opV_get : ∀ (l : List Op3) (k : Nat), k < l.length → (opV l)[k * 3]? = some (.int .i64 (l.getD k (0, 0, 0)).1) ∧ (opV l)[k * 3 + 1]? = some (.int .i64 (l.getD k (0, 0, 0)).2.1) ∧ (opV l)[k * 3 + 2]? = some (.int .i64 (l.getD k (0, 0, 0)).2.2) := by
  intro l; induction l with
  | nil => intro k hk; simp at hk
  | cons o l ih =>
    intro k hk
    cases k with
    | zero => exact ⟨rfl, rfl, rfl⟩
    | succ k =>
      have h := ih k (by simpa using hk)
      rw [show (k + 1) * 3 = k * 3 + 3 by omega]
      exact h
theorem opV_one : ∀ (l : List Op3), ∀ u ∈ opV l, u.oneCell' = true := by
  intro l; induction l with
  | nil => intro u h; cases h
  | cons o l ih => intro u h; simp only [opV, List.mem_cons] at h; rcases h with rfl | rfl | rfl | h <;> first | rfl | exact ih u h
theorem opV_cells {w : World} {ad : Option Addr} {l : List Op3} (h : OpA w ad l) : ∀ j u, (opV l)[j]? = some u → ∃ x : Addr, ad = some x ∧ w.cell? (x.add j) = some u := by
  intro j u hj
  have hlt : j < l.length * 3 := by rw [← opV_len]; exact (List.getElem?_eq_some_iff.1 hj).1
  have hk : j / 3 < l.length := by omega
  obtain ⟨b, off, rfl, hb, c0, c1, c2⟩ := h (j / 3) hk
  obtain ⟨g0, g1, g2⟩ := opV_get l (j / 3) hk
  have hadd : (⟨b, off, none⟩ : Addr).add j = ⟨b, off + j, none⟩ := by unfold Addr.add; by_cases h : j = 0 <;> simp [h]
  refine ⟨_, rfl, ?_⟩
  rw [hadd]
  have h3 : j % 3 = 0 ∨ j % 3 = 1 ∨ j % 3 = 2 := by omega
  rcases h3 with h3 | h3 | h3
  · have e : j / 3 * 3 = j := by omega
    rw [e] at g0 c0; rw [c0, ← g0, hj]
  · have e : j / 3 * 3 + 1 = j := by omega
    rw [e] at g1; rw [show off + j = off + j / 3 * 3 + 1 by omega, c1, ← g1, hj]
  · have e : j / 3 * 3 + 2 = j := by omega
    rw [e] at g2; rw [show off + j = off + j / 3 * 3 + 2 by omega, c2, ← g2, hj]
theorem opA_owns {w : World} {base : Nat} {e : TypeId} {v : Value} {l : List Op3} (h : w.ownsRow base e 3 v l.length (opV l)) : ∃ ad cap, v = .slice ad l.length cap ∧ OpA w ad l := by
  rcases h.2 with ⟨rfl, h0⟩ | ⟨g, cap, cur, rfl, hb, hg, hnc, hcm, hcs, htk⟩
  · exact ⟨none, 0, by rw [h0], fun k hk => by omega⟩
  · refine ⟨_, cap, rfl, fun k hk => ⟨g, 0, rfl, (Array.getElem?_eq_some_iff.1 hg).1, ?_⟩⟩
    obtain ⟨g0, g1, g2⟩ := opV_get l k hk
    have key : ∀ j, j < l.length * 3 → w.cell? ⟨g, 0 + j, none⟩ = (opV l)[j]? := by
      intro j hj
      have hcur : cur[j]? = (opV l)[j]? := by
        rw [← htk, List.getElem?_take_of_lt hj]; simp
      rw [← hcur, Nat.zero_add]
      simp only [World.cell?, hg]
      have : j < cur.size := by rw [hcs]; have := Nat.mul_le_mul_right 3 hnc; omega
      simp [this]
    exact ⟨(key _ (by omega)).trans g0, (key _ (by omega)).trans g1, (key _ (by omega)).trans g2⟩
theorem infoOp : (Try.prog.info? 43).map (fun i => (i.zero, i.size, i.bytes)) = some (some (.agg #[.int .i64 0, .int .i64 0, .int .i64 0]), 3, 24) := by kernel_rfl

theorem join_kinds (a b : List Op3) (n : Int) (ha : rightL a = true) (hb : rightL b = true) (h0 : 0 ≤ n) (h1 : n ≤ 65535) :
    (∃ j, backP b n = (j, 0, 1) ∧ backP (a ++ b) n = backP a j) ∨ (∃ x k, backP b n = (0, x, k) ∧ (k = 0 ∨ k = 2) ∧ backP (a ++ b) n = (0, x, k)) := by
  have wa := rightL_wrong ha
  have wb := rightL_wrong hb
  have wab : (a ++ b).any wrongB = false := by rw [List.any_append, wa, wb]; rfl
  have eb : backP b n = outA (backA b.reverse n) := by unfold backP; rw [if_neg (by rw [wb]; simp; omega)]
  have eab : backP (a ++ b) n = outA (backA (b.reverse ++ a.reverse) n) := by unfold backP; rw [if_neg (by rw [wab]; simp; omega), List.reverse_append]
  rcases backA_in b.reverse n (by rw [List.any_reverse]; exact wb) (by omega) (by omega) with ⟨m, h, hm0, hm1⟩ | ⟨N, h⟩ | h
  · refine .inl ⟨m, by rw [eb, h]; rfl, ?_⟩
    rw [eab, backA_cat, h]
    unfold backP; rw [if_neg (by rw [wa]; simp; omega)]
  · exact .inr ⟨N, 2, by rw [eb, h]; rfl, .inr rfl, by rw [eab, backA_cat, h]; rfl⟩
  · exact .inr ⟨0, 0, by rw [eb, h]; rfl, .inl rfl, by rw [eab, backA_cat, h]; rfl⟩

theorem own0 (w w3 : World) (h : w.heap.size ≤ w3.heap.size) : (w3.alloc (.cells #[] 43)).ownsRow w.heap.size 43 3 (.slice (some ⟨w3.heap.size, 0, none⟩) 0 0) 0 [] :=
  ⟨rfl, .inr ⟨w3.heap.size, 0, #[], rfl, h, heap_new w3 _, Nat.le_refl _, by unfold maxLen; omega, rfl, rfl⟩⟩
theorem own_slice {base g n c : Nat} (h : base ≤ g) : ∀ k, (Value.slice (some ⟨g, 0, none⟩) n c).ownBlock = some k → base ≤ k := by
  intro k e; cases e; exact h
theorem own_ge {w : World} {base : Nat} {e : TypeId} {size n : Nat} {v : Value} {xs : List Value} (h : w.ownsRow base e size v n xs) : ∀ k, v.ownBlock = some k → base ≤ k := by
  intro k hk
  rcases h.2 with ⟨rfl, _⟩ | ⟨g, cap, cur, rfl, hb, _⟩
  · cases hk
  · simp [Value.ownBlock] at hk; omega

set_option maxHeartbeats 4000000 in
theorem join_nota (a b : List Op3) (da db : Option Addr) (ca cb : Nat) (n : Int) (w : World) (hla : a.length ≤ 9223372036854775807) (hlb : b.length ≤ 9223372036854775807) (hA : OpA w da a) (hB : OpA w db b) (h0 : 0 ≤ n) (h1 : n ≤ 65535) (hr : rightL a = false) :
    Calls Try.prog 3 #[.slice da a.length ca, .slice db b.length cb, .int .u16 n] w fun e w' => e = .returned (.bool true) ∧ Below w.heap.size w w' := by
  have HRA := Lib.hid (fun w1 (hb : Below w.heap.size w w1) => right07_any a da ca w1 hla (hA.below hb (Nat.le_refl _)))
  have HRB := Lib.hid (fun w1 (hb : Below w.heap.size w w1) => right07_any b db cb w1 hlb (hB.below hb (Nat.le_refl _)))
  rw [hr] at HRA
  have HB := Lib.hid (Below.refl w.heap.size w)
  have HAA := Lib.hid hA
  have HAB := Lib.hid hB
  clear hA hB
  go_enter Try.func3, Try.ntmps3
  go_wp2_with (first | (go_at_call 7; (with_reducible refine (awake07 _).mono ?_); rintro e wx ⟨rfl, hbx⟩; replace HB := Lib.hid (HB.out.trans (hbx.mono HB.out.size)); clear hbx) | (go_at_call 8; (with_reducible refine (HRA.out _ HB.out).mono ?_); rintro e wx ⟨rfl, hbx⟩; replace HB := Lib.hid (HB.out.trans (hbx.mono HB.out.size)); clear hbx))
  go_ret
  exact ⟨rfl, HB.out⟩

set_option maxHeartbeats 4000000 in
theorem join_notb (a b : List Op3) (da db : Option Addr) (ca cb : Nat) (n : Int) (w : World) (hla : a.length ≤ 9223372036854775807) (hlb : b.length ≤ 9223372036854775807) (hA : OpA w da a) (hB : OpA w db b) (h0 : 0 ≤ n) (h1 : n ≤ 65535) (hra : rightL a = true) (hr : rightL b = false) :
    Calls Try.prog 3 #[.slice da a.length ca, .slice db b.length cb, .int .u16 n] w fun e w' => e = .returned (.bool true) ∧ Below w.heap.size w w' := by
  have HRA := Lib.hid (fun w1 (hb : Below w.heap.size w w1) => right07_any a da ca w1 hla (hA.below hb (Nat.le_refl _)))
  have HRB := Lib.hid (fun w1 (hb : Below w.heap.size w w1) => right07_any b db cb w1 hlb (hB.below hb (Nat.le_refl _)))
  rw [hra] at HRA
  rw [hr] at HRB
  have HD := Lib.hid (Or.inl trivial : True ∨ False)
  have HB := Lib.hid (Below.refl w.heap.size w)
  have HAA := Lib.hid hA
  have HAB := Lib.hid hB
  clear hA hB
  go_enter Try.func3, Try.ntmps3
  go_wp2_with (first | (go_at_call 7; (with_reducible refine (awake07 _).mono ?_); rintro e wx ⟨rfl, hbx⟩; replace HB := Lib.hid (HB.out.trans (hbx.mono HB.out.size)); clear hbx) | (go_at_call 8; (with_reducible refine (HRA.out _ HB.out).mono ?_); rintro e wx ⟨rfl, hbx⟩; replace HB := Lib.hid (HB.out.trans (hbx.mono HB.out.size)); clear hbx) | (go_at_call 8; (with_reducible refine (HRB.out _ HB.out).mono ?_); rintro e wx ⟨rfl, hbx⟩; replace HB := Lib.hid (HB.out.trans (hbx.mono HB.out.size)); clear hbx))
  go_ret
  exact ⟨rfl, HB.out⟩

set_option maxHeartbeats 4000000 in
theorem join_number (a b : List Op3) (da db : Option Addr) (ca cb : Nat) (n : Int) (w : World) (hla : a.length ≤ 9223372036854775807) (hlb : b.length ≤ 9223372036854775807) (hA : OpA w da a) (hB : OpA w db b) (h0 : 0 ≤ n) (h1 : n ≤ 65535) (hra : rightL a = true) (hrb : rightL b = true) (x k : Int) (hk : (k != 1) = true) (hv : backP (a ++ b) n = (0, x, k)) (hv2 : backP b n = (0, x, k)) :
    Calls Try.prog 3 #[.slice da a.length ca, .slice db b.length cb, .int .u16 n] w fun e w' => e = .returned (.bool true) ∧ Below w.heap.size w w' := by
  have HRA := Lib.hid (fun w1 (hb : Below w.heap.size w w1) => right07_any a da ca w1 hla (hA.below hb (Nat.le_refl _)))
  have HRB := Lib.hid (fun w1 (hb : Below w.heap.size w w1) => right07_any b db cb w1 hlb (hB.below hb (Nat.le_refl _)))
  rw [hra] at HRA
  rw [hrb] at HRB
  have a20 : a.length ≤ 20 := by unfold rightL at hra; rw [Bool.and_eq_true] at hra; exact of_decide_eq_true hra.2
  have b20 : b.length ≤ 20 := by unfold rightL at hrb; rw [Bool.and_eq_true] at hrb; exact of_decide_eq_true hrb.2
  have u16 : wrap64 n = n := IntWalk.wrap64_in _ (by omega)
  obtain ⟨i0, hi0, hi1, hi2, hi3⟩ := info_parts infoOp
  have HI := Lib.hid (And.intro hi0 (And.intro hi1 (And.intro hi2 hi3)))
  clear hi0 hi1 hi2 hi3
  have HV := Lib.hid hv
  have HBK2 := Lib.hid (fun w1 (hb : Below w.heap.size w w1) => back_any b db cb n w1 hlb (hB.below hb (Nat.le_refl _)))
  rw [hv2] at HBK2
  simp only [T3] at HBK2
  clear hv hv2
  have HB := Lib.hid (Below.refl w.heap.size w)
  have HAA := Lib.hid hA
  have HAB := Lib.hid hB
  clear hA hB
  go_enter Try.func3, Try.ntmps3
  go_wp2_with (first | (go_at_call 7; (with_reducible refine (awake07 _).mono ?_); rintro e wx ⟨rfl, hbx⟩; replace HB := Lib.hid (HB.out.trans (hbx.mono HB.out.size)); clear hbx) | (go_at_call 8; (with_reducible refine (HRA.out _ HB.out).mono ?_); rintro e wx ⟨rfl, hbx⟩; replace HB := Lib.hid (HB.out.trans (hbx.mono HB.out.size)); clear hbx) | (go_at_call 8; (with_reducible refine (HRB.out _ HB.out).mono ?_); rintro e wx ⟨rfl, hbx⟩; replace HB := Lib.hid (HB.out.trans (hbx.mono HB.out.size)); clear hbx) | (at_builtin; (refine wpList_append_gen _ rfl (.tmp 30) (.tmp 31) 22 rfl w.heap.size 43 i0 _ 3 24 Try.underlying22 HI.out.1 HI.out.2.1 HI.out.2.2.1 HI.out.2.2.2 rfl (by omega) _ 0 [] rfl (own0 _ _ HB.out.size) da a.length ca (opV a) rfl (opV_len a) (opV_cells (HAA.out.below (HB.out.alloc HB.out.size _) (Nat.le_refl _))) (opV_one a) (by unfold maxLen; omega) (by omega) (Nat.le_trans HB.out.size (by simp)) ?_; intro v1 w4 hown4 hg4 hl4; simp only [Nat.zero_add, List.nil_append] at hown4; replace HB := Lib.hid (Below.grown (HB.out.alloc HB.out.size _) hg4 (Nat.le_trans HB.out.size (by simp)) (own_slice HB.out.size)); have HO4 := Lib.hid hown4; have HV4 := Lib.hid (own_ge hown4); clear hown4 hg4 hl4)) | (at_builtin; go_loud (refine wpList_append_gen _ rfl (.tmp 32) (.tmp 33) 22 rfl w.heap.size 43 i0 _ 3 24 Try.underlying22 HI.out.1 HI.out.2.1 HI.out.2.2.1 HI.out.2.2.2 rfl (by omega) v1 a.length (opV a) rfl HO4.out db b.length cb (opV b) rfl (opV_len b) (opV_cells (HAB.out.below HB.out (Nat.le_refl _))) (opV_one b) (by unfold maxLen; omega) (by omega) HB.out.size ?_; intro v2 w5 hown5 hg5 hl5; rw [← List.length_append, ← opV_app] at hown5; replace HB := Lib.hid (Below.grown HB.out hg5 HB.out.size HV4.out); obtain ⟨ad5, cap5, rfl, hoa5⟩ := opA_owns hown5; have HBK1 := Lib.hid (back_any (a ++ b) ad5 cap5 n _ (by rw [List.length_append]; omega) hoa5); rw [HV.out, List.length_append] at HBK1; simp only [T3] at HBK1; clear hown5 hg5 hl5 hoa5)) | (go_at_call 9; (with_reducible refine HBK1.out.mono ?_); rintro e wx ⟨rfl, hbx⟩; replace HB := Lib.hid (HB.out.trans (hbx.mono HB.out.size)); clear hbx) | (go_at_call 9; (with_reducible refine (HBK2.out _ HB.out).mono ?_); rintro e wx ⟨rfl, hbx⟩; replace HB := Lib.hid (HB.out.trans (hbx.mono HB.out.size)); clear hbx))
  go_ret
  exact ⟨rfl, HB.out⟩

set_option maxHeartbeats 4000000 in
theorem join_place (a b : List Op3) (da db : Option Addr) (ca cb : Nat) (n : Int) (w : World) (hla : a.length ≤ 9223372036854775807) (hlb : b.length ≤ 9223372036854775807) (hA : OpA w da a) (hB : OpA w db b) (h0 : 0 ≤ n) (h1 : n ≤ 65535) (hra : rightL a = true) (hrb : rightL b = true) (j x y z : Int) (hv : backP (a ++ b) n = (x, y, z)) (hv2 : backP b n = (j, 0, 1)) (hv3 : backP a j = (x, y, z)) :
    Calls Try.prog 3 #[.slice da a.length ca, .slice db b.length cb, .int .u16 n] w fun e w' => e = .returned (.bool true) ∧ Below w.heap.size w w' := by
  have HRA := Lib.hid (fun w1 (hb : Below w.heap.size w w1) => right07_any a da ca w1 hla (hA.below hb (Nat.le_refl _)))
  have HRB := Lib.hid (fun w1 (hb : Below w.heap.size w w1) => right07_any b db cb w1 hlb (hB.below hb (Nat.le_refl _)))
  rw [hra] at HRA
  rw [hrb] at HRB
  have a20 : a.length ≤ 20 := by unfold rightL at hra; rw [Bool.and_eq_true] at hra; exact of_decide_eq_true hra.2
  have b20 : b.length ≤ 20 := by unfold rightL at hrb; rw [Bool.and_eq_true] at hrb; exact of_decide_eq_true hrb.2
  have u16 : wrap64 n = n := IntWalk.wrap64_in _ (by omega)
  obtain ⟨i0, hi0, hi1, hi2, hi3⟩ := info_parts infoOp
  have HI := Lib.hid (And.intro hi0 (And.intro hi1 (And.intro hi2 hi3)))
  clear hi0 hi1 hi2 hi3
  have HV := Lib.hid hv
  have HBK2 := Lib.hid (fun w1 (hb : Below w.heap.size w w1) => back_any b db cb n w1 hlb (hB.below hb (Nat.le_refl _)))
  rw [hv2] at HBK2
  simp only [T3] at HBK2
  have HBK3 := Lib.hid (fun w1 (hb : Below w.heap.size w w1) => back_any a da ca j w1 hla (hA.below hb (Nat.le_refl _)))
  rw [hv3] at HBK3
  simp only [T3] at HBK3
  clear hv hv2 hv3
  have HB := Lib.hid (Below.refl w.heap.size w)
  have HAA := Lib.hid hA
  have HAB := Lib.hid hB
  clear hA hB
  go_enter Try.func3, Try.ntmps3
  go_wp2_with (first | (go_at_call 7; (with_reducible refine (awake07 _).mono ?_); rintro e wx ⟨rfl, hbx⟩; replace HB := Lib.hid (HB.out.trans (hbx.mono HB.out.size)); clear hbx) | (go_at_call 8; (with_reducible refine (HRA.out _ HB.out).mono ?_); rintro e wx ⟨rfl, hbx⟩; replace HB := Lib.hid (HB.out.trans (hbx.mono HB.out.size)); clear hbx) | (go_at_call 8; (with_reducible refine (HRB.out _ HB.out).mono ?_); rintro e wx ⟨rfl, hbx⟩; replace HB := Lib.hid (HB.out.trans (hbx.mono HB.out.size)); clear hbx) | (at_builtin; (refine wpList_append_gen _ rfl (.tmp 30) (.tmp 31) 22 rfl w.heap.size 43 i0 _ 3 24 Try.underlying22 HI.out.1 HI.out.2.1 HI.out.2.2.1 HI.out.2.2.2 rfl (by omega) _ 0 [] rfl (own0 _ _ HB.out.size) da a.length ca (opV a) rfl (opV_len a) (opV_cells (HAA.out.below (HB.out.alloc HB.out.size _) (Nat.le_refl _))) (opV_one a) (by unfold maxLen; omega) (by omega) (Nat.le_trans HB.out.size (by simp)) ?_; intro v1 w4 hown4 hg4 hl4; simp only [Nat.zero_add, List.nil_append] at hown4; replace HB := Lib.hid (Below.grown (HB.out.alloc HB.out.size _) hg4 (Nat.le_trans HB.out.size (by simp)) (own_slice HB.out.size)); have HO4 := Lib.hid hown4; have HV4 := Lib.hid (own_ge hown4); clear hown4 hg4 hl4)) | (at_builtin; go_loud (refine wpList_append_gen _ rfl (.tmp 32) (.tmp 33) 22 rfl w.heap.size 43 i0 _ 3 24 Try.underlying22 HI.out.1 HI.out.2.1 HI.out.2.2.1 HI.out.2.2.2 rfl (by omega) v1 a.length (opV a) rfl HO4.out db b.length cb (opV b) rfl (opV_len b) (opV_cells (HAB.out.below HB.out (Nat.le_refl _))) (opV_one b) (by unfold maxLen; omega) (by omega) HB.out.size ?_; intro v2 w5 hown5 hg5 hl5; rw [← List.length_append, ← opV_app] at hown5; replace HB := Lib.hid (Below.grown HB.out hg5 HB.out.size HV4.out); obtain ⟨ad5, cap5, rfl, hoa5⟩ := opA_owns hown5; have HBK1 := Lib.hid (back_any (a ++ b) ad5 cap5 n _ (by rw [List.length_append]; omega) hoa5); rw [HV.out, List.length_append] at HBK1; simp only [T3] at HBK1; clear hown5 hg5 hl5 hoa5)) | (go_at_call 9; (with_reducible refine HBK1.out.mono ?_); rintro e wx ⟨rfl, hbx⟩; replace HB := Lib.hid (HB.out.trans (hbx.mono HB.out.size)); clear hbx) | (go_at_call 9; (with_reducible refine (HBK2.out _ HB.out).mono ?_); rintro e wx ⟨rfl, hbx⟩; replace HB := Lib.hid (HB.out.trans (hbx.mono HB.out.size)); clear hbx) | (go_at_call 9; (with_reducible refine (HBK3.out _ HB.out).mono ?_); rintro e wx ⟨rfl, hbx⟩; replace HB := Lib.hid (HB.out.trans (hbx.mono HB.out.size)); clear hbx))
  go_ret
  exact ⟨rfl, HB.out⟩

theorem walk (v0 v1 : Value) (n : Int) (w : World) (hv0 : InOps w v0) (hv1 : InOps w v1) (h0 : 0 ≤ n) (h1 : n ≤ 65535) :
    Calls Try.prog 3 #[v0, v1, .int .u16 n] w fun e w' => e = .returned (.bool true) ∧ Below w.heap.size w w' := by
  obtain ⟨a, da, ca, hra, ha1, ha2, rfl⟩ := hv0
  obtain ⟨b, db, cb, hrb, hb1, hb2, rfl⟩ := hv1
  have hA := opA_row hra
  have hB := opA_row hrb
  cases ra : rightL a with
  | false => exact join_nota a b da db ca cb n w (by omega) (by omega) hA hB h0 h1 ra
  | true =>
    cases rb : rightL b with
    | false => exact join_notb a b da db ca cb n w (by omega) (by omega) hA hB h0 h1 ra rb
    | true =>
      rcases join_kinds a b n ra rb h0 h1 with ⟨j, g1, g2⟩ | ⟨x, k, g1, g2, g3⟩
      · rcases hx : backP a j with ⟨x, y, z⟩
        exact join_place a b da db ca cb n w (by omega) (by omega) hA hB h0 h1 ra rb j x y z (by rw [g2, hx]) g1 hx
      · exact join_number a b da db ca cb n w (by omega) (by omega) hA hB h0 h1 ra rb x k (by rcases g2 with rfl | rfl <;> rfl) g3 g1

set_option maxRecDepth 100000 in
theorem lifted (os : Os) (started : os.Started) (H : Type) (enc : TypeId × Value → H) :
    ReturnsInHanded {} Try.checked os 3 .any (Rows.indexJoinsSpec.pre6 enc Try.prog Try.f3 Rows.indexJoinsRow.domain false) (Rows.indexJoinsSpec.post enc Try.prog Try.f3 false true false false) := by
  refine returnsInHanded_of_change (C := Try.checked) own started (by kernel_rfl) Try.func3
    (ChangeSpec.witness6 (enc := enc) (C := Try.checked) false ⟨#[], #[.slice none 0 0, .slice none 0 0, .int .u16 0], []⟩ 8 (by kernel_rfl) (by kernel_rfl) (by kernel_rfl) (by kernel_rfl)) ?_
  intro W base args ds gs before hval0 hW hcnd _
  have hval : ∀ (j : Nat) t v, Try.f3.params[j]? = some t → args[j]? = some v → Value.okWide Try.prog W .any base t v := hval0
  have hW' := hW
  obtain ⟨p, q, hA0, hV, rfl, hfz, hnd⟩ := hW
  have hA : DataW.TrodAll enc Try.prog W 0 (fun _ => true) true Try.f3.params.toList args.toList ds p := hA0
  rw [Try.params3] at hA hval
  obtain ⟨v0, vs0, d0, ds0, q0, qs0, hargs, rfl, rfl, h0, r0⟩ := trodAll_cons hA
  obtain ⟨v1, vs1, d1, ds1, q1, qs1, rfl, rfl, rfl, h1, r1⟩ := trodAll_cons r0
  obtain ⟨v2, vs2, d2, ds2, q2, qs2, rfl, rfl, rfl, h2, r2⟩ := trodAll_cons r1
  obtain ⟨rfl, rfl, rfl⟩ := trodAll_nil r2
  obtain rfl : args = #[v0, v1, v2] := by cases args; simp_all
  obtain ⟨rfl, rfl⟩ := trodVars_none hV
  have k0 := h0
  have lt0 : ∀ x ∈ q0, x.block < W.heap.size := by obtain ⟨m, hm⟩ := k0; exact DataW.trod_lt m _ _ _ hm
  have k1 := h1
  have lt1 : ∀ x ∈ q1, x.block < W.heap.size := by obtain ⟨m, hm⟩ := k1; exact DataW.trod_lt m _ _ _ hm
  have k2 := h2
  have lt2 : ∀ x ∈ q2, x.block < W.heap.size := by obtain ⟨m, hm⟩ := k2; exact DataW.trod_lt m _ _ _ hm
  have w0 := open_opsV (hval 0 22 v0 rfl rfl) h0
  have w1 := open_opsV (hval 1 22 v1 rfl rfl) h1
  obtain ⟨a2, rfl, rfl, rfl, w2⟩ := open_int Try.underlying23 (hval 2 23 v2 rfl rfl) h2
  clear hA0 hval0
  refine (walk v0 v1 a2 W w0 w1 (bounds_u16 w2).1 (bounds_u16 w2).2).mono fun e W' ⟨he, bel⟩ => ?_
  subst he
  exact ⟨_, rfl, _, _, _, [], _, [], hW', trodAll_mk1 (shut_bool Try.underlying4 _), (trodAll_cons_mk (Below.trod laidOut (by kernel_rfl) (of_decide_eq_true (by kernel_rfl)) k0 bel lt0) (trodAll_cons_mk (Below.trod laidOut (by kernel_rfl) (of_decide_eq_true (by kernel_rfl)) k1 bel lt1) (trodAll_cons_mk (Below.trod laidOut (by kernel_rfl) (of_decide_eq_true (by kernel_rfl)) k2 bel lt2) trodAll_mk0))), rfl, bel.frame _, fun h => by cases h⟩

theorem over : Rows.indexJoinsRow.holds Try.pinned (OpenSpec.ofChange Rows.indexJoinsSpec) :=
  OpenClaim.holds_of_wide 3 Try.f3 rfl rfl rfl rfl rfl rfl rfl ⟨rfl, rfl, rfl, rfl, rfl⟩ rfl rfl rfl rfl rfl (by kernel_rfl) Try.func3 (by kernel_rfl)
    (of_decide_eq_true (by kernel_rfl)) (by unfold Func.isWrapper; first | (rw [if_pos (by decide +kernel)]; kernel_rfl) | (rw [if_neg (by decide +kernel)]; exact ⟨rfl, rfl⟩))
    (fun os started H enc _ => lifted os started H enc)

theorem proved : Rows.IndexJoinsSaid := over
end Go.Proofs.Ytdlgpfbfhaifgaa.indexJoins
