/-
  ClockDivides returns true for all arguments, and what was in memory stays as it was. No conditions.
-/
import Derived.Test.YtipafnggeckojaaLaw02
import Derived.Test.YtipafnggeckojaaHyper
import Derived.Deep.SlicePairs
import Derived.Test.YtipafnggeckojaaRows
import Derived.WalkKit
import Derived.ProofKit
import Derived.OpenShut
import Derived.ShutString
import Derived.ChangeOld
import Derived.Below
import Derived.Carry
import Derived.Lib.SmallJoins
namespace Go.Proofs.Ytipafnggeckojaa.clockDivides
open Go.ChangeShapes Go.WideShapes Go.ChangeAt Go.RowKit Go.Joins
set_option linter.unusedVariables false

theorem own : ownKnob Try.prog.godebug = none := by kernel_rfl
theorem laidOut : laidOutB Try.prog = true := by kernel_rfl

open clock

theorem hyper_split {l : List (Int × Int)} {c : Int × Int} {h : Int} : ∀ {n : Int}, hyperFrom n (l ++ [c]) = some h → ∃ a, hyperFrom n l = some a ∧ lcm2 a c.1 = h ∧ h ≤ 2000 := by
  induction l with
  | nil =>
    intro n H
    rw [List.nil_append, hyperFrom] at H
    split at H
    · cases H
    · rw [hyperFrom] at H
      have e := Option.some.inj H
      exact ⟨n, by rw [hyperFrom], e, by omega⟩
  | cons x l ih =>
    intro n H
    rw [List.cons_append, hyperFrom] at H
    split at H
    · cases H
    · rename_i hh
      obtain ⟨a, h1, h2, h3⟩ := ih H
      exact ⟨a, by rw [hyperFrom, if_neg hh]; exact h1, h2, h3⟩

theorem hyper_div {l : List (Int × Int)} {h : Int} : ∀ {n : Int}, 1 ≤ n → n ≤ 2000 → (∀ c ∈ l, rightC c) → hyperFrom n l = some h → n ∣ h ∧ 1 ≤ h ∧ h ≤ 2000 ∧ ∀ c ∈ l, c.1 ∣ h := by
  induction l with
  | nil =>
    intro n n1 n2 _ H
    rw [hyperFrom] at H
    obtain rfl := Option.some.inj H
    exact ⟨Int.dvd_refl _, n1, n2, by simp⟩
  | cons x l ih =>
    intro n n1 n2 hg H
    rw [hyperFrom] at H
    split at H
    · cases H
    · have hx := hg x (by simp)
      have hd := arith.dvd_step n1 hx.1
      have hb := lcm2_bd n1 n2 hx.1 hx.2.1
      obtain ⟨h1, h2, h3, h4⟩ := ih hb.1 (by omega) (fun c hc => hg c (by simp [hc])) H
      refine ⟨Int.dvd_trans hd.1 h1, h2, h3, ?_⟩
      intro c hc
      rcases List.mem_cons.1 hc with rfl | hc
      · exact Int.dvd_trans hd.2 h1
      · exact h4 c hc

theorem lcm2_one (a : Int) : lcm2 1 a = a := by unfold lcm2; rw [arith.gcdOf_one_left]; omega

theorem hyper_pair {a h : Int} {c : Int × Int} (a2 : a ≤ 2000) (hl : lcm2 a c.1 = h) (hh : h ≤ 2000) : hyperFrom 1 [(a, 0), c] = some h := by
  rw [hyperFrom, if_neg (by rw [lcm2_one]; simp; omega), hyperFrom, lcm2_one, hl, if_neg (by omega), hyperFrom]

theorem split_last {l : List (Int × Int)} (h : 1 ≤ l.length) : l = l.take (l.length - 1) ++ [l.getD (l.length - 1) (0, 0)] := by
  have h1 : l.drop (l.length - 1) = [l.getD (l.length - 1) (0, 0)] := by
    rw [hdrop_cons (by omega), List.drop_eq_nil_of_le (by omega)]
  rw [← h1, List.take_append_drop]

theorem pair_at (w : World) (p f p2 f2 : Int) : ∀ k, k < 2 → (w.alloc (Obj.cells #[.int .i64 p, .int .i64 f, .int .i64 p2, .int .i64 f2] 29)).cell? ⟨w.heap.size, 0 + k * 2, none⟩ = some (.int .i64 (([(p, f), (p2, f2)] : List (Int × Int)).getD k (0, 0)).1) ∧
    (w.alloc (Obj.cells #[.int .i64 p, .int .i64 f, .int .i64 p2, .int .i64 f2] 29)).cell? ⟨w.heap.size, 0 + k * 2 + 1, none⟩ = some (.int .i64 (([(p, f), (p2, f2)] : List (Int × Int)).getD k (0, 0)).2) := by
  intro k hk
  match k, hk with
  | 0, _ => simp [go_sem]
  | 1, _ => simp [go_sem]

theorem hyper_two (p f p2 f2 h : Int) (w : World) (B : Nat) (hB : B = w.heap.size) (h1 : rightC (p, f)) (h2 : rightC (p2, f2)) (hh : hyperFrom 1 [(p, f), (p2, f2)] = some h) :
    Calls Try.prog 7 #[.slice (some ⟨B, 0, none⟩) 2 2] (w.alloc (Obj.cells #[.int .i64 p, .int .i64 f, .int .i64 p2, .int .i64 f2] 29)) fun e w' =>
      e = .returned (.tuple #[.int .i64 h, .int .i64 0]) ∧ Below (B + 1) (w.alloc (Obj.cells #[.int .i64 p, .int .i64 f, .int .i64 p2, .int .i64 f2] 29)) w' := by
  subst hB
  have := hyper_good [(p, f), (p2, f2)] w.heap.size 0 2 _ (by simp) (by simp) (pair_at w p f p2 f2) (by
    intro k hk
    match k, hk with
    | 0, _ => exact h1
    | 1, _ => exact h2)
  rw [hh, World.size_alloc] at this
  exact this

/-- The cells of a slice of clocks. -/
def Cells2 (w : World) (b off : Nat) (l : List (Int × Int)) : Prop :=
  ∀ k, k < l.length → w.cell? ⟨b, off + k * 2, none⟩ = some (.int .i64 (l.getD k (0, 0)).1) ∧ w.cell? ⟨b, off + k * 2 + 1, none⟩ = some (.int .i64 (l.getD k (0, 0)).2)
theorem Cells2.below {B : Nat} {w w1 : World} {b off : Nat} {l : List (Int × Int)} (h : Cells2 w b off l) (hb : Below B w w1) (hlt : b < B) : Cells2 w1 b off l := fun k hk =>
  ⟨(hb.cell (p := ⟨b, _, none⟩) hlt).trans (h k hk).1, (hb.cell (p := ⟨b, _, none⟩) hlt).trans (h k hk).2⟩
theorem Cells2.take {w : World} {b off n : Nat} {l : List (Int × Int)} (h : Cells2 w b off l) (hn : n ≤ l.length) : Cells2 w b off (l.take n) := by
  intro k hk
  rw [List.length_take] at hk
  have e : (l.take n).getD k (0, 0) = l.getD k (0, 0) := by
    rw [plain.getD_lt _ (by simp; omega), plain.getD_lt _ (by omega), List.getElem_take]
  rw [e]; exact h k (by omega)

theorem divides_long (a : Option Addr) (len cap : Nat) (w : World) (h : 20 < len) (hm : len ≤ 9223372036854775807) :
    Calls Try.prog 3 #[.slice a len cap] w fun e w' => e = .returned (.bool true) ∧ Below w.heap.size w w' := by
  have h' : (20 : Int) < (len : Int) := by omega
  go_enter Try.func3, Try.ntmps3
  go_wp2_with (go_at_call 6; (with_reducible refine (awake02 _).mono ?_); rintro e w1 ⟨rfl, hb1⟩; have HB := Lib.hid hb1; clear hb1)
  go_ret
  have HA : Hid (Below w.heap.size w _) := (by assumption)
  exact ⟨rfl, HA.out.trans (HB.out.mono HA.out.size)⟩

theorem divides_empty (a : Option Addr) (cap : Nat) (w : World) :
    Calls Try.prog 3 #[.slice a 0 cap] w fun e w' => e = .returned (.bool true) ∧ Below w.heap.size w w' := by
  go_enter Try.func3, Try.ntmps3
  go_wp2_with (go_at_call 6; (with_reducible refine (awake02 _).mono ?_); rintro e w1 ⟨rfl, hb1⟩; have HB := Lib.hid hb1; clear hb1)
  go_ret
  have HA : Hid (Below w.heap.size w _) := (by assumption)
  exact ⟨rfl, HA.out.trans (HB.out.mono HA.out.size)⟩

theorem divides_err (a : Option Addr) (len cap : Nat) (w : World) (er : Int) (h0 : 1 ≤ len) (h : len ≤ 20) (he : (er != 0) = true)
    (HYP : ∀ w1, Below w.heap.size w w1 → Calls Try.prog 7 #[.slice a len cap] w1 fun e w' => e = .returned (.tuple #[.int .i64 0, .int .i64 er]) ∧ Below w1.heap.size w1 w') :
    Calls Try.prog 3 #[.slice a len cap] w fun e w' => e = .returned (.bool true) ∧ Below w.heap.size w w' := by
  have l0 : ((len : Int) == 0) = false := by simp; omega
  have H := Lib.hid HYP
  clear HYP
  go_enter Try.func3, Try.ntmps3
  go_wp2_with (first | (go_at_call 6; (with_reducible refine (awake02 _).mono ?_); rintro e w1 ⟨rfl, hb1⟩; have HB := Lib.hid hb1; clear hb1) | (go_at_call 7; (with_reducible refine (H.out _ HB.out).mono ?_); rintro e w2 ⟨rfl, hb2⟩; have HB2 := Lib.hid hb2; clear hb2))
  go_ret
  exact ⟨rfl, HB.out.trans (HB2.out.mono HB.out.size)⟩

theorem divides_ok (b off cap : Nat) (l : List (Int × Int)) (w : World) (h a : Int) (h0 : 1 ≤ l.length) (h20 : l.length ≤ 20) (hcap : l.length ≤ cap) (hcap2 : cap ≤ 9223372036854775807) (hb0 : b < w.heap.size) (HC0 : Cells2 w b off l)
    (hg : ∀ k, k < l.length → rightC (l.getD k (0, 0))) (hd : ∀ k, k < l.length → h % (l.getD k (0, 0)).1 = 0) (hh1 : 1 ≤ h) (hh2 : h ≤ 2000) (a1 : 1 ≤ a) (a2 : a ≤ 2000)
    (H1 : hyperFrom 1 l = some h) (H2 : hyperFrom 1 (l.take (l.length - 1)) = some a) (H3 : hyperFrom 1 [(a, 0), l.getD (l.length - 1) (0, 0)] = some h) :
    Calls Try.prog 3 #[.slice (some ⟨b, off, none⟩) l.length cap] w fun e w' => e = .returned (.bool true) ∧ Below w.heap.size w w' := by
  have l0 : ((l.length : Int) == 0) = false := by rw [beq_eq_false_iff_ne]; omega
  have HH1 : Hid (∀ w1, Below w.heap.size w w1 → Calls Try.prog 7 #[.slice (some ⟨b, off, none⟩) l.length cap] w1 fun e w' => e = .returned (.tuple #[.int .i64 h, .int .i64 0]) ∧ Below w1.heap.size w1 w') := fun w1 hb => by
    have := hyper_good l b off cap w1 (by omega) (Nat.lt_of_lt_of_le hb0 hb.size) (HC0.below hb hb0) hg
    rw [H1] at this; exact this
  have HG := Lib.hid hg
  have HD := Lib.hid hd
  have HC := Lib.hid HC0
  have HH2 := Lib.hid H2
  have HH3 := Lib.hid H3
  clear H1 H2 H3 hg hd HC0
  go_enter Try.func3, Try.ntmps3
  go_wp2_with (first | (go_at_call 6; (with_reducible refine (awake02 _).mono ?_); rintro e w1 ⟨rfl, hb1⟩; have HB := Lib.hid hb1; clear hb1) | (go_at_call 7; (with_reducible refine (HH1.out _ HB.out).mono ?_); rintro e w2 ⟨rfl, hb2⟩; have HB2 := Lib.hid hb2; clear hb2))
  have HW := Lib.hid (HB.out.trans (HB2.out.mono HB.out.size))
  clear HB HB2 HH1
  obtain ⟨wo, rfl⟩ : ∃ wo : World, wo = w2 := ⟨_, rfl⟩
  go_loopw [5] (fun i wr => ∃ k : Nat, k ≤ l.length ∧ i = .int .i64 k ∧ Hid (Below w.heap.size w wr)) (fun i _ => l.length - (intOf i).toNat)
  case atStart => exact ⟨0, by omega, rfl, HW⟩
  case round =>
    obtain ⟨k, hk, rfl, HV⟩ := hrel
    clear HW
    by_cases hlt : k < l.length
    · obtain ⟨e0, e1⟩ := HC.out.below HV.out hb0 k hlt
      have hr := HG.out k hlt
      have hz := HD.out k hlt
      unfold rightC at hr
      generalize l.getD k (0, 0) = c at *
      obtain ⟨cp, cf⟩ := c
      simp only at e0 e1 hr hz
      have HX := Lib.hid (fun w => refRight_any cp cf w)
      rw [right_yes hr] at HX
      have p1 := hr.1
      have p2 := hr.2.1
      have z : (h % cp != 0) = false := by simpa using hz
      clear hr hz
      go_wp2_with (go_at_call 8; (with_reducible refine (HX.out _).mono ?_); rintro e w3 ⟨rfl, hb3⟩; have HB3 := Lib.hid hb3; have e2 : w3.cell? ⟨b, off + k * 2, none⟩ = some (.int .i64 cp) := (hb3.cell (p := ⟨b, _, none⟩) (Nat.lt_of_lt_of_le hb0 HV.out.size)).trans e0; clear hb3)
      go_roundw
      case rel => exact ⟨k + 1, by omega, by go_num, HV.out.trans (HB3.out.mono HV.out.size)⟩
      case measure => simp [intOf]; omega
    · have hk0 : k = l.length := by omega
      subst hk0
      have hl1 : l.length - 1 < l.length := by omega
      obtain ⟨e0, e1⟩ := HC.out.below HV.out hb0 _ hl1
      have hr := Lib.hid (HG.out _ hl1)
      have HT : Hid (∀ w1, Below w.heap.size w w1 → Calls Try.prog 7 #[.slice (some ⟨b, off, none⟩) (l.length - 1) cap] w1 fun e w' => e = .returned (.tuple #[.int .i64 a, .int .i64 0]) ∧ Below w1.heap.size w1 w') := fun w1 hb => by
        by_cases hz : l.length - 1 = 0
        · have e := HH2.out
          rw [hz, List.take_zero, hyperFrom] at e
          obtain rfl := Option.some.inj e
          rw [hz]; exact hyper_nil _ _ w1
        · have hlen : (l.take (l.length - 1)).length = l.length - 1 := by simp
          have := hyper_good (l.take (l.length - 1)) b off cap w1 (by omega) (Nat.lt_of_lt_of_le hb0 hb.size) ((HC.out.take (by omega)).below hb hb0) (fun k hk => by
            rw [hlen] at hk
            rw [plain.getD_lt _ (by rw [hlen]; exact hk), List.getElem_take, ← plain.getD_lt (0, 0) (show k < l.length by omega)]
            exact HG.out k (by omega))
          rw [HH2.out, hlen] at this
          exact this
      have HP := Lib.hid (fun w B hB => hyper_two a 0 (l.getD (l.length - 1) (0, 0)).1 (l.getD (l.length - 1) (0, 0)).2 h w B hB ⟨a1, a2, by omega, by omega⟩ hr.out HH3.out)
      generalize l.getD (l.length - 1) (0, 0) = c at *
      obtain ⟨cp, cf⟩ := c
      simp only at e0 e1 HP
      clear HH2 HH3 HG HD hr
      have i1 : IntKind.i64.wrap ((l.length : Int) - 1) = ((l.length - 1 : Nat) : Int) := by rw [IntWalk.i64_in _ (by omega)]; omega
      go_wp2_with (first | (go_at_call 7; (with_reducible refine (HT.out _ HV.out).mono ?_); rintro e w4 ⟨rfl, hb4⟩; have HB4 := Lib.hid hb4; have g0 : w4.cell? ⟨b, off + (l.length - 1) * 2, none⟩ = some (.int .i64 cp) := (hb4.cell (p := ⟨b, _, none⟩) (Nat.lt_of_lt_of_le hb0 HV.out.size)).trans e0; have g1 : w4.cell? ⟨b, off + (l.length - 1) * 2 + 1, none⟩ = some (.int .i64 cf) := (hb4.cell (p := ⟨b, _, none⟩) (Nat.lt_of_lt_of_le hb0 HV.out.size)).trans e1; clear hb4) | (go_at_call 7; (with_reducible refine (HP.out _ _ (by first | omega | (simp; done) | (simp; omega))).mono ?_); rintro e w5 ⟨rfl, hb5⟩; have HB5 := Lib.hid hb5; clear hb5))
      go_ret
      exact ⟨rfl, (((HV.out.trans (HB4.out.mono HV.out.size)).alloc (by have := HV.out.size; have := HB4.out.size; omega) _).trans (HB5.out.mono (by have := HV.out.size; have := HB4.out.size; omega)))⟩

/-- What the frame tells of a slice of clocks that came in. -/
def InClocks (W : World) (v : Value) : Prop :=
  ∃ a len cap, v = .slice a len cap ∧ len ≤ 9223372036854775807 ∧ (len = 0 ∨ ∃ b off l, a = some ⟨b, off, none⟩ ∧ len = l.length ∧ len ≤ cap ∧ cap ≤ 9223372036854775807 ∧ b < W.heap.size ∧ Cells2 W b off l)

theorem spot_none {x : Addr} {w : World} {v : Value} (h : w.cell? (x.add 0) = some v) : x.spot = none := by
  obtain ⟨b, off, sp⟩ := x
  cases sp with
  | none => rfl
  | some s =>
    simp only [Addr.add, if_pos, World.cell?] at h
    split at h
    · simp at h
    · cases h

theorem add_none (b off n : Nat) : (⟨b, off, none⟩ : Addr).add n = ⟨b, off + n, none⟩ := by
  unfold Addr.add
  by_cases h : n = 0
  · subst h; simp
  · rw [if_neg h]

theorem list_of {W : World} {b off : Nat} : ∀ (n : Nat) (V0 V1 : Nat → Value), (∀ i, i < n → W.cell? ⟨b, off + i * 2, none⟩ = some (V0 i) ∧ W.cell? ⟨b, off + i * 2 + 1, none⟩ = some (V1 i) ∧ (∃ x, V0 i = .int .i64 x) ∧ (∃ y, V1 i = .int .i64 y)) →
    ∃ l : List (Int × Int), l.length = n ∧ Cells2 W b off l := by
  intro n V0 V1 h
  have pick : ∀ i, ∃ c : Int × Int, i < n → V0 i = .int .i64 c.1 ∧ V1 i = .int .i64 c.2 := by
    intro i
    by_cases hi : i < n
    · obtain ⟨_, _, ⟨x, hx⟩, ⟨y, hy⟩⟩ := h i hi
      exact ⟨(x, y), fun _ => ⟨hx, hy⟩⟩
    · exact ⟨(0, 0), fun hh => absurd hh hi⟩
  obtain ⟨c, hc⟩ := Classical.axiomOfChoice pick
  refine ⟨(List.range n).map c, by simp, ?_⟩
  intro k hk
  have hk' : k < n := by simpa using hk
  have e : ((List.range n).map c).getD k (0, 0) = c k := by rw [plain.getD_lt _ hk]; simp
  rw [e]
  obtain ⟨h0, h1, _, _⟩ := h k hk'
  rw [h0, h1, (hc k hk').1, (hc k hk').2]
  exact ⟨rfl, rfl⟩

theorem open_clocks {H : Type} {enc : TypeId × Value → H} {W : World} {v : Value} {d : DataW H} {p : List MemPlace} (hv : Value.okWide Try.prog W .any 0 22 v)
    (h : DataW.Trod enc Try.prog W 0 (fun _ => true) true 22 v d p) : InClocks W v := by
  obtain ⟨a0, len0, cap0, rfl⟩ := okWide_slice Try.underlying22 hv
  obtain ⟨fuel, hf⟩ := h
  rcases Deep.open_slice_pairs Try.underlying22 Try.underlying29 (by kernel_rfl) rfl rfl (by kernel_rfl) (by kernel_rfl) hf with ⟨hcs, _⟩ | ⟨x, len, cap, m, n, V0, V1, D0, D1, P0, P1, hcs, _, hl, hm, hmm, _, hi⟩
  · simp [Value.cells] at hcs
    obtain ⟨rfl, rfl, rfl⟩ := hcs
    exact ⟨_, _, _, rfl, by omega, .inl rfl⟩
  · simp [Value.cells] at hcs
    obtain ⟨rfl, rfl, rfl⟩ := hcs
    unfold maxLen at hm
    refine ⟨_, _, _, rfl, by omega, ?_⟩
    by_cases h0 : len0 = 0
    · exact .inl h0
    · have hmc : len0 ≤ m := by rw [hmm]; simp; exact hl
      obtain ⟨c0, _, _, _⟩ := hi 0 (by omega)
      rw [Nat.zero_mul] at c0
      have hs := spot_none c0
      obtain ⟨b, off, sp⟩ := x
      obtain rfl : sp = none := hs
      have hc : ∀ i, i < len0 → W.cell? ⟨b, off + i * 2, none⟩ = some (V0 i) ∧ W.cell? ⟨b, off + i * 2 + 1, none⟩ = some (V1 i) ∧ (∃ x, V0 i = .int .i64 x) ∧ (∃ y, V1 i = .int .i64 y) := by
        intro i hil
        obtain ⟨q0, q1, t0, t1⟩ := hi i (by omega)
        obtain ⟨x, e0, _, _⟩ := DataW.trod_int Try.underlying2 t0
        obtain ⟨y, e1, _, _⟩ := DataW.trod_int Try.underlying2 t1
        simp only [List.cons.injEq, and_true] at e0 e1
        rw [add_none] at q0 q1
        exact ⟨q0, q1, ⟨x, e0⟩, ⟨y, e1⟩⟩
      obtain ⟨l, hll, hcl⟩ := list_of len0 V0 V1 hc
      have hb : b < W.heap.size := by
        have := hcl 0 (by omega)
        exact block_lt_of_cell this.1
      exact .inr ⟨b, off, l, rfl, hll.symm, hl, by omega, hb, hcl⟩

theorem walk (v : Value) (w : World) (hv : InClocks w v) :
    Calls Try.prog 3 #[v] w fun e w' => e = .returned (.bool true) ∧ Below w.heap.size w w' := by
  obtain ⟨a, len, cap, rfl, hm, hr⟩ := hv
  rcases hr with rfl | ⟨b, off, l, rfl, rfl, hlc, hc2, hb, hc⟩
  · exact divides_empty a cap w
  · by_cases h0 : l.length = 0
    · rw [h0]; exact divides_empty _ cap w
    · by_cases h20 : 20 < l.length
      · exact divides_long _ _ cap w h20 hm
      · by_cases hg : ∀ k, k < l.length → rightC (l.getD k (0, 0))
        · cases H : hyperFrom 1 l with
          | none =>
            refine divides_err _ _ cap w 8 (by omega) (by omega) (by decide) fun w1 hb1 => ?_
            have := hyper_good l b off cap w1 hm (Nat.lt_of_lt_of_le hb hb1.size) (hc.below hb1 hb) hg
            rw [H] at this; exact this
          | some h =>
            have hgm : ∀ c ∈ l, rightC c := by
              intro c hcm
              obtain ⟨k, hk, rfl⟩ := List.getElem_of_mem hcm
              rw [← plain.getD_lt (0, 0) hk]; exact hg k hk
            have D := hyper_div (by omega) (by omega) hgm H
            have hs := split_last (l := l) (by omega)
            have H' := H
            rw [hs] at H'
            obtain ⟨a, A1, A2, A3⟩ := hyper_split H'
            have D2 := hyper_div (by omega) (by omega) (fun c hcm => hgm c (List.mem_of_mem_take hcm)) A1
            exact divides_ok b off cap l w h a (by omega) (by omega) hlc hc2 hb hc hg (fun k hk => by
              rw [plain.getD_lt (0, 0) hk]
              exact Int.emod_eq_zero_of_dvd (D.2.2.2 _ (List.getElem_mem hk))) D.2.1 D.2.2.1 D2.2.1 D2.2.2.1 H A1 (hyper_pair D2.2.2.1 A2 A3)
        · refine divides_err _ _ cap w 12 (by omega) (by omega) (by decide) fun w1 hb1 => ?_
          have hbad : ∃ k, k < l.length ∧ ¬ rightC (l.getD k (0, 0)) := by
            apply Classical.byContradiction; intro hno
            exact hg fun k hk => Classical.byContradiction fun hr => hno ⟨k, hk, hr⟩
          exact hyper_bad l b off cap w1 hm (Nat.lt_of_lt_of_le hb hb1.size) (hc.below hb1 hb) hbad

set_option maxRecDepth 100000 in
theorem lifted (os : Os) (started : os.Started) (H : Type) (enc : TypeId × Value → H) :
    ReturnsInHanded {} Try.checked os 3 .any (Rows.clockDividesSpec.pre6 enc Try.prog Try.f3 Rows.clockDividesRow.domain false) (Rows.clockDividesSpec.post enc Try.prog Try.f3 false true false false) := by
  refine returnsInHanded_of_change (C := Try.checked) own started (by kernel_rfl) Try.func3
    (ChangeSpec.witness6 (enc := enc) (C := Try.checked) false ⟨#[], #[.slice none 0 0], []⟩ 8 (by kernel_rfl) (by kernel_rfl) (by kernel_rfl) (by kernel_rfl)) ?_
  intro W base args ds gs before hval0 hW hcnd _
  have hval : ∀ (j : Nat) t v, Try.f3.params[j]? = some t → args[j]? = some v → Value.okWide Try.prog W .any base t v := hval0
  have hW' := hW
  obtain ⟨p, q, hA0, hV, rfl, hfz, hnd⟩ := hW
  have hA : DataW.TrodAll enc Try.prog W 0 (fun _ => true) true Try.f3.params.toList args.toList ds p := hA0
  rw [Try.params3] at hA hval
  obtain ⟨v0, vs0, d0, ds0, q0, qs0, hargs, rfl, rfl, h0, r0⟩ := trodAll_cons hA
  obtain ⟨rfl, rfl, rfl⟩ := trodAll_nil r0
  obtain rfl : args = #[v0] := by cases args; simp_all
  obtain ⟨rfl, rfl⟩ := trodVars_none hV
  have k0 := h0
  have lt0 : ∀ x ∈ q0, x.block < W.heap.size := by obtain ⟨m, hm⟩ := k0; exact DataW.trod_lt m _ _ _ hm
  have w0 := open_clocks (hval 0 22 v0 rfl rfl) h0
  clear hA0 hval0
  refine (walk v0 W w0).mono fun e W' ⟨he, bel⟩ => ?_
  subst he
  exact ⟨_, rfl, _, _, _, [], _, [], hW', trodAll_mk1 (shut_bool Try.underlying4 _), (trodAll_cons_mk (Below.trod laidOut (by kernel_rfl) (of_decide_eq_true (by kernel_rfl)) k0 bel lt0) trodAll_mk0), rfl, bel.frame _, fun h => by cases h⟩

theorem over : Rows.clockDividesRow.holds Try.pinned (OpenSpec.ofChange Rows.clockDividesSpec) :=
  OpenClaim.holds_of_wide 3 Try.f3 rfl rfl rfl rfl rfl rfl rfl ⟨rfl, rfl, rfl, rfl, rfl⟩ rfl rfl rfl rfl rfl (by kernel_rfl) Try.func3 (by kernel_rfl)
    (of_decide_eq_true (by kernel_rfl)) (by unfold Func.isWrapper; first | (rw [if_pos (by decide +kernel)]; kernel_rfl) | (rw [if_neg (by decide +kernel)]; exact ⟨rfl, rfl⟩))
    (fun os started H enc _ => lifted os started H enc)

theorem proved : Rows.ClockDividesSaid := over
end Go.Proofs.Ytipafnggeckojaa.clockDivides
