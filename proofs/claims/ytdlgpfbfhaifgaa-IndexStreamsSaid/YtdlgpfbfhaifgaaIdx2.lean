/-
  Contracts of slices.Backward over operators, and of the package index's Back.
-/
import Derived.Shelf.Abstract
import Derived.Test.YtdlgpfbfhaifgaaKeep
import Derived.Test.YtdlgpfbfhaifgaaIdx1
namespace Go.Proofs.Ytdlgpfbfhaifgaa.index
open Go.RowKit Go.Shelf clock syn
set_option linter.unusedVariables false
set_option linter.unusedSimpArgs false
attribute [local go_sem] Oper.semAt_some

/-! ### The iterator -/
/-- What a round that goes on keeps: what lay below, and the iterator's own box. -/
structure KB (n₀ Bs : Nat) (W W' : World) : Prop where
  below : Below n₀ W W'
  box : ∀ (o : Obj), W.heap[Bs]? = some o → o.isCells = true → W'.heap[Bs]? = some o
theorem KB.refl (n₀ Bs : Nat) (W : World) : KB n₀ Bs W W := ⟨Below.refl _ _, fun _ h _ => h⟩
theorem KB.trans {n₀ Bs : Nat} {A B C : World} (h : KB n₀ Bs A B) (k : KB n₀ Bs B C) : KB n₀ Bs A C := ⟨h.below.trans k.below, fun o ho hc => k.box o (h.box o ho hc) hc⟩
theorem KB.alloc {n₀ Bs : Nat} {A W : World} (h : KB n₀ Bs A W) (hn : n₀ ≤ W.heap.size) (o : Obj) : KB n₀ Bs A (W.alloc o) :=
  h.trans ⟨(Below.refl _ _).alloc hn _, fun x hk _ => (Below.heap_alloc W o Bs (Array.getElem?_eq_some_iff.1 hk).1).trans hk⟩
theorem KB.putObj {n₀ Bs : Nat} (W : World) (l : Nat) (o o' : Obj) (hl : n₀ ≤ l) (h : W.heap[l]? = some o) (hc : o.isCells = false) : KB n₀ Bs W (W.putObj l o') :=
  ⟨⟨rfl, rfl, rfl, by simp, fun k hk => World.putObj_heap_other (fun e => by omega)⟩, fun x hk hx => (World.putObj_heap_other (fun e => by subst e; rw [h] at hk; injection hk with hk; subst hk; rw [hc] at hx; cases hx)).trans hk⟩
theorem KB.of_below {n₀ Bs : Nat} {A W W' : World} (h : KB n₀ Bs A W) (hb : Below W.heap.size W W') (hn : n₀ ≤ W.heap.size) : KB n₀ Bs A W' :=
  h.trans ⟨hb.mono hn, fun o hk _ => (hb.block Bs (lt_of_block hk)).trans hk⟩
theorem KB.setCell {n₀ Bs : Nat} {A W : World} (h : KB n₀ Bs A W) {b : Nat} (hn : n₀ ≤ b) (hne : Bs ≠ b) (v : Value) : KB n₀ Bs A (W.setCell ⟨b, 0, none⟩ v) :=
  h.trans ⟨(Below.refl _ _).setCell (p := ⟨b, 0, none⟩) hn v, fun o hk _ => ((grownBy_setCell' W b v).block Bs (lt_of_block hk) (by simp; exact hne)).trans hk⟩

structure BX (l : List Op3) where
  i : Int
  k : Int
  n : Int
  d : Int
  mem : (k, n, d) ∈ l
def BX.o {l : List Op3} (x : BX l) : Op3 := (x.k, x.n, x.d)
def BX.vs {l : List Op3} (x : BX l) : Array Value := #[.int .i64 x.i, .agg #[.int .i64 x.k, .int .i64 x.n, .int .i64 x.d]]

def BkRel (n₀ Bs : Nat) (l : List Op3) (J : List (BX l) → World → Prop) (W : World) (v : Value) (wr : World) : Prop :=
  ∃ (k : Nat) (ys : List (BX l)), v = .int .i64 ((k : Int) - 1) ∧ k ≤ l.length ∧ ys.map (·.o) ++ (l.take k).reverse = l.reverse ∧ J ys wr ∧ KB n₀ Bs W wr

theorem take_rev {l : List Op3} {j : Nat} (h : j < l.length) : (l.take (j + 1)).reverse = l.getD j (0, 0, 0) :: (l.take j).reverse := by
  rw [List.take_succ_eq_append_getElem h, List.reverse_append, ← plain.getD_lt (0, 0, 0) h]; rfl

set_option maxRecDepth 100000 in
set_option maxHeartbeats 4000000 in
theorem backward1_in {W0 : World} (F : Fence) (hd : F.depth = none) (hG : F.fn 25) (hro : F.round = none) (n l B Bs : Nat) (ops : List Op3) (a : Option Addr) (cap : Nat)
    (hlen : ops.length ≤ 9223372036854775807) (hA : OpA W0 a ops) (J Jx : List (BX ops) → World → Prop) (hJ : AbidesFrom B J)
    (hY : ∀ m pre x W, J pre W → pre.length < ops.length → YieldAt F m Try.prog l x.vs W fun e W' => (e = .returned (.bool true) ∧ J (pre ++ [x]) W' ∧ KB W0.heap.size Bs W W') ∨ (e = .returned (.bool false) ∧ Jx (pre ++ [x]) W'))
    (W : World) (hB : Below W0.heap.size W0 W) (hbx : Boxed W Bs 22 (.slice a ops.length cap)) (h0 : J [] W) :
    CallsIn F n Try.prog 25 #[.func (.yield l) #[] #[], .pointer (some ⟨Bs, 0, none⟩)] W fun e W' => (∃ v, e = .returned v) ∧
      ((∃ xs : List (BX ops), xs.map (·.o) = ops.reverse ∧ J xs W') ∨ (∃ pre : List (BX ops), pre.map (·.o) <+: ops.reverse ∧ Jx pre W')) := by
  have hdd : ∀ k : Nat, (F.depth.isSome = true → 1 ≤ k) := fun k h => by rw [hd] at h; cases h
  have HA := Lib.hid hA
  have HB := Lib.hid hB
  have HJ0 := Lib.hid h0
  have HBX := Lib.hid hbx
  have hcx := hbx.cell
  have hsz0 := hB.size
  have v0 : IntKind.i64.wrap ((ops.length : Int) - 1) = (ops.length : Int) - 1 := IntWalk.i64_in _ (by omega)
  have HY := Lib.hid hY
  clear hA hB h0 hbx hY
  refine callsIn_of_wp Try.func25 rfl hG ?_ hro
  simp only [Try.ntmps25, List.size_toArray, List.length_cons, List.length_nil, Nat.reduceAdd, Nat.reduceSub, Array.replicate_succ, Array.replicate_zero, List.push_toArray, List.append_toArray, List.nil_append, List.cons_append]
  gi_wp2
  clear hcx
  gi_loopw [3] (fun v wr => Hid (BkRel W0.heap.size Bs ops J W v wr)) (fun i _ => (intOf i + 1).toNat)
  case atStart => exact ⟨ops.length, [], by first | rfl | (rw [v0]) | (go_num; rw [v0]), Nat.le_refl _, by simp, HJ0.out, KB.refl _ _ _⟩
  case round =>
    obtain ⟨k, ys, hv, hk, hys, hj, hkc⟩ := hrel.out
    clear hrel
    have hbw : Below W0.heap.size W0 wr := HB.out.trans hkc.below
    have HBW := Lib.hid hbw
    have HK := Lib.hid hkc
    have HJY := Lib.hid hj
    have hszw := hbw.size
    have hcx : wr.cell? ⟨Bs, 0, none⟩ = some (.slice a ops.length cap) := Boxed.cell (t := 22) (hkc.box _ HBX.out rfl)
    cases k with
    | zero =>
      obtain rfl := hv
      have e1 : ((0 : Nat) : Int) - 1 = -1 := rfl
      have HYS := Lib.hid (show ys.map (·.o) = ops.reverse by simpa using hys)
      clear hbw hkc hj hys
      try rw [e1]
      gi_wp2
      go_end0
      exact ⟨⟨_, rfl⟩, .inl ⟨ys, HYS.out, HJY.out⟩⟩
    | succ j =>
      have e1 : ((j + 1 : Nat) : Int) - 1 = (j : Int) := by omega
      rw [e1] at hv
      obtain rfl := hv
      clear e1
      have hjl : j < ops.length := by omega
      obtain ⟨b, off, rfl, hb0, c0, c1, c2⟩ := (HA.out.below hbw (Nat.le_refl _)) j hjl
      have hmem : ops.getD j (0, 0, 0) ∈ ops := by rw [plain.getD_lt _ hjl]; exact List.getElem_mem hjl
      rw [take_rev hjl] at hys
      obtain ⟨o, ho⟩ : ∃ o, ops.getD j (0, 0, 0) = o := ⟨_, rfl⟩
      rw [ho] at c0 c1 c2 hys hmem
      clear ho
      obtain ⟨ok, on, od⟩ := o
      simp only at c0 c1 c2
      have hlys := congrArg List.length hys
      simp only [List.length_append, List.length_map, List.length_cons, List.length_reverse] at hlys
      obtain ⟨X, hX1, hX2⟩ : ∃ X : BX ops, X.vs = #[.int .i64 (j : Int), .agg #[.int .i64 ok, .int .i64 on, .int .i64 od]] ∧ X.o = (ok, on, od) := ⟨⟨j, ok, on, od, hmem⟩, rfl, rfl⟩
      obtain ⟨fn, tmps, assign, body, hy, hR⟩ := HY.out (n - 1) ys X wr hj (by omega)
      rw [hX1] at hy
      have HR := Lib.hid hR
      have HX2 := Lib.hid hX2
      have HYS := Lib.hid hys
      clear hbw hkc hj hys hR hX1 hX2 hlys hmem
      gi_wp2
      refine HR.out.mono ?_
      rintro e W1 (⟨rfl, hJ1, hk1⟩ | ⟨rfl, hJx⟩)
      · have HJ1 := Lib.hid hJ1
        have HK1 := Lib.hid (HK.out.trans hk1)
        clear hJ1 hk1
        gi_wp2
        go_roundw
        case rel => exact ⟨j, ys ++ [X], by go_num, by omega, by rw [List.map_append, ← HYS.out]; simp [HX2.out], HJ1.out, HK1.out⟩
        case measure => first | (simp [intOf]; done) | (simp [intOf]; omega)
      · gi_wp2
        refine bodyPost_ret (results_none rfl _ _ _) rfl ?_
        refine ⟨⟨_, rfl⟩, .inr ⟨ys ++ [X], ?_, hJx⟩⟩
        refine ⟨(ops.take j).reverse, ?_⟩
        rw [List.map_append, ← HYS.out]; simp [HX2.out]

theorem backward_stops {W0 : World} (F : Fence) (hd : F.depth = none) (hG : F.fn 25) (hro : F.round = none) (n Bs : Nat) (ops : List Op3) (a : Option Addr) (cap : Nat)
    (hlen : ops.length ≤ 9223372036854775807) (hA : OpA W0 a ops) (w : World) (hB : Below W0.heap.size W0 w) (hbx : Boxed w Bs 22 (.slice a ops.length cap)) :
    SeqStopsK F n Try.prog 25 #[.pointer (some ⟨Bs, 0, none⟩)] (fun x : BX ops => x.vs) (KB W0.heap.size Bs) (fun xs => xs.map (·.o) = ops.reverse) (fun pre => pre.map (·.o) <+: ops.reverse) ops.length w := fun l J Jx W hW hJ hJx hY h0 =>
  backward1_in F hd hG hro n l W.heap.size Bs ops a cap hlen hA J Jx hJ (fun m pre x W hj hl => YieldAt.deep hd m (hY pre x W hj hl)) W (hB.trans (hW.mono hB.size)) ((hW.block Bs hbx.lt).trans hbx) h0

theorem backward_any {w : World} (a : Option Addr) (n c : Nat) : Calls Try.prog 17 #[.slice a n c] w fun e w' => e = .returned (.func (.func 25) #[] #[.pointer (some ⟨w.heap.size, 0, none⟩)]) ∧ w' = w.alloc (.cells #[.slice a n c] 22) := by
  go_enter Try.func17, Try.ntmps17
  go_wp2
  go_ret
  exact ⟨rfl, rfl⟩

end Go.Proofs.Ytdlgpfbfhaifgaa.index
