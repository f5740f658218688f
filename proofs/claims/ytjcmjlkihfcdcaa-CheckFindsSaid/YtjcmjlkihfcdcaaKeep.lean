/-
  What an iterator's round keeps; laws on fences that stand beside the library's.
-/
import Derived.RangeFuncNested
import Derived.RangeFuncBound
import Derived.RangeFuncCalls
import Derived.RangeFuncLeaves
import Derived.OwnWalkIn
import Derived.TacticsInMore
import Derived.LoopNIn
import Derived.LoopIn
import Derived.Test.YtjcmjlkihfcdcaaChecked
import Derived.WalkKit
import Derived.ProofKit
import Derived.Below
import Derived.Lib.Hide
namespace Go.Proofs.Ytjcmjlkihfcdcaa.syn
open Go.RowKit
set_option linter.unusedVariables false

theorem room_none {F : Fence} (hd : F.depth = none) (k : Nat) : F.room k := fun d h => by rw [hd] at h; cases h
theorem YieldAt.deep {F : Fence} (hd : F.depth = none) {m : Nat} (m' : Nat) {P : Program} {l : Nat} {args : Array Value} {W : World} {R : Ending → World → Prop} (h : YieldAt F m P l args W R) : YieldAt F m' P l args W R := by
  obtain ⟨fn, tmps, assign, body, hy, hR⟩ := h
  exact ⟨fn, tmps, assign, body, hy, ⟨hR.1, fun c cs _ => hR.2 c cs (room_none hd _)⟩⟩

/-- What a round that goes on keeps: what lay below, and whatever cells there were. -/
structure KC (n₀ : Nat) (W W' : World) : Prop where
  below : Below n₀ W W'
  same : ∀ (k : Nat) (o : Obj), W.heap[k]? = some o → o.isCells = true → W'.heap[k]? = some o
theorem KC.refl (n₀ : Nat) (W : World) : KC n₀ W W := ⟨Below.refl _ _, fun _ _ h _ => h⟩
theorem KC.trans {n₀ : Nat} {A B C : World} (h : KC n₀ A B) (k : KC n₀ B C) : KC n₀ A C := ⟨h.below.trans k.below, fun i o hi ho => k.same i o (h.same i o hi ho) ho⟩
theorem KC.alloc {n₀ : Nat} {A W : World} (h : KC n₀ A W) (hn : n₀ ≤ W.heap.size) (o : Obj) : KC n₀ A (W.alloc o) :=
  h.trans ⟨(Below.refl _ _).alloc hn _, fun k x hk _ => (Below.heap_alloc W o k (Array.getElem?_eq_some_iff.1 hk).1).trans hk⟩
theorem KC.putObj {n₀ : Nat} (W : World) (l : Nat) (o o' : Obj) (hl : n₀ ≤ l) (h : W.heap[l]? = some o) (hc : o.isCells = false) : KC n₀ W (W.putObj l o') :=
  ⟨⟨rfl, rfl, rfl, by simp, fun k hk => World.putObj_heap_other (fun e => by omega)⟩, fun k x hk hx => (World.putObj_heap_other (fun e => by subst e; rw [h] at hk; injection hk with hk; subst hk; rw [hc] at hx; cases hx)).trans hk⟩
theorem KC.of_below {n₀ : Nat} {A W W' : World} (h : KC n₀ A W) (hb : Below W.heap.size W W') (hn : n₀ ≤ W.heap.size) : KC n₀ A W' :=
  h.trans ⟨hb.mono hn, fun k o hk _ => (hb.block k (lt_of_block hk)).trans hk⟩

theorem abide_alloc {β : Type} {B : Nat} {J : β → World → Prop} (h : AbidesFrom B J) {s : β} {W : World} (hs : J s W) (o : Obj) : J s (W.alloc o) :=
  h s W _ none hs (World.grownBy_alloc W o none) (fun r e => by cases e)

end Go.Proofs.Ytjcmjlkihfcdcaa.syn
