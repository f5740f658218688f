/-
  The reference's Clock of an expression: what it speaks of; a name's clock.
-/
import Derived.Deep.DeepCutAuto
import Derived.Deep.CutRange
import Derived.Deep.RegionWith
import Derived.Test.YtjcmjlkihfcdcaaRef6c
import Derived.Test.YtjcmjlkihfcdcaaRef6d
import Derived.Test.YtjcmjlkihfcdcaaRef02A
import Derived.Test.YtjcmjlkihfcdcaaChkP
namespace Go.Proofs.Ytjcmjlkihfcdcaa.rclk
open Go.RowKit syn
set_option linter.unusedVariables false
set_option linter.unusedSimpArgs false

/-- A slice of clocks in hand. -/
def ClkA (w : World) (al : Option Addr) (C : List (Int × Int)) : Prop := ∀ k, k < C.length → ∃ b o, al = some ⟨b, o, none⟩ ∧ b < w.heap.size ∧
  w.cell? ⟨b, o + k * 2, none⟩ = some (.int .i64 (C.getD k (0, 0)).1) ∧ w.cell? ⟨b, o + k * 2 + 1, none⟩ = some (.int .i64 (C.getD k (0, 0)).2)
theorem ClkA.below {B : Nat} {w w1 : World} {al : Option Addr} {C : List (Int × Int)} (h : ClkA w al C) (hb : Below B w w1) (hB : w.heap.size ≤ B) : ClkA w1 al C := by
  intro k hk
  obtain ⟨b, o, rfl, h1, h2, h3⟩ := h k hk
  have hlt : b < B := by omega
  exact ⟨b, o, rfl, Nat.lt_of_lt_of_le h1 hb.size, (hb.cell (p := ⟨b, _, none⟩) hlt).trans h2, (hb.cell (p := ⟨b, _, none⟩) hlt).trans h3⟩
/-- A name's clock: an input's, or one of those that are laid. -/
def envC (p : PG) (C : List (Int × Int)) (nm : ByteArray) : Int × Int :=
  if (flowIx p nm).toNat < p.ins.length then ((p.ins[(flowIx p nm).toNat]?).map (fun x => (x.per, x.ph))).getD (0, 0) else C.getD ((flowIx p nm).toNat - p.ins.length) (0, 0)
def ClkAns (r : Option (Int × Int)) (x : Ending) : Prop := ∃ (p f : Int) (b : Bool), x = .returned (.tuple #[.agg #[.int .i64 p, .int .i64 f], .bool b]) ∧ r = (if b = true then some (p, f) else none)
def ClockSaid (p : PG) (an ai af ao : Option Addr) (cn ci cf co : Nat) (C : List (Int × Int)) (e : PE) : Prop := ∀ (w : World) (ad : Option Addr) (cap : Nat) (al : Option Addr) (cl : Nat), AP w p an ai af ao cn ci cf co → AE w e ad cap → ClkA w al C →
  exprOK e = true → nm1 p e.k e.nm = true → nmL p e.args = true → ahE p ((p.ins.length : Int) + (C.length : Int)) e = true →
  Calls Try.prog 11 #[pv p an ai af ao cn ci cf co, .slice al C.length cl, .agg #[.int .i64 e.k, .string e.nm, .int .i64 e.n, .int .i64 e.d, .slice ad e.args.len cap, .int .i64 e.a]] w fun x w' => ClkAns (rclkE (envC p C) e) x ∧ Below w.heap.size w w'

theorem cells2c {w : World} {b : Nat} {v0 v1 : Value} {t : TypeId} (h : w.heap[b]? = some (.cells #[v0, v1] t (0, 0))) :
    (w.cell? ⟨b, 0, none⟩ = some v0 ∧ w.cell? ⟨b, 1, none⟩ = some v1) ∧ (w.frozen? ⟨b, 0, none⟩ = false ∧ w.frozen? ⟨b, 1, none⟩ = false) ∧ b < w.heap.size := by
  refine ⟨⟨?_, ?_⟩, ⟨?_, ?_⟩, (Array.getElem?_eq_some_iff.1 h).1⟩ <;> first | (simp [World.cell?, h]; done) | simp [World.frozen?, h]

/-- The boxes of a call of Clock: the program's, the expression's, the answer's. -/
structure CW (w : World) (p : PG) (an ai af ao : Option Addr) (cn ci cf co : Nat) (e : PE) (ad : Option Addr) (cap : Nat) (W : World) : Prop where
  below : Below w.heap.size w W
  pbox : PBox W w.heap.size p an ai af ao cn ci cf co
  ebox : W.heap[w.heap.size + 1]? = some (.cells #[.int .i64 e.k, .string e.nm, .int .i64 e.n, .int .i64 e.d, .slice ad e.args.len cap, .int .i64 e.a] 39 (0, 0))
  rbox : W.heap[w.heap.size + 1 + 1]? = some (.cells #[.int .i64 0, .int .i64 0] 43 (0, 0))
theorem CW.keep {w : World} {p : PG} {an ai af ao : Option Addr} {cn ci cf co : Nat} {e : PE} {ad : Option Addr} {cap : Nat} {W W' : World} (h : CW w p an ai af ao cn ci cf co e ad cap W) (hb : Below W.heap.size W W') : CW w p an ai af ao cn ci cf co e ad cap W' :=
  ⟨h.below.trans (hb.mono h.below.size), (hb.block _ (lt_of_block h.pbox)).trans h.pbox, (hb.block _ (lt_of_block h.ebox)).trans h.ebox, (hb.block _ (lt_of_block h.rbox)).trans h.rbox⟩
theorem CW.lt {w : World} {p : PG} {an ai af ao : Option Addr} {cn ci cf co : Nat} {e : PE} {ad : Option Addr} {cap : Nat} {W : World} (h : CW w p an ai af ao cn ci cf co e ad cap W) : w.heap.size + 1 + 1 < W.heap.size := lt_of_block h.rbox
theorem CW.alloc {w : World} {p : PG} {an ai af ao : Option Addr} {cn ci cf co : Nat} {e : PE} {ad : Option Addr} {cap : Nat} {W : World} (h : CW w p an ai af ao cn ci cf co e ad cap W) (o : Obj) : CW w p an ai af ao cn ci cf co e ad cap (W.alloc o) := h.keep ((Below.refl _ _).alloc (Nat.le_refl _) _)
theorem CW.drew {w : World} {p : PG} {an ai af ao : Option Addr} {cn ci cf co : Nat} {e : PE} {ad : Option Addr} {cap : Nat} {W : World} (h : CW w p an ai af ao cn ci cf co e ad cap W) : CW w p an ai af ao cn ci cf co e ad cap W.drew := h.keep (Below.drew (Below.refl _ _))
theorem CW.set {w : World} {p : PG} {an ai af ao : Option Addr} {cn ci cf co : Nat} {e : PE} {ad : Option Addr} {cap : Nat} {W : World} (h : CW w p an ai af ao cn ci cf co e ad cap W) {b o : Nat} (hb : w.heap.size + 1 + 1 < b) (v : Value) : CW w p an ai af ao cn ci cf co e ad cap (W.setCell ⟨b, o, none⟩ v) :=
  ⟨h.below.setCell (p := ⟨b, o, none⟩) (by show w.heap.size ≤ b; omega) _, (((Upon.refl b W).setCell (p := ⟨b, o, none⟩) (Or.inl rfl) v).block _ (lt_of_block h.pbox) (by omega)).trans h.pbox, (((Upon.refl b W).setCell (p := ⟨b, o, none⟩) (Or.inl rfl) v).block _ (lt_of_block h.ebox) (by omega)).trans h.ebox, (((Upon.refl b W).setCell (p := ⟨b, o, none⟩) (Or.inl rfl) v).block _ (lt_of_block h.rbox) (by omega)).trans h.rbox⟩
theorem CW.new (w : World) (nodes : List ND) (ins : List IN) (flows : List FL) (outs : List OU) (an ai af ao : Option Addr) (cn ci cf co : Nat) (k : Int) (nm : ByteArray) (n d a : Int) (args : PL) (ad : Option Addr) (cap : Nat) :
    CW w ⟨nodes, ins, flows, outs⟩ an ai af ao cn ci cf co ⟨k, nm, n, d, args, a⟩ ad cap (((w.alloc (.cells #[.slice an nodes.length cn, .slice ai ins.length ci, .slice af flows.length cf, .slice ao outs.length co] 27)).alloc (.cells #[.int .i64 k, .string nm, .int .i64 n, .int .i64 d, .slice ad args.len cap, .int .i64 a] 39)).alloc (.cells #[.int .i64 0, .int .i64 0] 43)) :=
  ⟨(((Below.refl _ _).alloc (Nat.le_refl _) _).alloc (by simp) _).alloc (by simp; omega) _, (Below.heap_alloc _ _ _ (by simp; omega)).trans ((Below.heap_alloc _ _ _ (by simp)).trans (heap_new w _)), (Below.heap_alloc _ _ _ (by simp)).trans (by simpa using heap_new (w.alloc _) _), by simpa using heap_new ((w.alloc _).alloc _) _⟩
end Go.Proofs.Ytjcmjlkihfcdcaa.rclk
