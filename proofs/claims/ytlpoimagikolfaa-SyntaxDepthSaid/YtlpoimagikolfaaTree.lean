/-
  Expressions as data, and where they lie.
-/
import Derived.Test.YtlpoimagikolfaaRead4
namespace Go.Proofs.Ytlpoimagikolfaa.syn
open Go.RowKit
set_option linter.unusedVariables false
set_option linter.unusedSimpArgs false

/-- A row of expressions: the first one's kind, name, numbers, arguments and place, and those behind it. -/
inductive PL where
  | nil : PL
  | cons (k : Int) (nm : ByteArray) (n d : Int) (args : PL) (a : Int) (tl : PL) : PL
def PL.len : PL → Nat
  | .nil => 0
  | .cons _ _ _ _ _ _ tl => tl.len + 1
/-- How deep the deepest one is. -/
def PL.ht : PL → Nat
  | .nil => 0
  | .cons _ _ _ _ args _ tl => max (args.ht + 1) tl.ht
structure PE where
  k : Int
  nm : ByteArray
  n : Int
  d : Int
  args : PL
  a : Int
def PE.one (e : PE) : PL := .cons e.k e.nm e.n e.d e.args e.a .nil

/-- A block of expressions of which nothing is frozen, one of those that P names. -/
def OkB (w : World) (P : Nat → Prop) (b : Nat) : Prop := P b ∧ ∃ cs, w.heap[b]? = some (.cells cs 43 (0, 0))

/-- A row of expressions lies from a cell on. -/
def Cells (w : World) (P : Nat → Prop) (b : Nat) : PL → Nat → Prop
  | .nil, _ => True
  | .cons k nm n d args a tl, o => w.cell? ⟨b, o, none⟩ = some (.int .i64 k) ∧ w.cell? ⟨b, o + 1, none⟩ = some (.string nm) ∧ w.cell? ⟨b, o + 2, none⟩ = some (.int .i64 n) ∧
      w.cell? ⟨b, o + 3, none⟩ = some (.int .i64 d) ∧ w.cell? ⟨b, o + 5, none⟩ = some (.int .i64 a) ∧
      (∃ ad cap, w.cell? ⟨b, o + 4, none⟩ = some (.slice ad args.len cap) ∧ args.len ≤ cap ∧ (args = .nil ∨ ∃ b' o', ad = some ⟨b', o', none⟩ ∧ OkB w P b' ∧ Cells w P b' args o')) ∧
      Cells w P b tl (o + 6)

/-- What the address of a slice leads to. -/
def SlA (w : World) (P : Nat → Prop) (args : PL) (ad : Option Addr) : Prop := args = .nil ∨ ∃ b o, ad = some ⟨b, o, none⟩ ∧ OkB w P b ∧ Cells w P b args o

/-- The blocks that P names hold what they held. -/
structure Same (P : Nat → Prop) (w w' : World) : Prop where
  size : w.heap.size ≤ w'.heap.size
  block : ∀ b, P b → b < w.heap.size → w'.heap[b]? = w.heap[b]?
theorem Same.refl (P : Nat → Prop) (w : World) : Same P w w := ⟨Nat.le_refl _, fun _ _ _ => rfl⟩
theorem Same.trans {P : Nat → Prop} {a b c : World} (h : Same P a b) (k : Same P b c) : Same P a c :=
  ⟨Nat.le_trans h.size k.size, fun i hp hi => (k.block i hp (Nat.lt_of_lt_of_le hi h.size)).trans (h.block i hp hi)⟩
theorem Same.drewN {P : Nat → Prop} {a w : World} (h : Same P a w) (n : Nat) : Same P a (w.drewN n) := ⟨h.size, h.block⟩
theorem Same.alloc {P : Nat → Prop} {a w : World} (h : Same P a w) (o : Obj) : Same P a (w.alloc o) := h.trans ⟨by simp, fun b _ hb => Below.heap_alloc _ _ _ hb⟩
theorem Same.setCell {P : Nat → Prop} {a w : World} {b o : Nat} (hp : ¬ P b) (h : Same P a w) (u : Value) : Same P a (w.setCell ⟨b, o, none⟩ u) :=
  h.trans ⟨by simp [World.setCell], fun k hb _ => Below.heap_setCell _ _ _ _ (fun e => hp (by rw [show k = b from e] at hb; exact hb))⟩
theorem Same.upon {P : Nat → Prop} {r : Nat} {a b c : World} (hr : ¬ P r) (k : Upon r b c) (h : Same P a b) : Same P a c :=
  h.trans ⟨k.size, fun i hp hi => k.block i hi (fun e => hr (e ▸ hp))⟩
theorem Same.of_below {P : Nat → Prop} {a b c : World} (k : Below b.heap.size b c) (h : Same P a b) : Same P a c :=
  h.trans ⟨k.size, fun i hp hi => k.block i hi⟩

theorem OkB.lt {w : World} {P : Nat → Prop} {b : Nat} (h : OkB w P b) : b < w.heap.size := by
  obtain ⟨_, cs, h⟩ := h; exact lt_of_block h

theorem OkB.keep {w w' : World} {P : Nat → Prop} {b : Nat} (h : OkB w P b) (hu : Same P w w') : OkB w' P b := by
  have hl := h.lt
  obtain ⟨h1, cs, h⟩ := h; exact ⟨h1, cs, by rw [hu.block b h1 hl]; exact h⟩

theorem Cells.keep {w w' : World} {P : Nat → Prop} (hu : Same P w w') : ∀ (l : PL) (b o : Nat), OkB w P b → Cells w P b l o → Cells w' P b l o := by
  intro l
  induction l with
  | nil => intro b o _ _; trivial
  | cons k nm n d args a tl ih1 ih2 =>
    intro b o hb h
    have hl := hb.lt
    have hc : ∀ o, w'.cell? ⟨b, o, none⟩ = w.cell? ⟨b, o, none⟩ := fun o => World.cell?_of_block (w := w) (a := ⟨b, o, none⟩) (hu.block b hb.1 hl)
    obtain ⟨h0, h1, h2, h3, h5, ⟨ad, cap, h4, hcap, hd⟩, ht⟩ := h
    refine ⟨(hc _).trans h0, (hc _).trans h1, (hc _).trans h2, (hc _).trans h3, (hc _).trans h5, ⟨ad, cap, (hc _).trans h4, hcap, ?_⟩, ih2 b _ hb ht⟩
    rcases hd with hd | ⟨b', o', e, hb', hd⟩
    · exact .inl hd
    · exact .inr ⟨b', o', e, hb'.keep hu, ih1 b' o' hb' hd⟩

theorem Cells.mono {w : World} {P Q : Nat → Prop} (hPQ : ∀ b, P b → b < w.heap.size → Q b) : ∀ (l : PL) (b o : Nat), Cells w P b l o → Cells w Q b l o := by
  intro l
  induction l with
  | nil => intro b o _; trivial
  | cons k nm n d args a tl ih1 ih2 =>
    intro b o h
    obtain ⟨h0, h1, h2, h3, h5, ⟨ad, cap, h4, hcap, hd⟩, ht⟩ := h
    refine ⟨h0, h1, h2, h3, h5, ⟨ad, cap, h4, hcap, ?_⟩, ih2 b _ ht⟩
    rcases hd with hd | ⟨b', o', e, hb', hd⟩
    · exact .inl hd
    · exact .inr ⟨b', o', e, ⟨hPQ b' hb'.1 hb'.lt, hb'.2⟩, ih1 b' o' hd⟩

theorem SlA.keep {w w' : World} {P : Nat → Prop} {args : PL} {ad : Option Addr} (h : SlA w P args ad) (hu : Same P w w') : SlA w' P args ad := by
  rcases h with h | ⟨b, o, e, hb, h⟩
  · exact .inl h
  · exact .inr ⟨b, o, e, hb.keep hu, h.keep hu _ _ _ hb⟩
theorem SlA.mono {w : World} {P Q : Nat → Prop} {args : PL} {ad : Option Addr} (h : SlA w P args ad) (hPQ : ∀ b, P b → b < w.heap.size → Q b) : SlA w Q args ad := by
  rcases h with h | ⟨b, o, e, hb, h⟩
  · exact .inl h
  · exact .inr ⟨b, o, e, ⟨hPQ b hb.1 hb.lt, hb.2⟩, h.mono hPQ⟩

theorem heap_new (w : World) (o : Obj) : (w.alloc o).heap[w.heap.size]? = some o := by
  show (w.heap.push o)[w.heap.size]? = _
  simp

/-- A new row of one expression. -/
theorem SlA.one {w : World} {P : Nat → Prop} {k n d a : Int} {nm : ByteArray} {args : PL} {ad : Option Addr} {cap : Nat} (h : SlA w P args ad) (hcap : args.len ≤ cap) (B : Nat) (hB : B = w.heap.size) (hr : P B) :
    SlA (w.alloc (Obj.cells #[.int .i64 k, .string nm, .int .i64 n, .int .i64 d, .slice ad args.len cap, .int .i64 a] 43)) P (PE.one ⟨k, nm, n, d, args, a⟩) (some ⟨B, 0, none⟩) := by
  subst hB
  refine .inr ⟨_, _, rfl, ⟨hr, _, heap_new w _⟩, ?_⟩
  refine ⟨by simp [go_sem], by simp [go_sem], by simp [go_sem], by simp [go_sem], by simp [go_sem], ⟨ad, cap, by simp [go_sem], hcap, ?_⟩, trivial⟩
  exact h.keep ((Same.refl P w).alloc _)

end Go.Proofs.Ytlpoimagikolfaa.syn
