/-
  The reader of the package syntax: what its memory holds, what its calls may turn.
-/
import Derived.Test.YtlpoimagikolfaaChecked
import Derived.Test.YtlpoimagikolfaaShelf
import Derived.WalkKit
import Derived.ProofKit
import Derived.OpenShut
import Derived.Handy
import Derived.BigQuiet
import Derived.OneCell
import Derived.WalkSpells
import Derived.WalkLawsBesides
import Derived.Deep.QuietTactic
import Derived.Deep.RegionWith
import Derived.Lib.Hide
namespace Go.Proofs.Ytlpoimagikolfaa.syn
open Go.RowKit
set_option linter.unusedVariables false

/-- All blocks but one are as they were; the streams too; none has gone. -/
structure Upon (r : Nat) (w w' : World) : Prop where
  os : w'.os = w.os
  tape : w'.tape = w.tape
  output : w'.output = w.output
  size : w.heap.size ≤ w'.heap.size
  block : ∀ k, k < w.heap.size → k ≠ r → w'.heap[k]? = w.heap[k]?

theorem Upon.refl (r : Nat) (w : World) : Upon r w w := ⟨rfl, rfl, rfl, Nat.le_refl _, fun _ _ _ => rfl⟩
theorem Upon.trans {r : Nat} {a b c : World} (h : Upon r a b) (k : Upon r b c) : Upon r a c :=
  ⟨k.os.trans h.os, k.tape.trans h.tape, k.output.trans h.output, Nat.le_trans h.size k.size, fun i hi hr => (k.block i (Nat.lt_of_lt_of_le hi h.size) hr).trans (h.block i hi hr)⟩
theorem Upon.of_below {r : Nat} {a b : World} (h : Below a.heap.size a b) : Upon r a b := ⟨h.os, h.tape, h.output, h.size, fun k hk _ => h.block k hk⟩
theorem Upon.below {r B : Nat} {a b : World} (h : Upon r a b) (h1 : B ≤ a.heap.size) (h2 : B ≤ r) : Below B a b :=
  ⟨h.os, h.tape, h.output, h.size, fun k hk => h.block k (by omega) (by omega)⟩
theorem Upon.drew {r : Nat} {a w : World} (h : Upon r a w) : Upon r a w.drew := ⟨h.os, h.tape, h.output, h.size, h.block⟩
theorem Upon.drewN {r : Nat} {a w : World} (h : Upon r a w) (n : Nat) : Upon r a (w.drewN n) := ⟨h.os, h.tape, h.output, h.size, h.block⟩
theorem Upon.alloc {r : Nat} {a w : World} (h : Upon r a w) (o : Obj) : Upon r a (w.alloc o) :=
  h.trans ⟨rfl, rfl, rfl, by simp, fun k hk _ => Below.heap_alloc _ _ _ hk⟩
theorem Upon.setCell {r : Nat} {a w : World} (h : Upon r a w) {p : Addr} (hp : p.block = r ∨ a.heap.size ≤ p.block) (u : Value) : Upon r a (w.setCell p u) :=
  ⟨h.os, h.tape, h.output, by simpa [World.setCell] using h.size, fun k hk hr => by rw [Below.heap_setCell _ _ _ _ (by omega)]; exact h.block k hk hr⟩
theorem Upon.setAt {r : Nat} {a w : World} (h : Upon r a w) {b o : Nat} (hp : b = r ∨ a.heap.size ≤ b) (u : Value) : Upon r a (w.setCell ⟨b, o, none⟩ u) := h.setCell (p := ⟨b, o, none⟩) hp u
theorem below_setAt {B : Nat} {a w : World} (h : Below B a w) {b o : Nat} (hp : B ≤ b) (u : Value) : Below B a (w.setCell ⟨b, o, none⟩ u) := h.setCell (p := ⟨b, o, none⟩) hp u
theorem Upon.cell {r : Nat} {w w' : World} (h : Upon r w w') {p : Addr} (hp : p.block < w.heap.size) (hr : p.block ≠ r) : w'.cell? p = w.cell? p := World.cell?_of_block (w := w) (h.block p.block hp hr)
theorem Upon.frozen {r : Nat} {w w' : World} (h : Upon r w w') {p : Addr} (hp : p.block < w.heap.size) (hr : p.block ≠ r) : w'.frozen? p = w.frozen? p := World.frozen?_of_block (w := w) (h.block p.block hp hr)

theorem bcell {W w1 : World} (hb : Below W.heap.size W w1) : (∀ b o, b < W.heap.size → w1.cell? ⟨b, o, none⟩ = W.cell? ⟨b, o, none⟩) ∧ (∀ b o, b < W.heap.size → w1.frozen? ⟨b, o, none⟩ = W.frozen? ⟨b, o, none⟩) :=
  ⟨fun b o h => hb.cell (p := ⟨b, o, none⟩) h, fun b o h => hb.frozen (p := ⟨b, o, none⟩) h⟩
theorem ucell {r : Nat} {W w1 : World} (hb : Upon r W w1) : (∀ b o, b < W.heap.size → b ≠ r → w1.cell? ⟨b, o, none⟩ = W.cell? ⟨b, o, none⟩) ∧ (∀ b o, b < W.heap.size → b ≠ r → w1.frozen? ⟨b, o, none⟩ = W.frozen? ⟨b, o, none⟩) :=
  ⟨fun b o h hr => hb.cell (p := ⟨b, o, none⟩) h hr, fun b o h hr => hb.frozen (p := ⟨b, o, none⟩) h hr⟩
theorem sz_of {B k : Nat} {a w : World} (h : Below B a w) (hk : k < a.heap.size) : k < w.heap.size := Nat.lt_of_lt_of_le hk h.size
theorem below_drewN {B : Nat} {a w : World} (h : Below B a w) (n : Nat) : Below B a (w.drewN n) := ⟨h.os, h.tape, h.output, h.size, h.block⟩

/-- A token. -/
structure Tok where
  k : Int
  t : ByteArray
  n : Int
  a : Int
def Tok.v (x : Tok) : Value := .agg #[.int .i64 x.k, .string x.t, .int .i64 x.n, .int .i64 x.a]

/-- A row of tokens lies from a cell on. -/
def ToksAt (w : World) (tb : Nat) : Nat → List Tok → Prop
  | _, [] => True
  | o, x :: l => w.cell? ⟨tb, o, none⟩ = some (.int .i64 x.k) ∧ w.cell? ⟨tb, o + 1, none⟩ = some (.string x.t) ∧ w.cell? ⟨tb, o + 2, none⟩ = some (.int .i64 x.n) ∧ w.cell? ⟨tb, o + 3, none⟩ = some (.int .i64 x.a) ∧ ToksAt w tb (o + 4) l

theorem ToksAt.keep {w w' : World} {tb : Nat} (hc : ∀ o, w'.cell? ⟨tb, o, none⟩ = w.cell? ⟨tb, o, none⟩) : ∀ (l : List Tok) (o : Nat), ToksAt w tb o l → ToksAt w' tb o l
  | [], _, _ => trivial
  | x :: l, o, h => ⟨(hc _).trans h.1, (hc _).trans h.2.1, (hc _).trans h.2.2.1, (hc _).trans h.2.2.2.1, ToksAt.keep hc l _ h.2.2.2.2⟩

/-- What a slice of tokens reads as. -/
def ToksV (w : World) (r : Nat) (v : Value) (l : List Tok) : Prop :=
  (∃ a cap, v = .slice a 0 cap ∧ l = []) ∨ ∃ tb o cap, v = .slice (some ⟨tb, o, none⟩) l.length cap ∧ l ≠ [] ∧ l.length ≤ cap ∧ tb < r ∧ ToksAt w tb o l

def wordsL : List ByteArray := [⟨#[110, 111, 100, 101]⟩, ⟨#[98, 117, 100, 103, 101, 116]⟩, ⟨#[105, 110, 112, 117, 116]⟩, ⟨#[112, 101, 114, 105, 111, 100]⟩, ⟨#[112, 104, 97, 115, 101]⟩, ⟨#[102, 108, 111, 119]⟩, ⟨#[102, 98, 121]⟩, ⟨#[116, 97, 105, 108]⟩, ⟨#[111, 117, 116, 112, 117, 116]⟩, ⟨#[100, 101, 97, 100, 108, 105, 110, 101]⟩]

/-- What the reader has before it, and the first fault. -/
structure St where
  toks : List Tok
  at_ : Int
  err : Int

/-- The reader's memory. -/
structure Rd (w : World) (r : Nat) (en : Int) (S : St) : Prop where
  held : ∃ tv wb, w.heap[r]? = some (.cells #[tv, .slice (some ⟨wb, 0, none⟩) 10 10, .int .i64 en, .int .i64 S.at_, .int .i64 S.err] 71 (0, 0)) ∧ ToksV w r tv S.toks ∧
    wb < r ∧ (∀ j, j < 10 → w.cell? ⟨wb, 0 + j, none⟩ = some (.string (wordsL.getD j ByteArray.empty)))
  small : S.toks.length ≤ 4000

theorem ToksV.keep {w w' : World} {r : Nat} {v : Value} {l : List Tok} (h : ToksV w r v l) (hc : ∀ b o, b < r → w'.cell? ⟨b, o, none⟩ = w.cell? ⟨b, o, none⟩) : ToksV w' r v l := by
  rcases h with h | ⟨tb, o, cap, e, hn, hcap, h1, h3⟩
  · exact .inl h
  · exact .inr ⟨tb, o, cap, e, hn, hcap, h1, ToksAt.keep (fun o => hc tb o h1) l o h3⟩

/-- Stores behind the reader's own block: it stands as it did. -/
theorem Rd.below {w w' : World} {r : Nat} {en : Int} {S : St} (h : Rd w r en S) (hb : Below (r + 1) w w') : Rd w' r en S := by
  obtain ⟨⟨tv, wb, h1, h2, h4, h5⟩, h6⟩ := h
  refine ⟨⟨tv, wb, by rw [hb.block r (by omega)]; exact h1, h2.keep (fun b o hbs => hb.cell (p := ⟨b, o, none⟩) (by show b < r + 1; omega)), h4, fun j hj => ?_⟩, h6⟩
  rw [hb.cell (p := ⟨wb, 0 + j, none⟩) (by show wb < r + 1; omega)]; exact h5 j hj

theorem Rd.lt {w : World} {r : Nat} {en : Int} {S : St} (h : Rd w r en S) : r < w.heap.size := by
  obtain ⟨⟨tv, wb, h1, _⟩, _⟩ := h
  exact lt_of_block h1

def St.peek (en : Int) (S : St) : Tok := match S.toks with | [] => ⟨0, ⟨#[]⟩, 0, en⟩ | x :: _ => x
def St.next (S : St) : St := ⟨S.toks.tail, S.at_, S.err⟩
def St.fail (a e : Int) (S : St) : St := if S.err = 0 then ⟨[], a, e⟩ else ⟨[], S.at_, S.err⟩

theorem blk_cells {w : World} {r : Nat} {a b c d e : Value} {t : TypeId} (h : w.heap[r]? = some (.cells #[a, b, c, d, e] t (0, 0))) :
    w.cell? ⟨r, 0, none⟩ = some a ∧ w.cell? ⟨r, 1, none⟩ = some b ∧ w.cell? ⟨r, 2, none⟩ = some c ∧ w.cell? ⟨r, 3, none⟩ = some d ∧ w.cell? ⟨r, 4, none⟩ = some e := by
  refine ⟨?_, ?_, ?_, ?_, ?_⟩ <;> simp [World.cell?, h]
theorem blk_free {w : World} {r : Nat} {a b c d e : Value} {t : TypeId} (h : w.heap[r]? = some (.cells #[a, b, c, d, e] t (0, 0))) : ∀ o, w.frozen? ⟨r, o, none⟩ = false := by
  intro o; simp [World.frozen?, h]
theorem blk_set {w : World} {r : Nat} {a b c d e : Value} {t : TypeId} (h : w.heap[r]? = some (.cells #[a, b, c, d, e] t (0, 0))) (o : Nat) (u : Value) :
    (w.setCell ⟨r, o, none⟩ u).heap[r]? = some (.cells (#[a, b, c, d, e].setIfInBounds o u) t (0, 0)) := by
  have hlt := lt_of_block h
  have h' : w.heap[r] = .cells #[a, b, c, d, e] t (0, 0) := by simpa [Array.getElem?_eq_getElem hlt] using h
  show (w.heap.modify r _)[r]? = _
  rw [Array.getElem?_eq_getElem (by simpa using hlt), Array.getElem_modify_self, h']
  rfl

theorem peek_any {w : World} {r : Nat} {en : Int} {S : St} (h : Rd w r en S) :
    Calls Try.prog 54 #[.pointer (some ⟨r, 0, none⟩)] w fun e w' => e = .returned (S.peek en).v ∧ Below w.heap.size w w' := by
  have hr := h.lt
  obtain ⟨⟨tv, wb, h1, h2, h4, h5⟩, h6⟩ := h
  obtain ⟨c0, c1, c2, c3, c4⟩ := blk_cells h1
  have fr := blk_free h1
  have HS := Lib.hid h6
  clear h1 h5 h6
  obtain ⟨toks, at_, err⟩ := S
  rcases h2 with ⟨a, cap, rfl, he⟩ | ⟨tb, o, cap, rfl, hn, hcap, ht, hT⟩
  · simp only at he
    subst he
    clear HS
    go_enter Try.func54, Try.ntmps54
    go_wp2
    exact bodyPost_ret (v := (St.peek en ⟨[], at_, err⟩).v) (by simp only [results, Try.results54, St.peek, Tok.v]; go_simp) rfl ⟨rfl, (by repeat (first | exact Below.refl _ _ | (refine Below.setCell ?_ (by first | omega | (simp; done) | (simp; omega)) _) | (refine Below.alloc ?_ (by first | omega | (simp; done) | (simp; omega)) _)))⟩
  · cases toks with
    | nil => exact absurd rfl hn
    | cons x l =>
      obtain ⟨t0, t1, t2, t3, _⟩ := hT
      obtain ⟨xk, xt, xn, xa⟩ := x
      have hlen : l.length + 1 ≤ 4000 := HS.out
      have ht' : tb < w.heap.size := by omega
      clear HS hn
      go_enter Try.func54, Try.ntmps54
      go_wp2
      exact bodyPost_ret (v := (St.peek en ⟨⟨xk, xt, xn, xa⟩ :: l, at_, err⟩).v) (by simp only [results, Try.results54, St.peek, Tok.v]; go_simp) rfl ⟨rfl, (by repeat (first | exact Below.refl _ _ | (refine Below.setCell ?_ (by first | omega | (simp; done) | (simp; omega)) _) | (refine Below.alloc ?_ (by first | omega | (simp; done) | (simp; omega)) _)))⟩

theorem peek_at {w : World} {r : Nat} {en : Int} {S : St} (h : Rd w r en S) {xk xn xa : Int} {xt : ByteArray} (hx : S.peek en = ⟨xk, xt, xn, xa⟩) :
    Calls Try.prog 54 #[.pointer (some ⟨r, 0, none⟩)] w fun e w' => e = .returned (.agg #[.int .i64 xk, .string xt, .int .i64 xn, .int .i64 xa]) ∧ Below w.heap.size w w' := by
  have := peek_any h
  rw [hx] at this
  exact this

end Go.Proofs.Ytlpoimagikolfaa.syn
