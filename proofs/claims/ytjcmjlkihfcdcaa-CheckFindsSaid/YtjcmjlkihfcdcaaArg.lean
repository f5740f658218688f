/-
  Expressions that came in: what a reading of them says of memory.
-/
import Derived.Test.YtjcmjlkihfcdcaaBase
import Derived.Test.YtjcmjlkihfcdcaaOpen
import Derived.ChangeArms
import Derived.DataReads
namespace Go.Proofs.Ytjcmjlkihfcdcaa.syn
open Go.RowKit Go.ChangeShapes Go.WideShapes
set_option linter.unusedVariables false
set_option linter.unusedSimpArgs false

/-- A row of expressions lies from a cell on, in whatever blocks. -/
def AC (w : World) : PL → Nat → Nat → Prop
  | .nil, _, _ => True
  | .cons k nm n d args a tl, b, o => w.cell? ⟨b, o, none⟩ = some (.int .i64 k) ∧ w.cell? ⟨b, o + 1, none⟩ = some (.string nm) ∧ w.cell? ⟨b, o + 2, none⟩ = some (.int .i64 n) ∧
      w.cell? ⟨b, o + 3, none⟩ = some (.int .i64 d) ∧ w.cell? ⟨b, o + 5, none⟩ = some (.int .i64 a) ∧ (I64 k ∧ I64 n ∧ I64 d ∧ I64 a ∧ nm.size ≤ 9223372036854775807) ∧
      (∃ ad cap, w.cell? ⟨b, o + 4, none⟩ = some (.slice ad args.len cap) ∧ args.len ≤ cap ∧ cap ≤ 9223372036854775807 ∧ (args = .nil ∨ ∃ b' o', ad = some ⟨b', o', none⟩ ∧ b' < w.heap.size ∧ AC w args b' o')) ∧
      AC w tl b (o + 6)
def AS (w : World) (args : PL) (ad : Option Addr) : Prop := args = .nil ∨ ∃ b o, ad = some ⟨b, o, none⟩ ∧ b < w.heap.size ∧ AC w args b o
/-- An expression in hand, as it came in. -/
structure AE (w : World) (e : PE) (ad : Option Addr) (cap : Nat) : Prop where
  nums : I64 e.k ∧ I64 e.n ∧ I64 e.d ∧ I64 e.a ∧ e.nm.size ≤ 9223372036854775807
  len : e.args.len ≤ cap ∧ cap ≤ 9223372036854775807
  args : AS w e.args ad

theorem AC.below {w w' : World} (hb : Below w.heap.size w w') : ∀ (l : PL) (b o : Nat), b < w.heap.size → AC w l b o → AC w' l b o := by
  intro l
  induction l with
  | nil => intro b o _ _; trivial
  | cons k nm n d args a tl ih1 ih2 =>
    intro b o hlt h
    have hc : ∀ o, w'.cell? ⟨b, o, none⟩ = w.cell? ⟨b, o, none⟩ := fun o => hb.cell (p := ⟨b, o, none⟩) hlt
    obtain ⟨h0, h1, h2, h3, h5, hn, ⟨ad, cap, h4, hcap, hm, hd⟩, ht⟩ := h
    refine ⟨(hc _).trans h0, (hc _).trans h1, (hc _).trans h2, (hc _).trans h3, (hc _).trans h5, hn, ⟨ad, cap, (hc _).trans h4, hcap, hm, ?_⟩, ih2 b _ hlt ht⟩
    rcases hd with hd | ⟨b', o', e, hb', hd⟩
    · exact .inl hd
    · exact .inr ⟨b', o', e, Nat.lt_of_lt_of_le hb' hb.size, ih1 b' o' hb' hd⟩
theorem AS.below {w w' : World} (hb : Below w.heap.size w w') {args : PL} {ad : Option Addr} (h : AS w args ad) : AS w' args ad := by
  rcases h with h | ⟨b, o, e, hlt, h⟩
  · exact .inl h
  · exact .inr ⟨b, o, e, Nat.lt_of_lt_of_le hlt hb.size, h.below hb _ _ _ hlt⟩
theorem AE.below {w w' : World} (hb : Below w.heap.size w w') {e : PE} {ad : Option Addr} {cap : Nat} (h : AE w e ad cap) : AE w' e ad cap := ⟨h.nums, h.len, h.args.below hb⟩

section
variable {H : Type} {enc : TypeId × Value → H} {w : World} {base : Nat} {sp : Nat → Bool} {held : Bool}

theorem exprFields : (Try.prog.fieldsOf 39).toList.map (fun f => (f.type, f.offset)) = [(3, 0), (9, 1), (2, 2), (2, 3), (37, 4), (3, 5)] := by kernel_rfl
theorem exprStruct : Try.prog.underlying 39 = some (.struct (Try.prog.fieldsOf 39)) := by kernel_rfl
theorem exprCells : Try.prog.cellsOf 39 = 6 := by kernel_rfl
theorem exprsCells : Try.prog.cellsOf 37 = 1 := by kernel_rfl


theorem field_cell {cs : List Value} {fs : Array Field} {l : List (TypeId × Nat)} {xs : List (DataW H × List MemPlace)} {n : Nat} (hmap : fs.toList.map (fun f => (f.type, f.offset)) = l) (hlen : xs.length = fs.size)
    (hf : ∀ (i : Nat) (f : Field), fs[i]? = some f → DataW.trod enc Try.prog w base sp held n f.type ((cs.drop f.offset).take (Try.prog.cellsOf f.type)) = xs[i]?) (i : Nat) (ft : TypeId) (o : Nat) (hl : l[i]? = some (ft, o)) (hc : Try.prog.cellsOf ft = 1) :
    ∃ y, DataW.trod enc Try.prog w base sp held n ft ((cs.drop o).take 1) = some y := by
  obtain ⟨f, h1, rfl, rfl⟩ := field_at hmap i ft o hl
  have h2 := hf i f h1
  rw [hc] at h2
  have hi : i < xs.length := by rw [hlen]; exact (Array.getElem?_eq_some_iff.1 h1).1
  rw [List.getElem?_eq_getElem hi] at h2
  exact ⟨_, h2⟩

/-- A list of expressions, from its elements' cells. -/
theorem build_list (b o : Nat) :
    ∀ (m i : Nat), (∀ j, i ≤ j → j < i + m → ∃ e ad cap, AE w e ad cap ∧ w.cell? ⟨b, o + j * 6, none⟩ = some (.int .i64 e.k) ∧ w.cell? ⟨b, o + j * 6 + 1, none⟩ = some (.string e.nm) ∧ w.cell? ⟨b, o + j * 6 + 2, none⟩ = some (.int .i64 e.n) ∧
      w.cell? ⟨b, o + j * 6 + 3, none⟩ = some (.int .i64 e.d) ∧ w.cell? ⟨b, o + j * 6 + 4, none⟩ = some (.slice ad e.args.len cap) ∧ w.cell? ⟨b, o + j * 6 + 5, none⟩ = some (.int .i64 e.a)) →
      ∃ l : PL, l.len = m ∧ AC w l b (o + i * 6) := by
  intro m
  induction m with
  | zero => intro i _; exact ⟨.nil, rfl, trivial⟩
  | succ m ih =>
    intro i h
    obtain ⟨l, hl, hc⟩ := ih (i + 1) (fun j h1 h2 => h j (by omega) (by omega))
    obtain ⟨e, ad, cap, he, c0, c1, c2, c3, c4, c5⟩ := h i (Nat.le_refl _) (by omega)
    refine ⟨.cons e.k e.nm e.n e.d e.args e.a l, by simp [PL.len, hl], c0, c1, c2, c3, c5, he.nums, ⟨ad, cap, c4, he.len.1, he.len.2, he.args⟩, ?_⟩
    rw [show o + i * 6 + 6 = o + (i + 1) * 6 by omega]; exact hc

/-- Whatever reads as an expression, or as a list of them. -/
theorem open_expr : ∀ (fuel : Nat),
    (∀ cs x, DataW.trod enc Try.prog w base sp held fuel 39 cs = some x → ∃ e ad cap, AE w e ad cap ∧ cs = [.int .i64 e.k, .string e.nm, .int .i64 e.n, .int .i64 e.d, .slice ad e.args.len cap, .int .i64 e.a]) ∧
    (∀ cs x, DataW.trod enc Try.prog w base sp held fuel 37 cs = some x → ∃ l ad cap, AS w l ad ∧ l.len ≤ cap ∧ cap ≤ 9223372036854775807 ∧ cs = [.slice ad l.len cap]) := by
  intro fuel
  induction fuel using Nat.strongRecOn with
  | _ fuel ih =>
    refine ⟨fun cs x h => ?_, fun cs x h => ?_⟩
    · obtain ⟨xs, n, rfl, _, hlen, hxl, hf⟩ := DataW.trod_struct exprStruct h
      rw [exprCells] at hlen
      obtain ⟨y0, h0⟩ := field_cell exprFields hxl hf 0 3 0 rfl intCells
      obtain ⟨y1, h1⟩ := field_cell exprFields hxl hf 1 9 1 rfl stringCells
      obtain ⟨y2, h2⟩ := field_cell exprFields hxl hf 2 2 2 rfl int64Cells
      obtain ⟨y3, h3⟩ := field_cell exprFields hxl hf 3 2 3 rfl int64Cells
      obtain ⟨y4, h4⟩ := field_cell exprFields hxl hf 4 37 4 rfl exprsCells
      obtain ⟨y5, h5⟩ := field_cell exprFields hxl hf 5 3 5 rfl intCells
      obtain ⟨k, e0, _, w0⟩ := DataW.trod_int Try.underlying3 h0
      obtain ⟨nm, e1, _, w1⟩ := DataW.trod_string Try.underlying9 h1
      obtain ⟨m, e2, _, w2⟩ := DataW.trod_int Try.underlying2 h2
      obtain ⟨d, e3, _, w3⟩ := DataW.trod_int Try.underlying2 h3
      obtain ⟨l, ad, cap, hs, hl1, hl2, e4⟩ := (ih n (by omega)).2 _ _ h4
      obtain ⟨a, e5, _, w5⟩ := DataW.trod_int Try.underlying3 h5
      refine ⟨⟨k, nm, m, d, l, a⟩, ad, cap, ⟨⟨i64_of w0, i64_of w2, i64_of w3, i64_of w5, maxLen_le w1⟩, ⟨hl1, hl2⟩, hs⟩, ?_⟩
      have g0 := one_cell e0
      have g1 := one_cell e1
      have g2 := one_cell e2
      have g3 := one_cell e3
      have g4 := one_cell e4
      have g5 := one_cell e5
      refine List.ext_getElem? fun i => ?_
      by_cases hi : i < 6
      · obtain rfl | rfl | rfl | rfl | rfl | rfl : i = 0 ∨ i = 1 ∨ i = 2 ∨ i = 3 ∨ i = 4 ∨ i = 5 := by omega
        · exact g0
        · exact g1
        · exact g2
        · exact g3
        · exact g4
        · exact g5
      · rw [List.getElem?_eq_none (by omega), List.getElem?_eq_none (by simp; omega)]
    · rcases DataW.trod_slice Try.underlying37 h with ⟨rfl, _⟩ | ⟨ad, len, cap, elems, rest, n, rfl, rfl, _, _, hl, hm, hel, hall, _⟩
      · exact ⟨.nil, none, 0, .inl rfl, Nat.le_refl _, Nat.zero_le _, rfl⟩
      · have hm' : cap ≤ 9223372036854775807 := maxLen_le hm
        by_cases h0 : len = 0
        · subst h0; exact ⟨.nil, some ad, cap, .inl rfl, Nat.zero_le _, hm', rfl⟩
        · rw [exprCells] at hall
          have key : ∀ i, i < len → ∃ cs', w.cells? base (ad.add (i * 6)) 6 = some cs' ∧ ∃ y, DataW.trod enc Try.prog w base sp held n 39 cs' = some y := by
            intro i hi
            have h1 := hall i hi
            rw [List.getElem?_eq_getElem (by omega)] at h1
            obtain ⟨cs', h2, h3⟩ := Option.bind_eq_some_iff.1 h1
            exact ⟨cs', h2, _, h3⟩
          obtain ⟨b, o, spt⟩ := ad
          obtain ⟨cs0, hc0, y0, hy0⟩ := key 0 (by omega)
          obtain ⟨_, hlen0, hcell0⟩ := World.cells?_some hc0
          have hspot : spt = none := by
            have := hcell0 0 (by omega)
            rw [List.getElem?_eq_getElem (by omega)] at this
            simpa [Addr.add] using World.cell?_spot this
          subst hspot
          have hcells : ∀ j, 0 ≤ j → j < 0 + len → ∃ e ad cap, AE w e ad cap ∧ w.cell? ⟨b, o + j * 6, none⟩ = some (.int .i64 e.k) ∧ w.cell? ⟨b, o + j * 6 + 1, none⟩ = some (.string e.nm) ∧ w.cell? ⟨b, o + j * 6 + 2, none⟩ = some (.int .i64 e.n) ∧
              w.cell? ⟨b, o + j * 6 + 3, none⟩ = some (.int .i64 e.d) ∧ w.cell? ⟨b, o + j * 6 + 4, none⟩ = some (.slice ad e.args.len cap) ∧ w.cell? ⟨b, o + j * 6 + 5, none⟩ = some (.int .i64 e.a) := by
            intro j _ hj
            obtain ⟨cs', h2, y, hy⟩ := key j (by omega)
            obtain ⟨e, ad, cap, he, rfl⟩ := (ih n (by omega)).1 _ _ hy
            obtain ⟨_, _, hcell⟩ := World.cells?_some h2
            have hadd : ∀ i, ((⟨b, o, none⟩ : Addr).add (j * 6)).add i = ⟨b, o + j * 6 + i, none⟩ := by
              intro i; unfold Addr.add; by_cases h1 : j * 6 = 0 <;> by_cases h2 : i = 0 <;> simp [h1, h2]
            refine ⟨e, ad, cap, he, ?_, ?_, ?_, ?_, ?_, ?_⟩
            · have := hcell 0 (by omega); rw [hadd] at this; exact this
            · have := hcell 1 (by omega); rw [hadd] at this; exact this
            · have := hcell 2 (by omega); rw [hadd] at this; exact this
            · have := hcell 3 (by omega); rw [hadd] at this; exact this
            · have := hcell 4 (by omega); rw [hadd] at this; exact this
            · have := hcell 5 (by omega); rw [hadd] at this; exact this
          obtain ⟨l, hll, hac⟩ := build_list (w := w) b o len 0 hcells
          have hb : b < w.heap.size := by
            obtain ⟨e, _, _, _, hc, _⟩ := hcells 0 (Nat.le_refl _) (by omega)
            exact World.block_lt_of_cell? _ _ hc
          exact ⟨l, some ⟨b, o, none⟩, cap, .inr ⟨b, o, rfl, hb, by simpa using hac⟩, by omega, hm', by rw [hll]⟩
end

end Go.Proofs.Ytjcmjlkihfcdcaa.syn
