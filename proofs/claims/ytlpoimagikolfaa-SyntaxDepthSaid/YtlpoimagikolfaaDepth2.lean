/-
  Depth, two: laws for its walk, and what holds at the heads of its three loops.
-/
import Derived.Test.YtlpoimagikolfaaDepth1
import Derived.Test.YtlpoimagikolfaaWhole
import Derived.Maps.OwnOps
import Derived.Maps.OwnSet
namespace Go.Proofs.Ytlpoimagikolfaa.syn
open Go.RowKit
set_option linter.unusedVariables false
set_option linter.unusedSimpArgs false

theorem wpList_look (w : World) {ops : Array Oper} {rest : List Oper} {o : Oper} {a : Act} {Q : Exit → Act → World → Prop}
    (hg : o.guard = none) (m x : Operand) (hop : o.op = Op.lookup 74 m x false) (mb : Nat) (L : List (Key × Int)) (k : Key)
    (hm : a.eval m = .map (some mb)) (hx : a.eval x = k.v) (h : MapIs w mb L) (hk : Free w k.b) (hf : ∀ p ∈ L, Free w p.1.b)
    (hK : wpList Try.prog ops Q rest (a.put o.dst (.int .i64 (getI k L))) w) :
    wpList Try.prog ops Q (o :: rest) a w := by
  refine wpList_plain hg fun K' hK' => ?_
  have hrun := map_look h k hk hf
  unfold Oper.wp
  simp [execOp, hop, hm, hx, hrun, Result.andThen]
  exact hK' _ _ hK

theorem wpList_put (w : World) {ops : Array Oper} {rest : List Oper} {o : Oper} {a : Act} {Q : Exit → Act → World → Prop}
    (hg : o.guard = none) (m x v : Operand) (hop : o.op = Op.mapUpdate 74 m x v) (mb : Nat) (L : List (Key × Int)) (k : Key) (u : Int)
    (hm : a.eval m = .map (some mb)) (hx : a.eval x = k.v) (hv : a.eval v = .int .i64 u) (h : MapIs w mb L) (hk : Free w k.b) (hf : ∀ p ∈ L, Free w p.1.b)
    (hK : ∀ arr clock, MapIs (World.put w mb (.map arr clock)) mb (putL k u L) → wpList Try.prog ops Q rest (a.put o.dst undef) (World.put w mb (.map arr clock))) :
    wpList Try.prog ops Q (o :: rest) a w := by
  refine wpList_plain hg fun K' hK' => ?_
  obtain ⟨arr, clock, hrun, h1⟩ := map_put h k u hk hf
  unfold Oper.wp
  simp [execOp, hop, hm, hx, hv, hrun, Result.andThen]
  exact hK' _ _ (hK arr clock h1)

theorem map_len {w : World} {mb : Nat} {L : List (Key × Int)} (h : MapIs w mb L) (ty : TypeId) :
    (Builtin.len_ #[74] ty #[.map (some mb)]).run Try.prog w = .ok (.int .i64 (L.length : Int)) w := by
  obtain ⟨arr, clock, hh, he⟩ := h
  have hu : (underlying 74).run Try.prog w = .ok (.map 78 3) w := by rw [run_underlying (by kernel_rfl)]
  have hg' : (getObj mb).run Try.prog w = .ok (.map arr clock) w := run_getObj_map (w := w) mb arr clock hh
  have hl : arr.size = L.length := by have := congrArg List.length he; simpa using this
  rw [← hl]
  simp [Builtin.len_, hu, hg', goInt, Result.andThen]

/-- The greatest height of what the elements of a row hold. -/
def PL.amax : PL → Nat
  | .nil => 0
  | .cons _ _ _ _ args _ tl => max args.ht tl.amax
theorem PL.ht_amax : ∀ l : PL, l ≠ .nil → l.ht = l.amax + 1 := by
  intro l
  induction l with
  | nil => intro h; exact (h rfl).elim
  | cons k nm n d args a tl _ ih =>
    intro _
    simp only [PL.ht, PL.amax]
    cases tl with
    | nil => simp only [PL.ht, PL.amax]; omega
    | cons k nm n d args a tl => rw [ih (by intro h; cases h)]; omega
theorem PL.len_sz : ∀ l : PL, l.len ≤ l.sz := by
  intro l
  induction l with
  | nil => exact Nat.le_refl _
  | cons k nm n d args a tl _ ih => simp only [PL.len, PL.sz]; omega

/-- A list that is not empty, where it lies, and its room. -/
structure LV where
  k : Key
  pl : PL
  cap : Nat
def LV.v (x : LV) : Value := .slice (some ⟨x.k.b, x.k.o, none⟩) x.pl.len x.cap
def LV.ok (W : World) (P : Nat → Prop) (x : LV) : Prop := x.k.n = x.pl.len ∧ x.pl ≠ .nil ∧ x.pl.len ≤ x.cap ∧ OkB W P x.k.b ∧ Cells W P x.k.b x.pl x.k.o
theorem LV.ok.ht {W : World} {P : Nat → Prop} {x : LV} (h : x.ok W P) : htAt W P x.k = x.pl.ht := htAt_eq h.2.2.2.2 h.1.symm
def lmax : List LV → Nat
  | [] => 0
  | x :: l => max x.pl.amax (lmax l)
def lsz : List LV → Nat
  | [] => 0
  | x :: l => x.pl.sz + lsz l
theorem lsz_snoc (l : List LV) (x : LV) : lsz (l ++ [x]) = lsz l + x.pl.sz := by
  induction l with
  | nil => simp [lsz]
  | cons y l ih => simp only [List.cons_append, lsz, ih]; omega
theorem lsz_len {W : World} {P : Nat → Prop} : ∀ l : List LV, (∀ x ∈ l, x.ok W P) → l.length ≤ lsz l := by
  intro l
  induction l with
  | nil => intro _; exact Nat.le_refl _
  | cons x l ih =>
    intro h
    have h1 := ih (fun y hy => h y (by simp [hy]))
    have h2 := PL.ht_pos (h x (by simp)).2.1
    have h3 := PL.ht_sz x.pl
    simp only [List.length_cons, lsz]; omega
theorem lmax_met {W : World} {P : Nat → Prop} : ∀ l : List LV, (∀ x ∈ l, x.ok W P) → l ≠ [] → maxF (htAt W P) (l.map LV.k) = lmax l + 1 := by
  intro l
  induction l with
  | nil => intro _ h; exact (h rfl).elim
  | cons x l ih =>
    intro h _
    have hx := h x (by simp)
    have h2 := PL.ht_amax x.pl hx.2.1
    simp only [List.map_cons, maxF, lmax, hx.ht]
    by_cases hl : l = []
    · subst hl; simp only [List.map_nil, maxF, lmax]; omega
    · rw [ih (fun y hy => h y (by simp [hy])) hl]; omega
theorem drop_lv {xs : List LV} {i : Nat} (h : i < xs.length) : xs.drop i = xs[i] :: xs.drop (i + 1) := by rw [List.drop_eq_getElem_cons h]

/-- The blocks in which what is measured lies: those of before, and the one that the call makes for the expression itself. -/
def DQ (B : Nat) : Nat → Prop := fun b => b < B ∨ b = B + 1 + 1
/-- The world, wherever the call stands: W is the one at the first loop's head. -/
structure DW (B : Nat) (w W wr : World) (M : List (Key × Int)) : Prop where
  below : Below B w wr
  same : Same (DQ B) W wr
  map : MapIs wr (B + 1) M
  keys : ∀ p ∈ M, OkB W (DQ B) p.1.b

def LevIs (base : Nat) (w : World) (v : Value) (xs : List LV) : Prop := w.ownsRow base 41 1 v xs.length (xs.map LV.v)

def ORel (B H : Nat) (w W : World) (v4 v5 : Value) (wr : World) : Prop :=
  ∃ (d : Nat) (xs : List LV) (M : List (Key × Int)), v4 = .int .i64 (d : Int) ∧ 1 ≤ d ∧ d ≤ H ∧ xs ≠ [] ∧ LevIs (B + 3) wr v5 xs ∧ (∀ x ∈ xs, x.ok W (DQ B)) ∧ lmax xs + d = H ∧ lsz xs ≤ 100001 ∧
    Met (htAt W (DQ B)) H d M [] 0 ∧ DW B w W wr M
def MRel (B H base : Nat) (w W : World) (d : Nat) (xs : List LV) (v5 v6 v18 : Value) (wr : World) : Prop :=
  ∃ (i : Nat) (M : List (Key × Int)) (bs : List LV) (t : Nat), v18 = .int .i64 (i : Int) ∧ i ≤ xs.length ∧ LevIs (B + 3) wr v5 xs ∧ LevIs base wr v6 bs ∧ (∀ x ∈ bs, x.ok W (DQ B)) ∧ max t (lmax (xs.drop i)) + d = H ∧
    lsz bs + lsz (xs.drop i) ≤ 100001 ∧ Met (htAt W (DQ B)) H d M (bs.map LV.k) t ∧ DW B w W wr M ∧ base ≤ wr.heap.size
def IRel (B H base : Nat) (w W : World) (d : Nat) (xs : List LV) (v5 : Value) (i : Nat) (x : LV) (v6 v24 : Value) (wr : World) : Prop :=
  ∃ (j : Nat) (M : List (Key × Int)) (bs : List LV) (t : Nat) (rest : PL), v24 = .int .i64 (j : Int) ∧ j + rest.len = x.pl.len ∧ Cells W (DQ B) x.k.b rest (x.k.o + j * 6) ∧
    LevIs (B + 3) wr v5 xs ∧ LevIs base wr v6 bs ∧ (∀ x ∈ bs, x.ok W (DQ B)) ∧ max t (max rest.amax (lmax (xs.drop (i + 1)))) + d = H ∧
    lsz bs + rest.sz + lsz (xs.drop (i + 1)) ≤ 100001 ∧ Met (htAt W (DQ B)) H d M (bs.map LV.k) t ∧ DW B w W wr M ∧ base ≤ wr.heap.size

theorem cells6' {w : World} {b : Nat} {v0 v1 v2 v3 v4 v5 : Value} {t : TypeId} (h : w.heap[b]? = some (.cells #[v0, v1, v2, v3, v4, v5] t (0, 0))) :
    (w.cell? ⟨b, 0, none⟩ = some v0 ∧ w.cell? ⟨b, 1, none⟩ = some v1 ∧ w.cell? ⟨b, 2, none⟩ = some v2 ∧ w.cell? ⟨b, 3, none⟩ = some v3 ∧ w.cell? ⟨b, 4, none⟩ = some v4 ∧ w.cell? ⟨b, 5, none⟩ = some v5) ∧ ∀ o, w.frozen? ⟨b, o, none⟩ = false := by
  refine ⟨⟨?_, ?_, ?_, ?_, ?_, ?_⟩, ?_⟩
  all_goals first | (intro o; simp [World.frozen?, h]) | simp [World.cell?, h]

theorem LevIs.below {base B : Nat} {w w' : World} {v : Value} {xs : List LV} (h : LevIs base w v xs) (hb : Below w.heap.size w w') : LevIs base w' v xs := by
  refine ⟨h.1, ?_⟩
  rcases h.2 with hn | ⟨g, cap, cur, rfl, hb', hgg, rest⟩
  · exact .inl hn
  · exact .inr ⟨g, cap, cur, rfl, hb', (hb.block g (lt_of_block hgg)).trans hgg, rest⟩

theorem LevIs.mono {base base' : Nat} {w : World} {v : Value} {xs : List LV} (h : LevIs base w v xs) (hb : base' ≤ base) : LevIs base' w v xs := by
  refine ⟨h.1, ?_⟩
  rcases h.2 with hn | ⟨g, cap, cur, rfl, hb', rest⟩
  · exact .inl hn
  · exact .inr ⟨g, cap, cur, rfl, by omega, rest⟩
theorem LevIs.form {base : Nat} {w : World} {v : Value} {xs : List LV} (h : LevIs base w v xs) : ∃ a c, v = .slice a xs.length c ∧ xs.length ≤ c := by
  rcases h.2 with ⟨rfl, h0⟩ | ⟨g, cap, cur, rfl, _, _, hc, _⟩
  · exact ⟨none, 0, by rw [h0], by omega⟩
  · exact ⟨_, _, rfl, hc⟩
theorem LevIs.at {base : Nat} {w : World} {v : Value} {xs : List LV} (h : LevIs base w v xs) (hx : xs ≠ []) :
    ∃ g c, v = .slice (some ⟨g, 0, none⟩) xs.length c ∧ base ≤ g ∧ g < w.heap.size ∧ xs.length ≤ c ∧ ∀ i (h : i < xs.length), w.cell? ⟨g, i, none⟩ = some (xs[i].v) := by
  rcases h.2 with ⟨rfl, h0⟩ | ⟨g, cap, cur, rfl, hb, hg, hc, hm, hsz, htake⟩
  · exact (hx (List.length_eq_zero_iff.1 h0)).elim
  · refine ⟨g, cap, rfl, hb, lt_of_block hg, hc, fun i hi => ?_⟩
    have h1 : (cur.toList.take (xs.length * 1))[i]? = some (xs[i].v) := by rw [htake]; simp [hi]
    rw [List.getElem?_take, if_pos (by omega)] at h1
    rw [World.cell?]
    simp only [hg]
    simpa using h1

theorem dstart {w : World} (k n d a : Int) (nm : ByteArray) (args : PL) (ad : Option Addr) (cap : Nat) (hs : SlA w (fun b => b < w.heap.size) args ad) (hcap : args.len ≤ cap) (W : World)
    (hW : ((((w.alloc (Obj.cells #[.int .i64 k, .string nm, .int .i64 n, .int .i64 d, .slice ad args.len cap, .int .i64 a] 43)).alloc (Obj.map #[] 0)).alloc (Obj.cells #[.int .i64 k, .string nm, .int .i64 n, .int .i64 d, .slice ad args.len cap, .int .i64 a] 43)).alloc
      (Obj.cells #[.slice (some ⟨w.heap.size + 1 + 1, 0, none⟩) 1 1] 41)).drew = W) :
    DW w.heap.size w W W [] ∧ LevIs (w.heap.size + 3) W (.slice (some ⟨w.heap.size + 1 + 1 + 1, 0, none⟩) 1 1) [⟨⟨w.heap.size + 1 + 1, 0, 1⟩, PE.one ⟨k, nm, n, d, args, a⟩, 1⟩] ∧
      LV.ok W (DQ w.heap.size) ⟨⟨w.heap.size + 1 + 1, 0, 1⟩, PE.one ⟨k, nm, n, d, args, a⟩, 1⟩ ∧ W.heap.size = w.heap.size + 4 := by
  have hb : Below w.heap.size w W := by subst hW; exact (by repeat (first | (with_reducible exact Below.refl _ _) | ((with_reducible refine below_setAt ?_ ?_ _); (rotate_left; focus (first | omega | (simp; done) | (simp; omega)))) | ((with_reducible refine Below.alloc ?_ ?_ _); (rotate_left; focus (first | omega | (simp; done) | (simp; omega)))) | (with_reducible refine below_drewN ?_ _) | (with_reducible refine Below.drew ?_)))
  have hsz : W.heap.size = w.heap.size + 4 := by subst hW; show ((((w.heap.push _).push _).push _).push _).size = _; simp
  have h1 : W.heap[w.heap.size + 1]? = some (.map #[] 0) := by subst hW; show ((((w.heap.push _).push _).push _).push _)[_]? = _; simp [Array.getElem_push]
  have h2 : W.heap[w.heap.size + 1 + 1]? = some (.cells #[.int .i64 k, .string nm, .int .i64 n, .int .i64 d, .slice ad args.len cap, .int .i64 a] 43 (0, 0)) := by subst hW; show ((((w.heap.push _).push _).push _).push _)[_]? = _; simp [Array.getElem_push]
  have h3 : W.heap[w.heap.size + 1 + 1 + 1]? = some (.cells #[.slice (some ⟨w.heap.size + 1 + 1, 0, none⟩) 1 1] 41 (0, 0)) := by subst hW; show ((((w.heap.push _).push _).push _).push _)[_]? = _; simp [Array.getElem_push]
  obtain ⟨⟨c0, c1, c2, c3, c4, c5⟩, _⟩ := cells6' h2
  have hs' : SlA W (DQ w.heap.size) args ad := (hs.keep (w' := W) ⟨hb.size, fun b hb' _ => hb.block b hb'⟩).mono (fun b hb' _ => .inl hb')
  have g1 : DW w.heap.size w W W [] := { below := hb, same := Same.refl _ _, map := ⟨#[], 0, h1, rfl⟩, keys := fun p hp => by cases hp }
  have g2 : LevIs (w.heap.size + 3) W (.slice (some ⟨w.heap.size + 1 + 1 + 1, 0, none⟩) 1 1) [⟨⟨w.heap.size + 1 + 1, 0, 1⟩, PE.one ⟨k, nm, n, d, args, a⟩, 1⟩] :=
    ⟨rfl, .inr ⟨_, 1, _, rfl, by omega, h3, Nat.le_refl _, by unfold maxLen; omega, rfl, rfl⟩⟩
  refine ⟨g1, g2, ⟨rfl, (fun h => by cases h), Nat.le_refl _, ⟨.inr rfl, _, h2⟩, ?_⟩, hsz⟩
  refine ⟨c0, c1, c2, c3, c5, ⟨ad, cap, c4, hcap, ?_⟩, trivial⟩
  rcases hs' with h | h
  · exact .inl h
  · exact .inr h

end Go.Proofs.Ytlpoimagikolfaa.syn
