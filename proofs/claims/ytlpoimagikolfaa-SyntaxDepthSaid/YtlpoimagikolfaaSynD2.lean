/-
  The law SyntaxDepth: awake, and the walk.
-/
import Derived.Test.YtlpoimagikolfaaSynD1
import Derived.ChangeSlices
import Derived.IntWalk
import Derived.Deep.RegionHeld3
namespace Go.Proofs.Ytlpoimagikolfaa.syn
open Go.RowKit
set_option linter.unusedVariables false
set_option linter.unusedSimpArgs false

/-- A slice of integers that reads as a list. -/
def IsRow (k : IntKind) (w : World) (a : Option Addr) (len cap : Nat) (zs : List Int) : Prop :=
  (a = none ∧ len = 0 ∧ cap = 0 ∧ zs = []) ∨
  ∃ x, a = some x ∧ len ≤ cap ∧ cap ≤ maxLen ∧ zs.length = cap ∧ (∀ i, i < zs.length → w.cell? (x.add i) = some (.int k (zs.getD i 0))) ∧ ∀ n ∈ zs, (Lit.int k n).wf = true

theorem awake_any (w : World) : Calls Try.prog 5 #[] w fun e w' => e = .returned (.bool true) ∧ Below w.heap.size w w' := by
  have HP := Lib.hid (fun w => awake_parse w)
  unfold awakeText at HP
  go_enter Try.func5, Try.ntmps5
  repeat' (first | (go_at_call 9; (with_reducible refine (HP.out _).mono ?_); rintro e w1 ⟨fb, cap, rfl, hcap, hfl, hb1⟩; obtain ⟨h0, h1, h2, h3, h4, h6, h7, ad, ca, h5, hca, hA⟩ := hfl; have l1 := hb1.size; have hlt : fb < w1.heap.size := World.block_lt_of_cell? _ _ h0; have h3' : w1.cell? ⟨fb, 3, none⟩ = some (.int .i64 3) := h3; clear h0 h1 h2 h3 h4 h5 h6 h7 hA) | go_values | go_skip | go_guarded | go_step | go_upon | (simp only [Int.not_lt, Int.not_le] at *; go_simp) | (go_values <;> (try go_simp)) | (go_ite <;> go_prune <;> (try go_simp)) | (split <;> (first | (rename_i hx; exact (hx _ rfl).elim) | go_prune)))
  go_ret
  exact ⟨rfl, (by repeat (first | (with_reducible exact Below.refl _ _) | ((with_reducible refine below_setAt ?_ ?_ _); (rotate_left; focus (first | omega | (simp; done) | (simp; omega)))) | ((with_reducible refine Below.alloc ?_ ?_ _); (rotate_left; focus (first | omega | (simp; done) | (simp; omega)))) | (with_reducible refine below_drewN ?_ _) | (with_reducible refine Below.drew ?_) | ((with_reducible refine Below.trans ?_ (Below.mono hb1 ?_)); (rotate_left; focus (first | omega | (simp; done) | (simp; omega))))))⟩

theorem SlA.lt {w : World} {P : Nat → Prop} {args : PL} {ad : Option Addr} (h : SlA w P args ad) : SlA w (fun b => P b ∧ b < w.heap.size) args ad := h.mono (fun b h1 h2 => ⟨h1, h2⟩)

/-- What holds at the head of the loop that builds the chain: eb is the block of the expression in hand. -/
def BRel (w : World) (eb : Nat) (K : Nat) (v10 : Value) (wr : World) : Prop :=
  ∃ (i : Nat) (l : List Nat) (k n d a : Int) (nm : ByteArray) (args : PL) (ad : Option Addr) (cap : Nat), v10 = .int .i64 (i : Int) ∧ i ≤ K ∧ l.length = i ∧ (∀ o ∈ l, o < 3) ∧ ChainP l ⟨k, nm, n, d, args, a⟩ ∧
    wr.heap[eb]? = some (.cells #[.int .i64 k, .string nm, .int .i64 n, .int .i64 d, .slice ad args.len cap, .int .i64 a] 43 (0, 0)) ∧ args.len ≤ cap ∧ SlA wr (fun b => eb < b) args ad ∧ Below w.heap.size w wr

def setW (wr : World) (eb : Nat) (K0 N0 : Int) : World :=
  (((((wr.setCell ⟨eb, 0, none⟩ (.int .i64 K0)).setCell ⟨eb, 1, none⟩ (.string ⟨#[]⟩)).setCell ⟨eb, 2, none⟩ (.int .i64 N0)).setCell ⟨eb, 3, none⟩ (.int .i64 0)).setCell ⟨eb, 4, none⟩ (.slice (some ⟨wr.heap.size, 0, none⟩) 1 1)).setCell ⟨eb, 5, none⟩ (.int .i64 0)
def nextW (wr : World) (eb : Nat) (k n d a K0 N0 : Int) (nm : ByteArray) (args : PL) (ad : Option Addr) (cap : Nat) : World :=
  ((setW wr eb K0 N0).alloc (Obj.cells #[.int .i64 k, .string nm, .int .i64 n, .int .i64 d, .slice ad args.len cap, .int .i64 a] 43)).drew

theorem brel_next {w wr : World} {eb K i : Nat} {l : List Nat} {k n d a : Int} {nm : ByteArray} {args : PL} {ad : Option Addr} {cap o : Nat} (ho : o < 3) (hi : i < K) (hli : l.length = i) (hlo : ∀ o ∈ l, o < 3) (hch : ChainP l ⟨k, nm, n, d, args, a⟩)
    (hz : wr.heap[eb]? = some (.cells #[.int .i64 k, .string nm, .int .i64 n, .int .i64 d, .slice ad args.len cap, .int .i64 a] 43 (0, 0))) (hcap : args.len ≤ cap) (hsl : SlA wr (fun b => eb < b) args ad) (hbel : Below w.heap.size w wr) (heb : w.heap.size ≤ eb) :
    Hid (BRel w eb K (.int .i64 ((i : Int) + 1)) (nextW wr eb k n d a (kOf o) (nOf o) nm args ad cap)) := by
  have hlt := lt_of_block hz
  refine ⟨i + 1, o :: l, kOf o, nOf o, 0, 0, ⟨#[]⟩, PE.one ⟨k, nm, n, d, args, a⟩, some ⟨wr.heap.size, 0, none⟩, 1, by simp, hi, by simp [hli], ?_, .cons 0 ho hch, ?_, Nat.le_refl _, ?_, ?_⟩
  · intro x hx
    rcases List.mem_cons.mp hx with rfl | hx
    · exact ho
    · exact hlo x hx
  · show (World.alloc _ _).heap[eb]? = _
    rw [heap_alloc_old _ _ (by simp [setW, World.setCell]; exact hlt)]
    exact set6 hz _ _ _ _ _ _
  · have h6 : SlA (setW wr eb (kOf o) (nOf o)) (fun b => eb < b) args ad := by unfold setW; exact hsl.keep (by repeat (first | (with_reducible exact Same.refl _ _) | (with_reducible refine Same.alloc ?_ _) | (with_reducible refine Same.drewN ?_ _) | (with_reducible refine Same.drew ?_) | ((with_reducible refine Same.setCell ?_ ?_ _); focus (exact Nat.lt_irrefl _))))
    exact SlA.keep (SlA.one h6 hcap wr.heap.size (by simp [setW, World.setCell]) (by show eb < wr.heap.size; omega)) ((Same.refl _ _).drew)
  · unfold nextW setW
    exact (by repeat (first | (with_reducible exact Below.refl _ _) | ((with_reducible refine below_setAt ?_ ?_ _); (rotate_left; focus (first | omega | (simp; done) | (simp; omega)))) | ((with_reducible refine Below.alloc ?_ ?_ _); (rotate_left; focus (first | omega | (simp; done) | (simp; omega)))) | (with_reducible refine below_drewN ?_ _) | (with_reducible refine Below.drew ?_) | ((with_reducible refine Below.trans ?_ (Below.mono hbel ?_)); (rotate_left; focus (first | omega | (simp; done) | (simp; omega))))))

theorem byte_at {w : World} {ad : Option Addr} {len cap : Nat} {zs : List Int} (h : IsRow .u8 w ad len cap zs) (i : Nat) (hi : i < len) :
    ∃ b off c, ad = some ⟨b, off, none⟩ ∧ b < w.heap.size ∧ w.cell? ⟨b, off + i, none⟩ = some (.int .u8 c) ∧ 0 ≤ c ∧ c ≤ 255 := by
  rcases h with ⟨_, rfl, _⟩ | ⟨x, rfl, hl, hm, hz, hc, hwf⟩
  · omega
  · have h1 := hc i (by omega)
    obtain ⟨b, off, sp⟩ := x
    have hsp : sp = none := by
      have := World.cell?_spot (hc 0 (by omega))
      simpa [Addr.add] using this
    subst hsp
    have ha : (⟨b, off, none⟩ : Addr).add i = ⟨b, off + i, none⟩ := by
      unfold Addr.add; by_cases h0 : i = 0 <;> simp [h0]
    rw [ha] at h1
    have hw := hwf (zs.getD i 0) (by rw [List.getD_eq_getElem?_getD, List.getElem?_eq_getElem (by omega), Option.getD_some]; exact List.getElem_mem _)
    have hb := bounds_u8 hw
    exact ⟨b, off, _, rfl, World.block_lt_of_cell? _ _ h1, h1, hb.1, hb.2⟩

theorem ds_keep {w w' : World} {pb fb eb : Nat} {v0 f1 f2 f3 f4 f5 f6 e0 e1 e2 e3 e4 e5 : Value} (hb : Below w.heap.size w w') (h1 : pb < w.heap.size) (h2 : fb < w.heap.size) (h3 : eb < w.heap.size)
    (h : w.cell? ⟨pb, 2, none⟩ = some v0 ∧ w.cell? ⟨fb, 1, none⟩ = some f1 ∧ w.cell? ⟨fb, 2, none⟩ = some f2 ∧ w.cell? ⟨fb, 3, none⟩ = some f3 ∧ w.cell? ⟨fb, 4, none⟩ = some f4 ∧ w.cell? ⟨fb, 5, none⟩ = some f5 ∧ w.cell? ⟨fb, 6, none⟩ = some f6 ∧ w.cell? ⟨eb, 0, none⟩ = some e0 ∧ w.cell? ⟨eb, 1, none⟩ = some e1 ∧ w.cell? ⟨eb, 2, none⟩ = some e2 ∧ w.cell? ⟨eb, 3, none⟩ = some e3 ∧ w.cell? ⟨eb, 4, none⟩ = some e4 ∧ w.cell? ⟨eb, 5, none⟩ = some e5) :
    w'.cell? ⟨pb, 2, none⟩ = some v0 ∧ w'.cell? ⟨fb, 1, none⟩ = some f1 ∧ w'.cell? ⟨fb, 2, none⟩ = some f2 ∧ w'.cell? ⟨fb, 3, none⟩ = some f3 ∧ w'.cell? ⟨fb, 4, none⟩ = some f4 ∧ w'.cell? ⟨fb, 5, none⟩ = some f5 ∧ w'.cell? ⟨fb, 6, none⟩ = some f6 ∧ w'.cell? ⟨eb, 0, none⟩ = some e0 ∧ w'.cell? ⟨eb, 1, none⟩ = some e1 ∧ w'.cell? ⟨eb, 2, none⟩ = some e2 ∧ w'.cell? ⟨eb, 3, none⟩ = some e3 ∧ w'.cell? ⟨eb, 4, none⟩ = some e4 ∧ w'.cell? ⟨eb, 5, none⟩ = some e5 := by
  have hp := fun o => hb.cell (p := ⟨pb, o, none⟩) h1
  have hf := fun o => hb.cell (p := ⟨fb, o, none⟩) h2
  have he := fun o => hb.cell (p := ⟨eb, o, none⟩) h3
  simp only [hp, hf, he]
  exact h

theorem chain_sz {l : List Nat} {e : PE} (h : ChainP l e) : e.args.sz = l.length := by
  induction h with
  | nil a => rfl
  | cons a ho h ih => rename_i o l e; show e.args.sz + 1 + 0 = _; rw [ih]; simp

theorem parse_here (l : List Nat) (hl : ∀ o ∈ l, o < 3) (hlen : l.length ≤ 59) (b : Nat) (hb : b ≤ 29) (w : World) :
    Calls Try.prog 9 #[.string ((⟨#[102, 108, 111, 119, 32, 102, 32, 61, 32]⟩ ++ ⟨(bC b (cL l)).toArray⟩) ++ ⟨#[59]⟩)] w (fun e w' => if l.length + 1 ≤ 20 then ∃ f, ChainP l f.e ∧ ParseOK w f e w' else ∃ a, ParseNo w a 2 e w') := by
  have h := parse_chain l hl hlen b hb w
  have e : chainText l b = ((⟨#[102, 108, 111, 119, 32, 102, 32, 61, 32]⟩ ++ ⟨(bC b (cL l)).toArray⟩) ++ ⟨#[59]⟩ : ByteArray) := by
    unfold chainText flowHead
    rw [← ByteArray.mk_append_mk, ← ByteArray.mk_append_mk]
  rw [e] at h
  exact h


set_option maxRecDepth 100000 in
set_option maxHeartbeats 4000000 in
theorem walk_long (a0 : Int) (ad : Option Addr) (len cap : Nat) (a2 : Int) (w : World) (hl : 60 < len) (hm : len ≤ 9223372036854775807) :
    Calls Try.prog 4 #[.int .u8 a0, .slice ad len cap, .int .u8 a2] w fun e w' => e = .returned (.bool true) ∧ Below w.heap.size w w' := by
  have hl' : (60 : Int) < (len : Int) := by omega
  have tok := trivial
  go_enter Try.func4, Try.ntmps4
  repeat' (first | (have _t := tok; (go_at_call 5; refine (awake_any _).mono ?_; rintro e w1 ⟨rfl, hw1⟩; have lw1 := hw1.size); clear tok) | (go_at_call 5; refine (awake_any _).mono ?_; rintro e w2 ⟨rfl, hw2⟩; have lw2 := hw2.size) | go_values | go_skip | go_guarded | go_step | go_upon | (simp only [Int.not_lt, Int.not_le] at *; go_simp) | (go_values <;> (try go_simp)) | (go_ite <;> go_prune <;> (try go_simp)) | (split <;> (first | (rename_i hx; exact (hx _ rfl).elim) | go_prune)))
  go_ret
  exact ⟨rfl, (by repeat (first | (with_reducible exact Below.refl _ _) | ((with_reducible refine below_setAt ?_ ?_ _); (rotate_left; focus (first | omega | (simp; done) | (simp; omega)))) | ((with_reducible refine Below.alloc ?_ ?_ _); (rotate_left; focus (first | omega | (simp; done) | (simp; omega)))) | (with_reducible refine below_drewN ?_ _) | (with_reducible refine Below.drew ?_) | ((with_reducible refine Below.trans ?_ (Below.mono hw2 ?_)); (rotate_left; focus (first | omega | (simp; done) | (simp; omega)))) | ((with_reducible refine Below.trans ?_ (Below.mono hw1 ?_)); (rotate_left; focus (first | omega | (simp; done) | (simp; omega))))))⟩

set_option maxRecDepth 100000 in
set_option maxHeartbeats 4000000 in
theorem walk_short (a0 : Int) (ad : Option Addr) (len cap : Nat) (zs : List Int) (a2 : Int) (w : World) (hl : len ≤ 60) (hr : IsRow .u8 w ad len cap zs) (b01 : 0 ≤ a0) (b02 : a0 ≤ 255) (b21 : 0 ≤ a2) (b22 : a2 ≤ 255) :
    Calls Try.prog 4 #[.int .u8 a0, .slice ad len cap, .int .u8 a2] w fun e w' => e = .returned (.bool true) ∧ Below w.heap.size w w' := by
  have hl' : decide ((60 : Int) < (len : Int)) = false := by simp; omega
  obtain ⟨K, hK, hK2⟩ : ∃ K : Nat, a0 % 60 = (K : Int) ∧ K ≤ 59 := ⟨(a0 % 60).toNat, by omega, by omega⟩
  obtain ⟨D, hD, hD2⟩ : ∃ D : Nat, a2 % 30 = (D : Int) ∧ D ≤ 29 := ⟨(a2 % 30).toNat, by omega, by omega⟩
  have HR := Lib.hid hr
  clear hr
  go_enter Try.func4, Try.ntmps4
  repeat' (first | (go_at_call 5; refine (awake_any _).mono ?_; rintro e w1 ⟨rfl, hw1⟩; have lw1 := hw1.size) | go_values | go_skip | go_guarded | go_step | go_upon | (simp only [Int.not_lt, Int.not_le] at *; go_simp) | (go_values <;> (try go_simp)) | (go_ite <;> go_prune <;> (try go_simp)) | (split <;> (first | (rename_i hx; exact (hx _ rfl).elim) | go_prune)))
  try simp only [hK]
  go_loopw [10] (fun v10 wr => Hid (BRel w w1.heap.size K v10 wr)) (fun v _ => K - (intOf v).toNat)
  case atStart =>
    refine ⟨0, [], 1, 0, 0, 0, sX, .nil, none, 0, rfl, Nat.zero_le _, rfl, by simp, .nil 0, ?_, Nat.le_refl _, .inl rfl, (by repeat (first | (with_reducible exact Below.refl _ _) | ((with_reducible refine below_setAt ?_ ?_ _); (rotate_left; focus (first | omega | (simp; done) | (simp; omega)))) | ((with_reducible refine Below.alloc ?_ ?_ _); (rotate_left; focus (first | omega | (simp; done) | (simp; omega)))) | (with_reducible refine below_drewN ?_ _) | (with_reducible refine Below.drew ?_) | ((with_reducible refine Below.trans ?_ (Below.mono hw1 ?_)); (rotate_left; focus (first | omega | (simp; done) | (simp; omega))))))⟩
    exact heap_new w1 _
  case round =>
    obtain ⟨i, l, k, n, d, a, nm, args, ae, ce, rfl, hi, hli, hlo, hch, hz, hcap, hsl, hbel⟩ := hrel.out
    clear hrel
    have hebl := lt_of_block hz
    obtain ⟨⟨x0, x1, x2, x3, x4, x5⟩, xf⟩ := cells6' hz
    have HZ := Lib.hid hz
    have HSL := Lib.hid hsl
    have HBEL := Lib.hid hbel
    have HCH := Lib.hid hch
    have HLO := Lib.hid hlo
    have HLI := Lib.hid hli
    clear hz hsl hbel hch hlo hli
    by_cases hlt : i < K
    · by_cases hil : i < len
      · obtain ⟨b, off, c, rfl, hbl, hcc, hc0, hc1⟩ := byte_at HR.out i hil
        have hcell : wr.cell? ⟨b, off + i, none⟩ = some (.int .u8 c) := (HBEL.out.cell (p := ⟨b, off + i, none⟩) hbl).trans hcc
        clear hcc
        have hc3 : c % 3 = 0 ∨ c % 3 = 1 ∨ c % 3 = 2 := by omega
        rcases hc3 with hc3 | hc3 | hc3
        · have ix1 : ∀ w, (Instr.index 44 (.agg #[.int .i64 7, .int .i64 3, .int .i64 6]) (.int .i64 0)).run Try.prog w = .ok (.int .i64 7) w := fun w => by kernel_rfl
          have ix2 : ∀ w, (Instr.index 45 (.agg #[.int .i64 0, .int .i64 2, .int .i64 7]) (.int .i64 0)).run Try.prog w = .ok (.int .i64 0) w := fun w => by kernel_rfl
          go_wp2
          go_region
          go_wp2
          exact ⟨brel_next (o := 0) (by omega) hlt HLI.out HLO.out HCH.out HZ.out hcap HSL.out HBEL.out hw1.size, by simp [intOf]; omega⟩
        · have ix1 : ∀ w, (Instr.index 44 (.agg #[.int .i64 7, .int .i64 3, .int .i64 6]) (.int .i64 1)).run Try.prog w = .ok (.int .i64 3) w := fun w => by kernel_rfl
          have ix2 : ∀ w, (Instr.index 45 (.agg #[.int .i64 0, .int .i64 2, .int .i64 7]) (.int .i64 1)).run Try.prog w = .ok (.int .i64 2) w := fun w => by kernel_rfl
          go_wp2
          go_region
          go_wp2
          exact ⟨brel_next (o := 1) (by omega) hlt HLI.out HLO.out HCH.out HZ.out hcap HSL.out HBEL.out hw1.size, by simp [intOf]; omega⟩
        · have ix1 : ∀ w, (Instr.index 44 (.agg #[.int .i64 7, .int .i64 3, .int .i64 6]) (.int .i64 2)).run Try.prog w = .ok (.int .i64 6) w := fun w => by kernel_rfl
          have ix2 : ∀ w, (Instr.index 45 (.agg #[.int .i64 0, .int .i64 2, .int .i64 7]) (.int .i64 2)).run Try.prog w = .ok (.int .i64 7) w := fun w => by kernel_rfl
          go_wp2
          go_region
          go_wp2
          exact ⟨brel_next (o := 2) (by omega) hlt HLI.out HLO.out HCH.out HZ.out hcap HSL.out HBEL.out hw1.size, by simp [intOf]; omega⟩
      · have hil' : ¬ (i : Int) < (len : Int) := by omega
        have hil2 : (len : Int) ≤ (i : Int) := by omega
        have ix1 : ∀ w, (Instr.index 44 (.agg #[.int .i64 7, .int .i64 3, .int .i64 6]) (.int .i64 0)).run Try.prog w = .ok (.int .i64 7) w := fun w => by kernel_rfl
        have ix2 : ∀ w, (Instr.index 45 (.agg #[.int .i64 0, .int .i64 2, .int .i64 7]) (.int .i64 0)).run Try.prog w = .ok (.int .i64 0) w := fun w => by kernel_rfl
        go_wp2
        go_region
        go_wp2
        refine ⟨?_, by simp [intOf]; omega⟩
        have hrr := brel_next (o := 0) (by omega) hlt HLI.out HLO.out HCH.out HZ.out hcap HSL.out HBEL.out hw1.size
        first | exact hrr | ((repeat apply Exists.intro); exact ⟨hrr, rfl⟩)
    · have hiK : i = K := by omega
      have hiK' : (i : Int) = (K : Int) := by omega
      have HTX := Lib.hid (text_any l (by have := HLI.out; omega))
      have HSL0 := Lib.hid (SlA.lt HSL.out)
      go_wp2_with (go_at_call 10; refine (HTX.out _ _ k n d a nm args ae ce HCH.out HSL.out hcap).mono ?_; rintro e w2 ⟨rfl, hw2⟩)
      have HK := Lib.hid hiK'
      have HW2 := Lib.hid hw2
      have hblk : w2.heap[w1.heap.size]? = some (.cells #[.int .i64 k, .string nm, .int .i64 n, .int .i64 d, .slice ae args.len ce, .int .i64 a] 43 (0, 0)) := (hw2.block _ hebl).trans HZ.out
      have HZ2 := Lib.hid hblk
      have HLL := Lib.hid (show l.length ≤ 59 by have := HLI.out; omega)
      have hcl := cL_len l
      have hcl2 : (cL l).length ≤ 414 := by have := HLL.out; omega
      clear hw2 hblk hiK' hcl x0 x1 x2 x3 x4 x5 xf
      simp only [cT_cL]
      go_loop [8, 12] (fun v8 v12 => ∃ j : Nat, j ≤ D ∧ v12 = .int .i64 (j : Int) ∧ v8 = .string ⟨(bC j (cL l)).toArray⟩) (fun _ v => D - (intOf v).toNat)
      case atStart => exact ⟨0, Nat.zero_le _, rfl, rfl⟩
      case round =>
        obtain ⟨j, hj, rfl, rfl⟩ := hrel
        have hbl := bC_len (cL l) j
        by_cases hjD : j < D
        · have A1 := fun w => run_string_add_sum (P := Try.prog) w ⟨#[40]⟩ ⟨(bC j (cL l)).toArray⟩ (by simp [ByteArray.size]; omega)
          have A2 := fun w => run_string_add_sum (P := Try.prog) w (⟨#[40]⟩ ++ ⟨(bC j (cL l)).toArray⟩) ⟨#[41]⟩ (by simp [ByteArray.size, ByteArray.mk_append_mk]; omega)
          have HE := Lib.hid (show (⟨#[40]⟩ ++ ⟨(bC j (cL l)).toArray⟩ : ByteArray) ++ ⟨#[41]⟩ = ⟨(bC (j + 1) (cL l)).toArray⟩ by rw [bC, ← ByteArray.mk_append_mk, ← ByteArray.mk_append_mk])
          go_wp2
          go_round
          case rel => exact ⟨j + 1, by omega, by go_num, by rw [← HE.out]⟩
          case measure => simp [intOf]; omega
        · have hjD' : j = D := by omega
          subst hjD'
          have HPA := Lib.hid (fun w => parse_here l HLO.out HLL.out j hD2 w)
          have hlK := HLI.out
          by_cases h20 : l.length + 1 ≤ 20
          · simp only [if_pos h20] at HPA
            have hK20 : (K : Int) + 1 ≤ 20 := by omega
            go_wp2_with (go_at_call 9; (with_reducible refine (HPA.out _).mono ?_); rintro e w3 ⟨f, hcf, fb, fcap, rfl, hfcap, hfl, hb3⟩)
            obtain ⟨fnm0, ⟨fk, fnm, fn, fd, fargs, fa⟩, fat⟩ := f
            obtain ⟨y0, y1, y2, y3, y4, y6, y7, fad, fcap2, y5, hfcap2, hfA⟩ := hfl
            have hfb : fb < w3.heap.size := World.block_lt_of_cell? _ _ y0
            have hcf' : ChainP l ⟨fk, fnm, fn, fd, fargs, fa⟩ := hcf
            have HCF := Lib.hid hcf'
            have HFA := Lib.hid (show SlA w3 (fun b => w2.heap.size ≤ b) fargs fad from hfA)
            have HSZ := Lib.hid (show fargs.sz ≤ 100000 by have := chain_sz hcf'; simp only at this; omega)
            have hht : (fargs.ht : Int) = (K : Int) := by have := chain_ht hcf'; simp only at this; omega
            have HDP := Lib.hid (fun (w' : World) (h : SlA w' (fun b => w2.heap.size ≤ b) fargs fad) => (by have h' := depth_said w' _ fk fn fd fa fnm fargs fad fcap2 h hfcap2 HSZ.out; rw [hht] at h'; exact h' : Calls Try.prog 11 #[.agg #[.int .i64 fk, .string fnm, .int .i64 fn, .int .i64 fd, .slice fad fargs.len fcap2, .int .i64 fa]] w' fun e w'' => e = .returned (.int .i64 ((K : Int) + 1)) ∧ Below w'.heap.size w' w''))
            clear hht
            have HSL3 := Lib.hid (show SlA w3 (fun b => w1.heap.size < b) args ae from (HSL.out.keep (Same.of_below HW2.out (Same.refl _ _))).keep (Same.of_below hb3 (Same.refl _ _)))
            have hl2 := HW2.out.size
            have hl3 := hb3.size
            have heb3 : w1.heap.size < w3.heap.size := by omega
            have hz3 : w3.heap[w1.heap.size]? = some (.cells #[.int .i64 k, .string nm, .int .i64 n, .int .i64 d, .slice ae args.len ce, .int .i64 a] 43 (0, 0)) := (hb3.block _ (by omega)).trans HZ2.out
            obtain ⟨⟨x0, x1, x2, x3, x4, x5⟩, xf⟩ := cells6' hz3
            have y1' : w3.cell? ⟨fb, 1, none⟩ = some (.int .i64 fk) := y1
            have y2' : w3.cell? ⟨fb, 2, none⟩ = some (.string fnm) := y2
            have y3' : w3.cell? ⟨fb, 3, none⟩ = some (.int .i64 fn) := y3
            have y4' : w3.cell? ⟨fb, 4, none⟩ = some (.int .i64 fd) := y4
            have y5' : w3.cell? ⟨fb, 5, none⟩ = some (.slice fad fargs.len fcap2) := y5
            have y6' : w3.cell? ⟨fb, 6, none⟩ = some (.int .i64 fa) := y6
            have HB3 := Lib.hid hb3
            clear y0 y1 y2 y3 y4 y5 y6 y7 hfA hcf hcf' hz3 xf hb3 hlK h20
            have hsum : IntKind.i64.wrap ((K : Int) + 1) = (K : Int) + 1 := IntWalk.i64_in _ (by omega)
            go_region_held3 (fun w' => w'.cell? ⟨w3.heap.size, 2, none⟩ = some (.slice (some ⟨fb, 0, none⟩) 1 fcap) ∧ w'.cell? ⟨fb, 1, none⟩ = some (.int .i64 fk) ∧ w'.cell? ⟨fb, 2, none⟩ = some (.string fnm) ∧ w'.cell? ⟨fb, 3, none⟩ = some (.int .i64 fn) ∧ w'.cell? ⟨fb, 4, none⟩ = some (.int .i64 fd) ∧ w'.cell? ⟨fb, 5, none⟩ = some (.slice fad fargs.len fcap2) ∧ w'.cell? ⟨fb, 6, none⟩ = some (.int .i64 fa) ∧ w'.cell? ⟨w1.heap.size, 0, none⟩ = some (.int .i64 k) ∧ w'.cell? ⟨w1.heap.size, 1, none⟩ = some (.string nm) ∧ w'.cell? ⟨w1.heap.size, 2, none⟩ = some (.int .i64 n) ∧ w'.cell? ⟨w1.heap.size, 3, none⟩ = some (.int .i64 d) ∧ w'.cell? ⟨w1.heap.size, 4, none⟩ = some (.slice ae args.len ce) ∧ w'.cell? ⟨w1.heap.size, 5, none⟩ = some (.int .i64 a)) (go_keep) (first | (go_at_call 11; refine (HDP.out _ ?_).mono ?_; exact HFA.out.keep (by repeat (first | (with_reducible exact Same.refl _ _) | (with_reducible refine Same.alloc ?_ _) | (with_reducible refine Same.drewN ?_ _) | (with_reducible refine Same.drew ?_) | ((with_reducible refine Same.setCell ?_ ?_ _); focus (fail)))); rintro e w4 ⟨rfl, hb4⟩; have l4 : w3.heap.size + 1 ≤ w4.heap.size := (by have h_ := hb4.size; (try simp at h_); omega); obtain ⟨g4_0, g4_1, g4_2, g4_3, g4_4, g4_5, g4_6, g4_7, g4_8, g4_9, g4_10, g4_11, g4_12⟩ := ds_keep (pb := w3.heap.size) (fb := fb) (eb := w1.heap.size) (v0 := .slice (some ⟨fb, 0, none⟩) 1 fcap) (f1 := .int .i64 fk) (f2 := .string fnm) (f3 := .int .i64 fn) (f4 := .int .i64 fd) (f5 := .slice fad fargs.len fcap2) (f6 := .int .i64 fa) (e0 := .int .i64 k) (e1 := .string nm) (e2 := .int .i64 n) (e3 := .int .i64 d) (e4 := .slice ae args.len ce) (e5 := .int .i64 a) hb4 (by first | omega | (simp; done) | (simp; omega)) (by first | omega | (simp; done) | (simp; omega)) (by first | omega | (simp; done) | (simp; omega)) ⟨by go_simp, by go_simp, by go_simp, by go_simp, by go_simp, by go_simp, by go_simp, by go_simp, by go_simp, by go_simp, by go_simp, by go_simp, by go_simp⟩) | (go_at_call_of 10 fnm; refine (HTX.out _ (fun b => w2.heap.size ≤ b) fk fn fd fa fnm fargs fad fcap2 HCF.out ?_ hfcap2).mono ?_; exact HFA.out.keep (by repeat (first | (with_reducible exact Same.refl _ _) | (with_reducible refine Same.alloc ?_ _) | (with_reducible refine Same.drewN ?_ _) | (with_reducible refine Same.drew ?_) | ((with_reducible refine Same.setCell ?_ ?_ _); focus (fail)) | (with_reducible refine Same.of_below hb4 ?_))); rintro e w5 ⟨rfl, hb5⟩; have l5 : w3.heap.size + 1 ≤ w5.heap.size := (by have h_ := hb5.size; (try simp at h_); omega); obtain ⟨g5_0, g5_1, g5_2, g5_3, g5_4, g5_5, g5_6, g5_7, g5_8, g5_9, g5_10, g5_11, g5_12⟩ := ds_keep (pb := w3.heap.size) (fb := fb) (eb := w1.heap.size) (v0 := .slice (some ⟨fb, 0, none⟩) 1 fcap) (f1 := .int .i64 fk) (f2 := .string fnm) (f3 := .int .i64 fn) (f4 := .int .i64 fd) (f5 := .slice fad fargs.len fcap2) (f6 := .int .i64 fa) (e0 := .int .i64 k) (e1 := .string nm) (e2 := .int .i64 n) (e3 := .int .i64 d) (e4 := .slice ae args.len ce) (e5 := .int .i64 a) hb5 (by first | omega | (simp; done) | (simp; omega)) (by first | omega | (simp; done) | (simp; omega)) (by first | omega | (simp; done) | (simp; omega)) ⟨by go_simp, by go_simp, by go_simp, by go_simp, by go_simp, by go_simp, by go_simp, by go_simp, by go_simp, by go_simp, by go_simp, by go_simp, by go_simp⟩) | (go_at_call_of 10 nm; refine (HTX.out _ (fun b => w1.heap.size < b) k n d a nm args ae ce HCH.out ?_ hcap).mono ?_; exact HSL3.out.keep (by repeat (first | (with_reducible exact Same.refl _ _) | (with_reducible refine Same.alloc ?_ _) | (with_reducible refine Same.drewN ?_ _) | (with_reducible refine Same.drew ?_) | ((with_reducible refine Same.setCell ?_ ?_ _); focus (fail)) | (with_reducible refine Same.of_below hb5 ?_) | (with_reducible refine Same.of_below hb4 ?_))); rintro e w6 ⟨rfl, hb6⟩; have l6 : w3.heap.size + 1 ≤ w6.heap.size := (by have h_ := hb6.size; (try simp at h_); omega); obtain ⟨g6_0, g6_1, g6_2, g6_3, g6_4, g6_5, g6_6, g6_7, g6_8, g6_9, g6_10, g6_11, g6_12⟩ := ds_keep (pb := w3.heap.size) (fb := fb) (eb := w1.heap.size) (v0 := .slice (some ⟨fb, 0, none⟩) 1 fcap) (f1 := .int .i64 fk) (f2 := .string fnm) (f3 := .int .i64 fn) (f4 := .int .i64 fd) (f5 := .slice fad fargs.len fcap2) (f6 := .int .i64 fa) (e0 := .int .i64 k) (e1 := .string nm) (e2 := .int .i64 n) (e3 := .int .i64 d) (e4 := .slice ae args.len ce) (e5 := .int .i64 a) hb6 (by first | omega | (simp; done) | (simp; omega)) (by first | omega | (simp; done) | (simp; omega)) (by first | omega | (simp; done) | (simp; omega)) ⟨by go_simp, by go_simp, by go_simp, by go_simp, by go_simp, by go_simp, by go_simp, by go_simp, by go_simp, by go_simp, by go_simp, by go_simp, by go_simp⟩))
            all_goals
              go_wp2
              go_ret
              have hbel := HBEL.out
              have hw2 := HW2.out
              have hb3 := HB3.out
              have l0 := hbel.size
              exact ⟨rfl, (by repeat (first | (with_reducible exact Below.refl _ _) | ((with_reducible refine below_setAt ?_ ?_ _); (rotate_left; focus (first | omega | (simp; done) | (simp; omega)))) | ((with_reducible refine Below.alloc ?_ ?_ _); (rotate_left; focus (first | omega | (simp; done) | (simp; omega)))) | (with_reducible refine below_drewN ?_ _) | (with_reducible refine Below.drew ?_) | ((with_reducible refine Below.trans ?_ (Below.mono hb6 ?_)); (rotate_left; focus (first | omega | (simp; done) | (simp; omega)))) | ((with_reducible refine Below.trans ?_ (Below.mono hb5 ?_)); (rotate_left; focus (first | omega | (simp; done) | (simp; omega)))) | ((with_reducible refine Below.trans ?_ (Below.mono hb4 ?_)); (rotate_left; focus (first | omega | (simp; done) | (simp; omega)))) | ((with_reducible refine Below.trans ?_ (Below.mono hb3 ?_)); (rotate_left; focus (first | omega | (simp; done) | (simp; omega)))) | ((with_reducible refine Below.trans ?_ (Below.mono hw2 ?_)); (rotate_left; focus (first | omega | (simp; done) | (simp; omega)))) | ((with_reducible refine Below.trans ?_ (Below.mono hbel ?_)); (rotate_left; focus (first | omega | (simp; done) | (simp; omega))))))⟩
          · simp only [if_neg h20] at HPA
            have hK20 : (20 : Int) < (K : Int) + 1 := by omega
            have hK21 : decide ((20 : Int) < (K : Int) + 1) = true := by simpa using hK20
            clear hlK h20
            go_wp2_with (go_at_call 9; (with_reducible refine (HPA.out _).mono ?_); rintro e w3 ⟨pa, rfl, hb3⟩)
            go_ret
            have hbel := HBEL.out
            have hw2 := HW2.out
            have l2 := hw2.size
            have l3 := hb3.size
            have l4 := hbel.size
            exact ⟨rfl, (by repeat (first | (with_reducible exact Below.refl _ _) | ((with_reducible refine below_setAt ?_ ?_ _); (rotate_left; focus (first | omega | (simp; done) | (simp; omega)))) | ((with_reducible refine Below.alloc ?_ ?_ _); (rotate_left; focus (first | omega | (simp; done) | (simp; omega)))) | (with_reducible refine below_drewN ?_ _) | (with_reducible refine Below.drew ?_) | ((with_reducible refine Below.trans ?_ (Below.mono hb3 ?_)); (rotate_left; focus (first | omega | (simp; done) | (simp; omega)))) | ((with_reducible refine Below.trans ?_ (Below.mono hw2 ?_)); (rotate_left; focus (first | omega | (simp; done) | (simp; omega)))) | ((with_reducible refine Below.trans ?_ (Below.mono hbel ?_)); (rotate_left; focus (first | omega | (simp; done) | (simp; omega))))))⟩

end Go.Proofs.Ytlpoimagikolfaa.syn
