/-
  Contract of the package lex's Lex, for texts of up to 4000 bytes (the greater ones are refused at once).
-/
import Derived.Test.YtlpoimagikolfaaLex5
namespace Go.Proofs.Ytlpoimagikolfaa.lex
open Go.RowKit
set_option linter.unusedVariables false
set_option linter.unusedSimpArgs false
open syn (Tok below_setAt below_drewN)

theorem lex_long (s : ByteArray) (w : World) (h : 4000 < s.size) (hs : s.size ≤ 9223372036854775807) : Calls Try.prog 8 #[.string s] w (LexAns w ([], 0, 8)) := by
  go_enter Try.func8, Try.ntmps8
  go_wp2
  go_ret3
  exact ⟨.slice none 0 0, rfl, World.ownsRow_nil _ _ _ _, Below.refl _ _⟩

theorem news_new (w : World) (l : List Value) (t : TypeId) (B : Nat) (hB : B = w.heap.size) : ∀ (j : Nat) (u : Value), l[j]? = some u → (w.alloc (Obj.cells l.toArray t)).cell? ((⟨B, 0, none⟩ : Addr).add j) = some u := by
  intro j u hj
  subst hB
  have : (w.alloc (Obj.cells l.toArray t)).heap[w.heap.size]? = some (Obj.cells l.toArray t) := syn.heap_new _ _
  have ha : ((⟨w.heap.size, 0, none⟩ : Addr).add j) = ⟨w.heap.size, j, none⟩ := by
    unfold Addr.add
    by_cases h0 : j = 0
    · subst h0; simp
    · simp [h0]
  rw [ha]
  simp only [World.cell?, this]
  simpa using hj
theorem own_block {w : World} {base : Nat} {e : TypeId} {size : Nat} {v : Value} {n : Nat} {xs : List Value} (h : w.ownsRow base e size v n xs) : ∀ g, v.ownBlock = some g → base ≤ g := by
  intro g hg
  obtain ⟨_, h⟩ := h
  rcases h with ⟨rfl, _⟩ | ⟨g', cap, cur, rfl, hb, _⟩
  · simp [Value.ownBlock] at hg
  · simp [Value.ownBlock] at hg; omega
theorem drop_ne {s : ByteArray} {k : Nat} (h : k < s.size) : s.data.toList.drop k ≠ [] := by
  intro e
  have := congrArg List.length e
  simp at this
  omega
theorem extract_drop (s : ByteArray) (k : Nat) : (s.extract k s.size).data.toList = s.data.toList.drop k := by
  rw [Lib.extract_data, List.take_of_length_le]
  simp
theorem extract_take (s : ByteArray) (k n : Nat) : (s.extract k (k + n)).data.toList = (s.data.toList.drop k).take n := by
  rw [Lib.extract_data]; congr 1; omega


set_option maxRecDepth 100000 in
set_option maxHeartbeats 4000000 in
theorem lex_any (s : ByteArray) (w : World) (hs : s.size ≤ 4000) : Calls Try.prog 8 #[.string s] w (LexAns w (lexP (s.size + 1) s.data.toList 0 [])) := by
  obtain ⟨fin, hfin⟩ : ∃ fin, lexP (s.size + 1) s.data.toList 0 [] = fin := ⟨_, rfl⟩
  rw [hfin]
  have HF := Lib.hid hfin
  clear hfin
  obtain ⟨i0, hi0, hz0, hz1, hz2⟩ := info_parts info36
  have HI := Lib.hid (And.intro hi0 (And.intro hz0 (And.intro hz1 hz2)))
  clear hi0 hz0 hz1 hz2
  go_enter Try.func8, Try.ntmps8
  go_wp2
  go_loopw [5, 6] (fun v i wr => Hid (LRel w s fin v i wr)) (fun _ i _ => s.size - (intOf i).toNat)
  case atStart => exact ⟨0, [], s.size + 1, by omega, rfl, World.ownsRow_nil _ _ _ _, Below.refl _ _, by omega, by simp, by simpa using HF.out⟩
  case round =>
    obtain ⟨k, acc, m, hk, hi, hown, hbw, hm, hacc, hl⟩ := hrel.out
    clear hrel
    subst hi
    obtain ⟨m, rfl⟩ : ∃ m', m = m' + 1 := ⟨m - 1, by omega⟩
    rw [lexP] at hl
    have HO := Lib.hid hown
    have HB := Lib.hid hbw
    have sB := hbw.size
    clear hown hbw
    by_cases hlt : k < s.size
    · rw [if_neg (drop_ne hlt)] at hl
      have hbd := pieceL_bd _ (drop_ne hlt)
      have hp := fun w => piece_any (s.extract k s.size) w (by simp; omega) (by simp; omega)
      rw [extract_drop] at hp
      obtain ⟨⟨pk, pn⟩, hpe⟩ : ∃ p, pieceL (s.data.toList.drop k) = p := ⟨_, rfl⟩
      rw [hpe] at hp hbd hl
      unfold signV at hp
      simp only at hp hbd hl
      have HP := Lib.hid hp
      clear hp
      by_cases h1 : pk = -1
      · rw [if_pos h1] at hl
        have HL := Lib.hid hl
        subst h1
        clear hl hbd hpe
        go_wp2_with (go_at_call 20; with_reducible refine (HP.out _).mono ?_; rintro e w' ⟨rfl, rfl⟩)
        go_ret3
        rw [← HL.out]
        exact ⟨.slice none 0 0, rfl, World.ownsRow_nil _ _ _ _, HB.out⟩
      · rw [if_neg h1] at hl
        have hbd' := hbd.resolve_left h1
        have n1 : (pk == -1) = false := beq_eq_false_iff_ne.2 h1
        have b1 := hbd'.2.1
        have b2 := hbd'.2.2.1
        simp only [List.length_drop, Array.length_toList] at b2
        have b2' : k + pn ≤ s.size := by have : s.data.size = s.size := rfl; omega
        clear hbd b2
        by_cases h0 : pk = 0
        · rw [if_pos h0] at hl
          have HL := Lib.hid hl
          subst h0
          clear hl hbd' hpe h1
          go_wp2_with (go_at_call 20; with_reducible refine (HP.out _).mono ?_; rintro e w' ⟨rfl, rfl⟩)
          go_roundw
          case rel => exact ⟨k + pn, acc, m, b2', by go_num, HO.out, HB.out, by omega, by omega, by rw [← HL.out, List.drop_drop]⟩
          case measure => simp [intOf]; omega
        · rw [if_neg h0] at hl
          have n0 : (pk == 0) = false := beq_eq_false_iff_ne.2 h0
          have htx := extract_take s k pn
          have hte : (⟨((s.data.toList.drop k).take pn).toArray⟩ : ByteArray) = s.extract k (k + pn) := by rw [Lib.extract_eq]; congr 3; omega
          have hcl := fun w => clone_any (s.extract k (k + pn)) w (by simp; omega)
          unfold tokOf at hl
          simp only [hte] at hl
          by_cases h2 : pk = 2
          · subst h2
            rw [if_pos rfl] at hl
            have hdg := hbd'.2.2.2 rfl
            rw [← htx] at hdg hl
            have hv := fun w => value_any (s.extract k (k + pn)) w (by simp; omega) hdg
            have hvb := valL_bd (s.extract k (k + pn)).data.toList 0 hdg (by omega) (by omega)
            obtain ⟨N, hN⟩ : ∃ N, valL (s.extract k (k + pn)).data.toList 0 = N := ⟨_, rfl⟩
            rw [hN] at hv hl hvb
            have v1 := hvb.1
            have v2 := hvb.2
            have HCL := Lib.hid hcl
            have HV := Lib.hid hv
            clear hcl hv hvb hN hdg htx hte hbd' hpe h1 h0
            by_cases hbig : 1000000000 < N
            · rw [if_pos hbig] at hl
              have HL := Lib.hid hl
              clear hl
              go_wp2_with (first | (go_at_call 20; with_reducible refine (HP.out _).mono ?_; rintro e w' ⟨rfl, rfl⟩) | (go_at_call 21; (with_reducible refine (HCL.out _).mono ?_); rintro e w2 ⟨rfl, hb2⟩; have a2 : wr.heap.size ≤ w2.heap.size := hb2.size) | (go_at_call 22; (with_reducible refine (HV.out _).mono ?_); rintro e w3 ⟨rfl, hb3⟩; obtain ⟨hc3, hf3⟩ := syn.bcell hb3; have a3 : w2.heap.size < w3.heap.size := syn.sz_of hb3 (by simp)))
              go_ret3
              rw [← HL.out]
              exact ⟨.slice none 0 0, rfl, World.ownsRow_nil _ _ _ _, (by repeat (first | (with_reducible exact HB.out) | ((with_reducible refine syn.below_setAt ?_ ?_ _); (rotate_left; focus (first | omega | (simp; done) | (simp; omega)))) | ((with_reducible refine Below.alloc ?_ ?_ _); (rotate_left; focus (first | omega | (simp; done) | (simp; omega)))) | ((with_reducible refine Below.trans ?_ (Below.mono hb3 ?_)); (rotate_left; focus (first | omega | (simp; done) | (simp; omega)))) | ((with_reducible refine Below.trans ?_ (Below.mono hb2 ?_)); (rotate_left; focus (first | omega | (simp; done) | (simp; omega))))))⟩
            · rw [if_neg hbig] at hl
              have HL := Lib.hid hl
              have hsm : N ≤ 1000000000 := by omega
              clear hl hbig
              go_wp2_with (first | (go_at_call 20; with_reducible refine (HP.out _).mono ?_; rintro e w' ⟨rfl, rfl⟩) | (go_at_call 21; (with_reducible refine (HCL.out _).mono ?_); rintro e w2 ⟨rfl, hb2⟩; have a2 : wr.heap.size ≤ w2.heap.size := hb2.size) | (go_at_call 22; (with_reducible refine (HV.out _).mono ?_); rintro e w3 ⟨rfl, hb3⟩; obtain ⟨hc3, hf3⟩ := syn.bcell hb3; have a3 : w2.heap.size < w3.heap.size := syn.sz_of hb3 (by simp)) | (at_builtin; refine wpList_append_own _ rfl _ _ 31 rfl w.heap.size 36 i0 (.agg #[.int .i64 0, .string ⟨#[]⟩, .int .i64 0, .int .i64 0]) 4 40 Try.underlying31 HI.out.1 HI.out.2.1 HI.out.2.2.1 HI.out.2.2.2 rfl (by decide) _ acc.length (cellsAll acc) rfl ?o1a ⟨w3.heap.size, 0, none⟩ 1 1 [.int .i64 2, .string (s.extract k (k + pn)), .int .i64 N, .int .i64 (k : Int)] rfl rfl ?c1a ?c2a ?c3a ?c4a ?c5a ?_))
              case o1a => exact own_below HO.out (by repeat (first | (with_reducible exact Below.refl _ _) | ((with_reducible refine below_setAt ?_ ?_ _); (rotate_left; focus (first | omega | (simp; done) | (simp; omega)))) | ((with_reducible refine Below.alloc ?_ ?_ _); (rotate_left; focus (first | omega | (simp; done) | (simp; omega)))) | (with_reducible refine below_drewN ?_ _) | (with_reducible refine Below.drew ?_) | ((with_reducible refine Below.trans ?_ (Below.mono hb3 ?_)); (rotate_left; focus (first | omega | (simp; done) | (simp; omega)))) | ((with_reducible refine Below.trans ?_ (Below.mono hb2 ?_)); (rotate_left; focus (first | omega | (simp; done) | (simp; omega))))))
              case c1a => exact news_new _ _ _ _ (by simp)
              case c2a => intro u hu; simp at hu; rcases hu with rfl | rfl | rfl | rfl <;> rfl
              case c3a => unfold maxLen; omega
              case c4a => omega
              case c5a => have := hb2.size; have := hb3.size; simp at *; omega
              · intro v' w5 hown5 hgrow5 _; have HO5 := Lib.hid (show w5.ownsRow w.heap.size 36 4 v' (acc ++ [(⟨2, s.extract k (k + pn), N, (k : Int)⟩ : Tok)]).length (cellsAll (acc ++ [(⟨2, s.extract k (k + pn), N, (k : Int)⟩ : Tok)])) by rw [cellsAll_snoc, List.length_append]; exact hown5); have HB5 := Lib.hid (Below.grown ((by repeat (first | (with_reducible exact HB.out) | ((with_reducible refine syn.below_setAt ?_ ?_ _); (rotate_left; focus (first | omega | (simp; done) | (simp; omega)))) | ((with_reducible refine Below.alloc ?_ ?_ _); (rotate_left; focus (first | omega | (simp; done) | (simp; omega)))) | ((with_reducible refine Below.trans ?_ (Below.mono hb3 ?_)); (rotate_left; focus (first | omega | (simp; done) | (simp; omega)))) | ((with_reducible refine Below.trans ?_ (Below.mono hb2 ?_)); (rotate_left; focus (first | omega | (simp; done) | (simp; omega)))))) : Below w.heap.size w _) hgrow5 (by simp; omega) (own_block HO.out)); clear hown5 hgrow5; go_wp2; go_roundw; (case rel => exact ⟨k + pn, acc ++ [(⟨2, s.extract k (k + pn), N, (k : Int)⟩ : Tok)], m, b2', by go_num, HO5.out, HB5.out, by omega, by simp; omega, by rw [← HL.out, List.drop_drop]⟩); (case measure => simp [intOf]; omega)
          · rw [if_neg h2] at hl
            have n2 : (pk == 2) = false := beq_eq_false_iff_ne.2 h2
            rw [if_neg (by omega)] at hl
            have HL := Lib.hid hl
            have HCL := Lib.hid hcl
            clear hcl htx hte hbd' hpe h1 h0 h2 hl
            go_wp2_with (first | (go_at_call 20; with_reducible refine (HP.out _).mono ?_; rintro e w' ⟨rfl, rfl⟩) | (go_at_call 21; (with_reducible refine (HCL.out _).mono ?_); rintro e w2 ⟨rfl, hb2⟩; have a2 : wr.heap.size ≤ w2.heap.size := hb2.size) | (at_builtin; refine wpList_append_own _ rfl _ _ 31 rfl w.heap.size 36 i0 (.agg #[.int .i64 0, .string ⟨#[]⟩, .int .i64 0, .int .i64 0]) 4 40 Try.underlying31 HI.out.1 HI.out.2.1 HI.out.2.2.1 HI.out.2.2.2 rfl (by decide) _ acc.length (cellsAll acc) rfl ?o1b ⟨w2.heap.size + 1, 0, none⟩ 1 1 [.int .i64 pk, .string (s.extract k (k + pn)), .int .i64 0, .int .i64 (k : Int)] rfl rfl ?c1b ?c2b ?c3b ?c4b ?c5b ?_))
            case o1b => exact own_below HO.out (by repeat (first | (with_reducible exact Below.refl _ _) | ((with_reducible refine below_setAt ?_ ?_ _); (rotate_left; focus (first | omega | (simp; done) | (simp; omega)))) | ((with_reducible refine Below.alloc ?_ ?_ _); (rotate_left; focus (first | omega | (simp; done) | (simp; omega)))) | (with_reducible refine below_drewN ?_ _) | (with_reducible refine Below.drew ?_) | ((with_reducible refine Below.trans ?_ (Below.mono hb2 ?_)); (rotate_left; focus (first | omega | (simp; done) | (simp; omega))))))
            case c1b => exact news_new _ _ _ _ (by simp)
            case c2b => intro u hu; simp at hu; rcases hu with rfl | rfl | rfl | rfl <;> rfl
            case c3b => unfold maxLen; omega
            case c4b => omega
            case c5b => have := hb2.size; simp at *; omega
            · intro v' w5 hown5 hgrow5 _; have HO5 := Lib.hid (show w5.ownsRow w.heap.size 36 4 v' (acc ++ [(⟨pk, s.extract k (k + pn), 0, (k : Int)⟩ : Tok)]).length (cellsAll (acc ++ [(⟨pk, s.extract k (k + pn), 0, (k : Int)⟩ : Tok)])) by rw [cellsAll_snoc, List.length_append]; exact hown5); have HB5 := Lib.hid (Below.grown ((by repeat (first | (with_reducible exact HB.out) | ((with_reducible refine syn.below_setAt ?_ ?_ _); (rotate_left; focus (first | omega | (simp; done) | (simp; omega)))) | ((with_reducible refine Below.alloc ?_ ?_ _); (rotate_left; focus (first | omega | (simp; done) | (simp; omega)))) | ((with_reducible refine Below.trans ?_ (Below.mono hb3 ?_)); (rotate_left; focus (first | omega | (simp; done) | (simp; omega)))) | ((with_reducible refine Below.trans ?_ (Below.mono hb2 ?_)); (rotate_left; focus (first | omega | (simp; done) | (simp; omega)))))) : Below w.heap.size w _) hgrow5 (by simp; omega) (own_block HO.out)); clear hown5 hgrow5; go_wp2; go_roundw; (case rel => exact ⟨k + pn, acc ++ [(⟨pk, s.extract k (k + pn), 0, (k : Int)⟩ : Tok)], m, b2', by go_num, HO5.out, HB5.out, by omega, by simp; omega, by rw [← HL.out, List.drop_drop]⟩); (case measure => simp [intOf]; omega)
    · have hk0 : k = s.size := by omega
      have HL := Lib.hid hl
      clear hl
      go_wp2
      go_ret3
      have hnil : s.data.toList.drop k = [] := List.drop_eq_nil_of_le (by simp; omega)
      have := HL.out
      rw [if_pos hnil] at this
      rw [← this]
      exact ⟨_, rfl, HO.out, HB.out⟩

end Go.Proofs.Ytlpoimagikolfaa.lex
