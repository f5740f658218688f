/-
  Depth, three: the walk.
-/
import Derived.Test.YtlpoimagikolfaaDepth2
namespace Go.Proofs.Ytlpoimagikolfaa.syn
open Go.RowKit
set_option linter.unusedVariables false
set_option linter.unusedSimpArgs false

theorem infoLL : (Try.prog.info? 41).map (fun i => (i.zero, i.size, i.bytes)) = some (some (.slice none 0 0), 1, 24) := by kernel_rfl

theorem own_at {w : World} {base : Nat} {e : TypeId} {size : Nat} {v : Value} {n : Nat} {xs : List Value} (h : w.ownsRow base e size v n xs) : ∀ g, v.ownBlock = some g → base ≤ g ∧ g < w.heap.size := by
  intro g hg
  rcases h.2 with ⟨rfl, _⟩ | ⟨g', cap, cur, rfl, hb, hgg, _⟩
  · cases hg
  · simp only [Value.ownBlock, Option.some.injEq] at hg
    subst hg
    exact ⟨hb, lt_of_block hgg⟩

theorem DW.lt {B : Nat} {w W wr : World} {M : List (Key × Int)} (h : DW B w W wr M) : B + 1 < wr.heap.size := by
  obtain ⟨arr, clock, hh, _⟩ := h.map
  exact lt_of_block hh
theorem DW.keep {B : Nat} {w W wr wa : World} {M : List (Key × Int)} (h : DW B w W wr M) (hb : Below wr.heap.size wr wa) : DW B w W wa M where
  below := h.below.trans (hb.mono (by have := h.lt; omega))
  same := Same.of_below hb h.same
  map := by
    obtain ⟨arr, clock, hh, he⟩ := h.map
    exact ⟨arr, clock, (hb.block _ h.lt).trans hh, he⟩
  keys := h.keys
theorem DW.put {B : Nat} {w W wr : World} {M : List (Key × Int)} (h : DW B w W wr M) {k : Key} {u : Int} {o : Obj} (hk : OkB W (DQ B) k.b) (hm : MapIs (World.put wr (B + 1) o) (B + 1) (putL k u M)) : DW B w W (World.put wr (B + 1) o) (putL k u M) where
  below := h.below.trans ⟨rfl, rfl, rfl, by simp [World.put], fun i hi => by
    show (wr.heap.setIfInBounds (B + 1) o)[i]? = _
    rw [Array.getElem?_setIfInBounds_ne (by omega)]⟩
  same := h.same.trans ⟨by simp [World.put], fun i hi _ => by
    show (wr.heap.setIfInBounds (B + 1) o)[i]? = _
    rw [Array.getElem?_setIfInBounds_ne (by unfold DQ at hi; omega)]⟩
  map := hm
  keys := fun p hp => by
    rcases mem_putL hp with rfl | hp
    · exact hk
    · exact h.keys p hp
theorem LevIs.put {base B : Nat} {w : World} {v : Value} {xs : List LV} (h : LevIs base w v xs) (hB : B + 1 < base) (o : Obj) : LevIs base (World.put w (B + 1) o) v xs := by
  refine ⟨h.1, ?_⟩
  rcases h.2 with hn | ⟨g, cap, cur, rfl, hb', hgg, rest⟩
  · exact .inl hn
  · refine .inr ⟨g, cap, cur, rfl, hb', ?_, rest⟩
    show (w.heap.setIfInBounds (B + 1) o)[g]? = _
    rw [Array.getElem?_setIfInBounds_ne (by omega)]; exact hgg
theorem DW.grown {B : Nat} {w W wr w6 : World} {M : List (Key × Int)} {row : Option Nat} (h : DW B w W wr M) (hg : wr.grownBy w6 row) (hr : ∀ k, row = some k → B + 3 ≤ k) : DW B w W w6 M where
  below := Below.grown h.below hg (by have := h.lt; omega) (fun k e => by have := hr k e; omega)
  same := h.same.trans ⟨hg.size, fun i hi hlt => hg.block i hlt (fun e => by have := hr i e.symm; unfold DQ at hi; omega)⟩
  map := by
    obtain ⟨arr, clock, hh, he⟩ := h.map
    exact ⟨arr, clock, (hg.block _ h.lt (fun e => by have := hr _ e.symm; omega)).trans hh, he⟩
  keys := h.keys
theorem DW.free {B : Nat} {w W wr : World} {M : List (Key × Int)} (h : DW B w W wr M) {b : Nat} (hb : OkB W (DQ B) b) : Free wr b := by
  obtain ⟨cs, hc⟩ := hb.2
  exact ⟨cs, (h.same.block b hb.1 hb.lt).trans hc⟩
theorem DW.frees {B : Nat} {w W wr : World} {M : List (Key × Int)} (h : DW B w W wr M) : ∀ p ∈ M, Free wr p.1.b := by
  intro p hp
  have hk : OkB W (DQ B) p.1.b := h.keys p hp
  exact h.free hk

/-- The round's end where the list is empty, or was met. -/
theorem irel_next {B H base : Nat} {w W wr wa : World} {d : Nat} {xs : List LV} {v5 v6 : Value} {i : Nat} {x : LV} {j : Nat} {M : List (Key × Int)} {bs : List LV} {t' : Nat} {rest : PL} {v24 : Value}
    (hb : Below wr.heap.size wr wa) (hv : v24 = .int .i64 ((j : Int) + 1)) (hj : j + 1 + rest.len = x.pl.len) (hc : Cells W (DQ B) x.k.b rest (x.k.o + j * 6 + 6)) (h5 : LevIs (B + 3) wr v5 xs) (h6 : LevIs base wr v6 bs) (hok : ∀ x ∈ bs, x.ok W (DQ B))
    (hm : max t' (max rest.amax (lmax (xs.drop (i + 1)))) + d = H) (hz : lsz bs + rest.sz + lsz (xs.drop (i + 1)) ≤ 100001) (hmet : Met (htAt W (DQ B)) H d M (bs.map LV.k) t') (hd : DW B w W wr M) (hbase : base ≤ wr.heap.size) :
    IRel B H base w W d xs v5 i x v6 v24 wa :=
  ⟨j + 1, M, bs, t', rest, by rw [hv]; simp, hj, by rw [show x.k.o + (j + 1) * 6 = x.k.o + j * 6 + 6 by omega]; exact hc, LevIs.below (B := 0) h5 hb, LevIs.below (B := 0) h6 hb, hok, hm, hz, hmet, hd.keep hb, Nat.le_trans hbase hb.size⟩

theorem cells2' {w : World} {b : Nat} {v0 v1 : Value} {t : TypeId} (h : w.heap[b]? = some (.cells #[v0, v1] t (0, 0))) :
    (w.cell? ⟨b, 0, none⟩ = some v0 ∧ w.cell? ⟨b, 1, none⟩ = some v1) ∧ ∀ o, w.frozen? ⟨b, o, none⟩ = false := by
  refine ⟨⟨?_, ?_⟩, ?_⟩
  all_goals first | (intro o; simp [World.frozen?, h]) | simp [World.cell?, h]

theorem news_at (w : World) (l : List Value) (t : TypeId) (B : Nat) (hB : B = w.heap.size) : ∀ (j : Nat) (u : Value), l[j]? = some u → (w.alloc (Obj.cells l.toArray t)).cell? ((⟨B, 0, none⟩ : Addr).add j) = some u := by
  intro j u hj
  subst hB
  have : (w.alloc (Obj.cells l.toArray t)).heap[w.heap.size]? = some (Obj.cells l.toArray t) := heap_new _ _
  have ha : ((⟨w.heap.size, 0, none⟩ : Addr).add j) = ⟨w.heap.size, j, none⟩ := by
    unfold Addr.add
    by_cases h0 : j = 0
    · subst h0; simp
    · simp [h0]
  rw [ha]
  simp only [World.cell?, this]
  simpa using hj

theorem two_new {wr wa : World} {o1 o2 : Obj} (h : ((wr.alloc o1).alloc o2).drew = wa) : Below wr.heap.size wr wa ∧ wa.heap.size = wr.heap.size + 2 ∧ wa.heap[wr.heap.size]? = some o1 ∧ wa.heap[wr.heap.size + 1]? = some o2 := by
  subst h
  refine ⟨(by repeat (first | (with_reducible exact Below.refl _ _) | ((with_reducible refine below_setAt ?_ ?_ _); (rotate_left; focus (first | omega | (simp; done) | (simp; omega)))) | ((with_reducible refine Below.alloc ?_ ?_ _); (rotate_left; focus (first | omega | (simp; done) | (simp; omega)))) | (with_reducible refine below_drewN ?_ _) | (with_reducible refine Below.drew ?_))), ?_, ?_, ?_⟩
  · show ((wr.heap.push o1).push o2).size = _; simp
  · show ((wr.heap.push o1).push o2)[wr.heap.size]? = _
    rw [Array.getElem?_push, if_neg (by simp), Array.getElem?_push, if_pos rfl]
  · show ((wr.heap.push o1).push o2)[wr.heap.size + 1]? = _
    rw [Array.getElem?_push, if_pos (by simp)]

theorem put_block {w w5 : World} {mb b : Nat} {o : Obj} (h : World.put w mb o = w5) (hb : b ≠ mb) : w5.heap[b]? = w.heap[b]? := by
  subst h
  show (w.heap.setIfInBounds mb o)[b]? = _
  rw [Array.getElem?_setIfInBounds_ne (by omega)]
theorem put_size {w w5 : World} {mb : Nat} {o : Obj} (h : World.put w mb o = w5) : w5.heap.size = w.heap.size := by
  subst h; show (w.heap.setIfInBounds mb o).size = _; simp

/-- The round's end where the list is new to the level. -/
theorem irel_put {B H base : Nat} {w W wr w5 wb w6 : World} {d : Nat} {xs : List LV} {v5 v6 v' : Value} {i : Nat} {x : LV} {j : Nat} {M : List (Key × Int)} {bs : List LV} {t : Nat} {rest : PL} {v24 : Value} {y : LV} {o : Obj}
    (h0 : DW B w W wr M) (hwb : Below w5.heap.size w5 wb) (hs : wr.heap.size ≤ w5.heap.size) (hd : DW B w W w5 (putL y.k d M)) (hv : v24 = .int .i64 ((j : Int) + 1)) (hj : j + 1 + rest.len = x.pl.len) (hc : Cells W (DQ B) x.k.b rest (x.k.o + j * 6 + 6))
    (h5 : LevIs (B + 3) w5 v5 xs) (h5b : ∀ g, v5.ownBlock = some g → g < base) (h6 : LevIs base wb v6 bs) (hown : w6.ownsRow base 41 1 v' (bs.length + 1) (bs.map LV.v ++ [y.v])) (hg : wb.grownBy w6 v6.ownBlock)
    (hy : y.ok W (DQ B)) (hok : ∀ x ∈ bs, x.ok W (DQ B)) (hB : B + 3 ≤ base)
    (hm : max (max t y.pl.ht) (max rest.amax (lmax (xs.drop (i + 1)))) + d = H) (hz : lsz bs + y.pl.sz + rest.sz + lsz (xs.drop (i + 1)) ≤ 100001) (hmet : Met (htAt W (DQ B)) H d M (bs.map LV.k) t) (hbase : base ≤ wr.heap.size) :
    IRel B H base w W d xs v5 i x v' v24 w6 := by
  refine ⟨j + 1, putL y.k d M, bs ++ [y], max t y.pl.ht, rest, by rw [hv]; simp, hj, by rw [show x.k.o + (j + 1) * 6 = x.k.o + j * 6 + 6 by omega]; exact hc, ?_, ?_, ?_, hm, by rw [lsz_snoc]; exact hz, ?_, ?_, ?_⟩
  · have h5' := LevIs.below (B := 0) h5 hwb
    unfold LevIs at h5' ⊢
    refine h5'.kept hg ?_
    cases hv5 : v5.ownBlock with
    | none => exact .inl rfl
    | some g5 =>
      refine .inr fun e => ?_
      have h1 := h5b g5 hv5
      have h2 := (own_at h6 g5 e.symm).1
      omega
  · unfold LevIs; simpa using hown
  · intro z hz
    rw [List.mem_append, List.mem_singleton] at hz
    rcases hz with hz | rfl
    · exact hok z hz
    · exact hy
  · have := hmet.put y.k
    rw [hy.ht] at this
    simpa using this
  · exact (hd.keep hwb).grown hg (fun k e => by have := (own_at h6 k e).1; omega)
  · have := hwb.size; have := hg.size; omega

set_option maxRecDepth 100000 in
set_option maxHeartbeats 4000000 in
theorem depth_any {w : World} (k n d a : Int) (nm : ByteArray) (args : PL) (ad : Option Addr) (cap : Nat) {P : Nat → Prop} (hs : SlA w P args ad) (hcap : args.len ≤ cap) (hz : args.sz ≤ 100000) :
    Calls Try.prog 11 #[.agg #[.int .i64 k, .string nm, .int .i64 n, .int .i64 d, .slice ad args.len cap, .int .i64 a]] w fun e w' => e = .returned (.int .i64 ((args.ht : Int) + 1)) ∧ Below w.heap.size w w' := by
  have HS := Lib.hid (hs.mono (Q := fun b => b < w.heap.size) (fun b _ h => h))
  have hsz := PL.ht_sz args
  have hH : ∃ H, args.ht + 1 = H := ⟨_, rfl⟩
  obtain ⟨H, hH⟩ := hH
  have hH2 : H ≤ 100001 := by omega
  have hHi : (args.ht : Int) + 1 = (H : Int) := by omega
  rw [hHi]
  have HZ := Lib.hid hz
  have hmk := fun w => run_makeMap (P := Try.prog) 74 w
  clear hs hz
  go_enter Try.func11, Try.ntmps11
  go_wp2
  go_region
  go_wp2
  generalize hW : World.drew _ = W
  obtain ⟨hdw, hlev, hok, hWs⟩ := dstart k n d a nm args ad cap HS.out hcap W hW
  have HW := Lib.hid (show H = args.ht + 1 from hH.symm)
  have HDW := Lib.hid hdw
  have HLEV := Lib.hid hlev
  have HOK := Lib.hid hok
  clear hW hdw hlev hok hmk hsz hH hHi
  go_loopw [4, 5] (fun v4 v5 wr => Hid (ORel w.heap.size H w W v4 v5 wr)) (fun v _ _ => H - (intOf v).toNat)
  case atStart =>
    have h := HW.out
    have h2 := PL.ht_amax (PE.one ⟨k, nm, n, d, args, a⟩) (by intro h; cases h)
    have h3 : (PE.one ⟨k, nm, n, d, args, a⟩).sz = args.sz + 1 := rfl
    have h4 := HZ.out
    have h5 : (PE.one ⟨k, nm, n, d, args, a⟩).ht = max (args.ht + 1) 0 := rfl
    refine ⟨1, [_], [], rfl, Nat.le_refl _, by omega, by simp, HLEV.out, fun x hx => ?_, ?_, ?_, Met.first _ _, HDW.out⟩
    · rw [List.mem_singleton] at hx; subst hx; exact HOK.out
    · simp only [lmax]; omega
    · simp only [lsz]; omega
  case round =>
    obtain ⟨d, xs, M, rfl, hd1, hd2, hne, hlev, hok, hmax, hsz, hmet, hdw⟩ := hrel.out
    clear hrel
    obtain ⟨g, c5, rfl, hg1, hg2, hc5, hcell⟩ := hlev.at hne
    have HLV := Lib.hid hlev
    have HOKS := Lib.hid hok
    have HMET := Lib.hid hmet
    have HD := Lib.hid hdw
    have HC := Lib.hid hcell
    have hsz5 := lsz_len xs hok
    clear hlev hok hmet hdw hcell
    obtain ⟨base, hbs0⟩ : ∃ base, wr.heap.size = base := ⟨_, rfl⟩
    rw [hbs0] at hg2
    have hbge := Nat.le_of_eq hbs0.symm
    go_wp2
    go_loopw [6, 18] (fun v6 v18 wr1 => Hid (MRel w.heap.size H base w W d xs (.slice (some ⟨g, 0, none⟩) xs.length c5) v6 v18 wr1)) (fun _ i _ => xs.length - (intOf i).toNat)
    case atStart => exact ⟨0, M, [], 0, rfl, Nat.zero_le _, HLV.out, World.ownsRow_nil _ _ _ _, (fun x hx => by cases hx), by simpa using hmax, by simpa [lsz] using hsz, HMET.out, HD.out, hbge⟩
    case round =>
      obtain ⟨i, M1, bs, t, rfl, hi, hl5, hl6, hoks, hmx, hsz1, hmet1, hdw1, hbase⟩ := hrel.out
      clear hrel
      obtain ⟨a6, c6, rfl, hc6⟩ := hl6.form
      by_cases hlt : i < xs.length
      · have hL5 := Lib.hid hl5
        have hci : wr.cell? ⟨g, i, none⟩ = some (xs[i].v) := by
          obtain ⟨g', c', e, _, _, _, hc⟩ := hl5.at hne
          injection e with e _ _
          injection e with e
          injection e with e
          subst e
          exact hc i hlt
        have hoki : (xs[i]).ok W (DQ w.heap.size) := HOKS.out _ (List.getElem_mem hlt)
        have hdr := drop_lv hlt
        obtain ⟨x, hx⟩ : ∃ x, xs[i] = x := ⟨_, rfl⟩
        rw [hx] at hci hoki hdr
        rw [hdr] at hmx hsz1
        simp only [lmax, lsz] at hmx hsz1
        obtain ⟨⟨xb, xo, xn⟩, pl, cp⟩ := x
        obtain ⟨ok1, ok2, ok3, ok4, ok5⟩ := hoki
        simp only at ok1 ok2 ok3 ok4 ok5 hmx hsz1
        simp only [LV.v] at hci
        have hpls := PL.len_sz pl
        have HX := Lib.hid hx
        have HCE := Lib.hid ok5
        have HOK4 := Lib.hid ok4
        have HD1 := Lib.hid hdw1
        have HM1 := Lib.hid hmet1
        have HL6 := Lib.hid hl6
        have HOKB := Lib.hid hoks
        clear hdr hx hl5 ok5 ok4 hdw1 hmet1 hl6 hoks
        go_wp2
        go_loopw [6, 24] (fun v6 v24 wr2 => Hid (IRel w.heap.size H base w W d xs (.slice (some ⟨g, 0, none⟩) xs.length c5) i ⟨⟨xb, xo, xn⟩, pl, cp⟩ v6 v24 wr2)) (fun _ j _ => pl.len - (intOf j).toNat)
        case atStart => exact ⟨0, M1, bs, t, pl, rfl, by simp, by simpa using HCE.out, hL5.out, HL6.out, HOKB.out, hmx, by omega, HM1.out, HD1.out, hbase⟩
        case round =>
          obtain ⟨j, M2, cs, t2, rest, rfl, hj, hce, hl5, hl6, hoks, hmx2, hsz2, hmet2, hdw2, hbase2⟩ := hrel.out
          clear hrel
          have HL5 := Lib.hid hl5
          have HL6 := Lib.hid hl6
          have HOK2 := Lib.hid hoks
          have HM2 := Lib.hid hmet2
          have HD2 := Lib.hid hdw2
          have hbl := hdw2.same.block xb HOK4.out.1 HOK4.out.lt
          cases rest with
          | nil =>
            simp only [PL.len, PL.amax, PL.sz] at hj hmx2 hsz2
            obtain ⟨a7, c7, rfl, hc7⟩ := hl6.form
            have hjl : (j : Int) = pl.len := by omega
            clear hl5 hl6 hoks hmet2 hdw2 hbl hce
            go_wp2
            exact ⟨⟨i + 1, M2, cs, t2, by simp, by omega, HL5.out, HL6.out, HOK2.out, by omega, by omega, HM2.out, HD2.out, hbase2⟩, by simp [intOf]; omega⟩
          | cons k1 nm1 n1 d1 args1 a1 tl =>
            obtain ⟨e0, e1, e2, e3, e5, ⟨ad1, cap1, e4, hcap1, hd4⟩, htl⟩ := hce
            have hcc : ∀ o, wr.cell? ⟨xb, o, none⟩ = W.cell? ⟨xb, o, none⟩ := fun o => World.cell?_of_block (w := W) (a := ⟨xb, o, none⟩) hbl
            rw [← hcc] at e0 e1 e2 e3 e4 e5
            have hjl : (j : Int) < pl.len := by simp only [PL.len] at hj; omega
            have hlen' : ((j : Int) + 1).toNat = j + 1 := by omega
            simp only [PL.len] at hj
            simp only [PL.amax, PL.sz] at hmx2 hsz2
            have HTL := Lib.hid htl
            have hbsz := lsz_len cs hoks
            have hdlt := hdw2.lt
            obtain ⟨a7, c7, rfl, hc7⟩ := hl6.form
            have hg5 := hl5.at hne
            clear hl5 hl6 hoks hmet2 hdw2 hbl hcc htl
            by_cases hn1 : args1 = .nil
            · subst hn1
              have e4' : wr.cell? ⟨xb, xo + j * 6 + 4, none⟩ = some (.slice ad1 0 cap1) := e4
              clear e4 hd4
              go_wp2
              refine ⟨irel_next (wr := wr) (t' := t2) (by repeat (first | (with_reducible exact Below.refl _ _) | ((with_reducible refine below_setAt ?_ ?_ _); (rotate_left; focus (first | omega | (simp; done) | (simp; omega)))) | ((with_reducible refine Below.alloc ?_ ?_ _); (rotate_left; focus (first | omega | (simp; done) | (simp; omega)))) | (with_reducible refine below_drewN ?_ _) | (with_reducible refine Below.drew ?_))) (by simp) (by show j + 1 + tl.len = pl.len; omega) HTL.out HL5.out HL6.out HOK2.out (by simp only [PL.ht] at hmx2; omega) (by simp only [PL.sz] at hsz2; omega) HM2.out HD2.out hbase2, by simp [intOf]; omega⟩
            · obtain ⟨b1, o1, rfl, hokb1, hce1⟩ := hd4.resolve_left hn1
              have hl0 : ((args1.len : Int) == 0) = false := by rw [beq_eq_false_iff_ne]; intro e; exact hn1 (PL.len_zero (by omega))
              have hl1 : 0 < args1.len := Nat.pos_of_ne_zero (fun e => hn1 (PL.len_zero e))
              have hl2 : (0 : Int) < args1.len := by omega
              have HOB := Lib.hid hokb1
              have HC1 := Lib.hid hce1
              have HN := Lib.hid hn1
              clear hokb1 hce1 hd4 hn1
              have HMX := Lib.hid hmx2
              have HSZ := Lib.hid hsz2
              have htop := (show LV.ok W (DQ w.heap.size) ⟨⟨b1, o1, args1.len⟩, args1, cap1⟩ from ⟨rfl, HN.out, hcap1, HOB.out, HC1.out⟩)
              have HT := Lib.hid htop
              clear htop hmx2 hsz2
              by_cases hget : getI ⟨b1, o1, args1.len⟩ M2 < (d : Int)
              · go_wp2
                go_region
                generalize hwa : World.drew _ = wa
                obtain ⟨hbwa, hsa, hx0, hx1⟩ := two_new hwa
                obtain ⟨⟨p0, p1, p2, p3, p4, p5⟩, pf⟩ := cells6' hx0
                obtain ⟨⟨q0, q1⟩, qf⟩ := cells2' hx1
                have hdwa := HD2.out.keep hbwa
                have hlook := map_look hdwa.map ⟨b1, o1, args1.len⟩ (hdwa.free HOB.out) hdwa.frees
                unfold Key.v at hlook
                simp only at hlook
                obtain ⟨arr, clock, hput, hmi⟩ := map_put hdwa.map ⟨b1, o1, args1.len⟩ (d : Int) (hdwa.free HOB.out) hdwa.frees
                have hd5 := hdwa.put HOB.out hmi
                have h55 : LevIs (w.heap.size + 3) (World.put wa (w.heap.size + 1) (.map arr clock)) (.slice (some ⟨g, 0, none⟩) xs.length c5) xs := (LevIs.below (B := 0) HL5.out hbwa).put (by omega) _
                have h56 : LevIs base (World.put wa (w.heap.size + 1) (.map arr clock)) (.slice a7 cs.length c7) cs := (LevIs.below (B := 0) HL6.out hbwa).put (by omega) _
                unfold Key.v at hput
                simp only at hput
                generalize hw5 : World.put wa (w.heap.size + 1) (.map arr clock) = w5 at *
                have hx0' := (put_block hw5 (show wr.heap.size ≠ w.heap.size + 1 by omega)).trans hx0
                obtain ⟨⟨r0, r1, r2, r3, r4, r5⟩, rf⟩ := cells6' hx0'
                have hs5 := put_size hw5
                have H55 := Lib.hid h55
                have H56 := Lib.hid h56
                have HD5 := Lib.hid hd5
                have HS5 := Lib.hid (show w5.heap.size = wr.heap.size + 2 by omega)
                have hlt5 : wr.heap.size < w5.heap.size := by omega
                clear hwa hbwa hsa hx0 hx1 hdwa hmi hd5 h55 h56 hw5 hx0' hs5
                obtain ⟨i0, hi0, hz0, hz1, hz2⟩ := info_parts infoLL
                have HI := Lib.hid (And.intro hi0 (And.intro hz0 (And.intro hz1 hz2)))
                clear hi0 hz0 hz1 hz2
                go_wp2_with (at_builtin; refine wpList_append_own _ rfl _ _ 75 rfl base 41 i0 (.slice none 0 0) 1 24 Try.underlying75 HI.out.1 HI.out.2.1 HI.out.2.2.1 HI.out.2.2.2 rfl (by decide) _ cs.length (cs.map LV.v) rfl (World.ownsRow.alloc (show w5.ownsRow base 41 1 _ _ _ from H56.out) _) ⟨w5.heap.size, 0, none⟩ 1 1 [.slice (some ⟨b1, o1, none⟩) args1.len cap1] rfl rfl ?c1 ?c2 ?c3 ?c4 ?c5 ?_)
                case c1 => exact news_at _ _ _ _ rfl
                case c2 => intro u hu; simp at hu; subst hu; rfl
                case c3 => unfold maxLen; have := HSZ.out; omega
                case c4 => have := HSZ.out; omega
                case c5 => have := HS5.out; simp; omega
                intro v' w6 hown6 hg6 _
                have HO6 := Lib.hid hown6
                have HG6 := Lib.hid hg6
                clear hown6 hg6
                go_wp2
                refine ⟨irel_put (wr := wr) (w5 := w5) (y := ⟨⟨b1, o1, args1.len⟩, args1, cap1⟩) (t := t2) (rest := tl) (o := .map #[] 0) HD2.out (by repeat (first | (with_reducible exact Below.refl _ _) | ((with_reducible refine below_setAt ?_ ?_ _); (rotate_left; focus (first | omega | (simp; done) | (simp; omega)))) | ((with_reducible refine Below.alloc ?_ ?_ _); (rotate_left; focus (first | omega | (simp; done) | (simp; omega)))) | (with_reducible refine below_drewN ?_ _) | (with_reducible refine Below.drew ?_))) (by have := HS5.out; omega) HD5.out (by simp) (by show j + 1 + tl.len = pl.len; omega) HTL.out H55.out (fun g' e => by cases e; exact hg2) ((show LevIs base w5 _ cs from H56.out).below (B := 0) (by repeat (first | (with_reducible exact Below.refl _ _) | ((with_reducible refine below_setAt ?_ ?_ _); (rotate_left; focus (first | omega | (simp; done) | (simp; omega)))) | ((with_reducible refine Below.alloc ?_ ?_ _); (rotate_left; focus (first | omega | (simp; done) | (simp; omega)))) | (with_reducible refine below_drewN ?_ _) | (with_reducible refine Below.drew ?_)))) HO6.out HG6.out HT.out HOK2.out (by omega) (by have := HMX.out; show max (max t2 args1.ht) _ + d = H; omega) (by have := HSZ.out; show lsz cs + args1.sz + _ + _ ≤ _; omega) HM2.out hbase2, by simp [intOf]; omega⟩
              · go_wp2
                go_region
                generalize hwa : World.drew _ = wa
                obtain ⟨hbwa, hsa, hx0, hx1⟩ := two_new hwa
                obtain ⟨⟨p0, p1, p2, p3, p4, p5⟩, pf⟩ := cells6' hx0
                obtain ⟨⟨q0, q1⟩, qf⟩ := cells2' hx1
                have hdwa := HD2.out.keep hbwa
                have hlook := map_look hdwa.map ⟨b1, o1, args1.len⟩ (hdwa.free HOB.out) hdwa.frees
                unfold Key.v at hlook
                simp only at hlook
                have HBW := Lib.hid hbwa
                clear hwa hbwa hsa hx0 hx1 hdwa
                go_wp2
                refine ⟨irel_next (wr := wr) (t' := max t2 args1.ht) HBW.out (by simp) (by show j + 1 + tl.len = pl.len; omega) HTL.out HL5.out HL6.out HOK2.out (by have := HMX.out; omega) (by have := HSZ.out; omega) (by have := HM2.out.skip ⟨b1, o1, args1.len⟩ (by omega) (Int.not_lt.2 hget); rw [HT.out.ht] at this; exact this) HD2.out hbase2, by simp [intOf]; omega⟩
      · have hie : i = xs.length := by omega
        have hmx' : t + d = H := by rw [hie, List.drop_length] at hmx; simp only [lmax] at hmx; omega
        have hmap := map_len hdw1.map 3
        have hb1 := lsz_len bs hoks
        by_cases hbs : bs = []
        · subst hbs
          have ht0 : t = 0 := by have := hmet1.top; simpa [maxF] using this.symm
          have hdH : (d : Int) = H := by omega
          have HE := Lib.hid hdw1.below
          go_wp2
          go_ret
          exact ⟨by rw [hdH]; rfl, HE.out⟩
        · have hB : bs.map LV.k ≠ [] := by simpa using hbs
          have hml := lmax_met bs hoks hbs
          rw [hmet1.top] at hml
          have hlen := hmet1.len (by omega) hd2 hB
          have HN := Lib.hid (hmet1.start (by omega) hB)
          have HL6 := Lib.hid (show LevIs (w.heap.size + 3) wr (.slice a6 bs.length c6) bs from hl6.mono (by omega))
          have HD1 := Lib.hid hdw1
          have HOKB := Lib.hid hoks
          have hb0 : ((bs.length : Int) == 0) = false := by
            rw [beq_eq_false_iff_ne]; intro h; exact hbs (List.length_eq_zero_iff.1 (by omega))
          have hl0 : ¬ ((M1.length : Int) < (d : Int)) := by omega
          have hl1 : (d : Int) ≤ (M1.length : Int) := by omega
          have HBS := Lib.hid hbs
          clear hmet1 hl6 hdw1 hoks hB hl5 hbs
          go_wp2
          exact ⟨⟨d + 1, bs, M1, by simp, by omega, by omega, HBS.out, HL6.out, HOKB.out, by omega, by omega, HN.out, HD1.out⟩, by simp [intOf]; omega⟩

theorem depth_said : DepthSaid := fun w P k n d a nm args ad cap hs hcap hz => depth_any k n d a nm args ad cap hs hcap hz

end Go.Proofs.Ytlpoimagikolfaa.syn
