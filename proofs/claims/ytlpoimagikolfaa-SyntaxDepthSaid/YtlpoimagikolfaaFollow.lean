/-
  Contract of what 'followed' makes: a tree and the signs behind it.
-/
import Derived.Test.YtlpoimagikolfaaFactor
import Derived.Test.YtlpoimagikolfaaAdv
namespace Go.Proofs.Ytlpoimagikolfaa.syn
open Go.RowKit
set_option linter.unusedVariables false
set_option linter.unusedSimpArgs false

theorem Same.drew {P : Nat → Prop} {a w : World} (h : Same P a w) : Same P a w.drew := ⟨h.size, h.block⟩

theorem St.next_len (S : St) : S.next.toks.length = S.toks.length - 1 := by unfold St.next; simp
theorem St.fail_len (S : St) (a e : Int) : (S.fail a e).toks.length = 0 := by unfold St.fail; split <;> rfl
theorem St.need_len (en : Int) (b : Bool) (S : St) : (S.need en b).2.toks.length ≤ S.toks.length - 1 := by
  unfold St.need
  simp only
  rw [St.next_len]
  cases b with
  | true => exact Nat.le_refl _
  | false => simp only [Bool.false_eq_true, if_false]; rw [St.fail_len]; omega
theorem St.want_len (en : Int) (zs : List ByteArray) (S : St) : (S.want en zs).2.toks.length ≤ S.toks.length - 1 := S.need_len en _
theorem St.number_len (en lo hi : Int) (S : St) : (S.number en lo hi).2.toks.length ≤ S.toks.length - 1 := by
  unfold St.number
  simp only
  split
  · rw [St.fail_len]; omega
  · exact S.need_len en _
theorem St.whole_len (e : PE) (S : St) : (S.whole e).toks.length ≤ S.toks.length := by
  unfold St.whole; split
  · rw [St.fail_len]; omega
  · exact Nat.le_refl _
theorem St.factored_len (en : Int) (e : PE) (S : St) : (S.factored en e).2.toks.length ≤ S.toks.length - 1 := by
  have h1 := S.next_len
  unfold St.factored
  split
  · have := S.next.number_len en 1 100; dsimp only; omega
  · split
    · have := S.next.number_len en 1 100; dsimp only; omega
    · have a := S.next.number_len en 0 100
      have b := (S.next.number en 0 100).2.want_len en [sSlash]
      have c := ((S.next.number en 0 100).2.want en [sSlash]).2.number_len en 1 100
      dsimp only; omega

/-- Nothing is seen at the end but what has no text. -/
theorem sees_some {en : Int} {zs : List ByteArray} {S : St} (h : seesP en zs S = true) (hz : (⟨#[]⟩ : ByteArray) ∉ zs) : 1 ≤ S.toks.length := by
  unfold seesP St.peek at h
  cases hS : S.toks with
  | nil => rw [hS] at h; exact absurd ((Lib.containsS_iff _ _).1 h) hz
  | cons x l => simp

def signs3 : List ByteArray := [sOver, sUnder, sShift]
theorem signs3_empty : (⟨#[]⟩ : ByteArray) ∉ signs3 := by simp [signs3, sOver, sUnder, sShift]
def followLoop (en : Int) : Nat → PE → St → PE × St
  | 0, e, S => (e, S)
  | m + 1, e, S => if seesP en signs3 S = true then followLoop en m (S.factored en e).1 ((S.factored en e).2.whole (S.factored en e).1) else (e, S)

theorem adv_factored {S : St} {en : Int} {e : PE} (h : seesP en signs3 S = true) : Adv S (S.factored en e).2 1 ∧ (S.factored en e).1.sz = e.sz + 1 := by
  have hn := adv_next (toks_sees signs3_empty h)
  unfold St.factored
  split
  · exact ⟨(hn.trans adv_number).less (by omega), rfl⟩
  · split
    · exact ⟨(hn.trans adv_number).less (by omega), rfl⟩
    · exact ⟨((((hn.trans adv_number).trans (adv_want (by simp [sSlash]))).trans adv_number)).less (by omega), rfl⟩

/-- An expression that was read, and the reader behind it. -/
def TreeAns (w : World) (r : Nat) (en : Int) (A : PE × St) (e : Ending) (w' : World) : Prop :=
  (∃ ad cap, e = .returned (.agg #[.int .i64 A.1.k, .string A.1.nm, .int .i64 A.1.n, .int .i64 A.1.d, .slice ad A.1.args.len cap, .int .i64 A.1.a]) ∧ A.1.args.len ≤ cap ∧ SlA w' (fun b => w.heap.size ≤ b) A.1.args ad) ∧
    Rd w' r en A.2 ∧ Upon r w w'

/-- How many tokens the reader's memory holds. -/
def rdLen (w : World) (r : Nat) : Nat := match w.cell? ⟨r, 0, none⟩ with | some (.slice _ n _) => n | _ => 0
theorem rdLen_eq {w : World} {r : Nat} {en : Int} {S : St} (h : Rd w r en S) : rdLen w r = S.toks.length := by
  obtain ⟨⟨tv, wb, h1, h2, _, _⟩, _⟩ := h
  have c := (blk_cells h1).1
  unfold rdLen
  rw [c]
  rcases h2 with ⟨a, cap, rfl, he⟩ | ⟨tb, o, cap, rfl, _⟩
  · rw [he]; rfl
  · rfl

theorem cells6 {w : World} {b : Nat} {v0 v1 v2 v3 v4 v5 : Value} {t : TypeId} (h : w.heap[b]? = some (.cells #[v0, v1, v2, v3, v4, v5] t (0, 0))) :
    (w.cell? ⟨b, 0, none⟩ = some v0 ∧ w.cell? ⟨b, 1, none⟩ = some v1 ∧ w.cell? ⟨b, 2, none⟩ = some v2 ∧ w.cell? ⟨b, 3, none⟩ = some v3 ∧ w.cell? ⟨b, 4, none⟩ = some v4 ∧ w.cell? ⟨b, 5, none⟩ = some v5) ∧ ∀ o, w.frozen? ⟨b, o, none⟩ = false := by
  refine ⟨⟨?_, ?_, ?_, ?_, ?_, ?_⟩, ?_⟩
  all_goals first | (intro o; simp [World.frozen?, h]) | simp [World.cell?, h]

/-- What holds at the loop's head: the tree in its box, the reader, what is still to be done. -/
def FRel (w : World) (r : Nat) (en : Int) (eb : Nat) (fin : PE × St) (wr : World) : Prop :=
  ∃ k nm n d args a ad cap S m, wr.heap[eb]? = some (.cells #[.int .i64 k, .string nm, .int .i64 n, .int .i64 d, .slice ad args.len cap, .int .i64 a] 43 (0, 0)) ∧ args.len ≤ cap ∧
    SlA wr (fun b => w.heap.size ≤ b ∧ b ≠ eb ∧ b ≠ w.heap.size) args ad ∧ Rd wr r en S ∧ Upon r w wr ∧
    wr.heap[w.heap.size]? = some (.cells #[.int .i64 0, .string ⟨#[]⟩, .int .i64 0, .int .i64 0, .slice none 0 0, .int .i64 0] 43 (0, 0)) ∧
    S.toks.length < m ∧ followLoop en m ⟨k, nm, n, d, args, a⟩ S = fin ∧ (S.err = 0 → args.sz + 1 + S.toks.length ≤ 100000)

theorem factored_at {w : World} {r : Nat} {en : Int} {S : St} (h : Rd w r en S) {k n d a : Int} {nm : ByteArray} {args : PL} {ad : Option Addr} {cap : Nat} {P : Nat → Prop} (hP : ¬ P r) (hs : SlA w P args ad) (hcap : args.len ≤ cap)
    (hx : seesP en signs3 S = true) {fk fn fd fa : Int} {fnm : ByteArray} {fargs : PL} {SF : St} (hy : S.factored en ⟨k, nm, n, d, args, a⟩ = (⟨fk, fnm, fn, fd, fargs, fa⟩, SF)) :
    Calls Try.prog 77 #[.pointer (some ⟨r, 0, none⟩), .agg #[.int .i64 k, .string nm, .int .i64 n, .int .i64 d, .slice ad args.len cap, .int .i64 a]] w fun e w' =>
      (∃ ad', e = .returned (.agg #[.int .i64 fk, .string fnm, .int .i64 fn, .int .i64 fd, .slice ad' fargs.len 1, .int .i64 fa]) ∧ fargs.len ≤ 1 ∧ SlA w' (fun b => P b ∨ w.heap.size ≤ b) fargs ad') ∧ Rd w' r en SF ∧ Upon r w w' := by
  have hx' : (S.peek en).t = sOver ∨ (S.peek en).t = sUnder ∨ (S.peek en).t = sShift := by
    have := (Lib.containsS_iff _ _).1 (show Lib.containsS signs3 (S.peek en).t = true from hx)
    simpa [signs3] using this
  have hl : (S.factored en ⟨k, nm, n, d, args, a⟩).1.args.len ≤ 1 := by
    unfold St.factored; split
    · exact Nat.le_refl _
    · split <;> exact Nat.le_refl _
  have := factored_any h k n d a nm args ad cap hP hs hcap hx'
  rw [hy] at this hl
  exact this.mono (fun e w' ⟨⟨ad', h1, h2⟩, h3, h4⟩ => ⟨⟨ad', h1, hl, h2⟩, h3, h4⟩)

theorem set6 {w : World} {b : Nat} {v0 v1 v2 v3 v4 v5 : Value} {t : TypeId} (h : w.heap[b]? = some (.cells #[v0, v1, v2, v3, v4, v5] t (0, 0))) (u0 u1 u2 u3 u4 u5 : Value) :
    ((((((w.setCell ⟨b, 0, none⟩ u0).setCell ⟨b, 1, none⟩ u1).setCell ⟨b, 2, none⟩ u2).setCell ⟨b, 3, none⟩ u3).setCell ⟨b, 4, none⟩ u4).setCell ⟨b, 5, none⟩ u5).heap[b]? = some (.cells #[u0, u1, u2, u3, u4, u5] t (0, 0)) := by
  have one : ∀ {w : World} {c : Array Value} (o : Nat) (u : Value), w.heap[b]? = some (.cells c t (0, 0)) → (w.setCell ⟨b, o, none⟩ u).heap[b]? = some (.cells (c.setIfInBounds o u) t (0, 0)) := by
    intro w c o u h
    have hlt := lt_of_block h
    have h' : w.heap[b] = .cells c t (0, 0) := by simpa [Array.getElem?_eq_getElem hlt] using h
    show (w.heap.modify b _)[b]? = _
    rw [Array.getElem?_eq_getElem (by simpa using hlt), Array.getElem_modify_self, h']
    rfl
  exact one 5 u5 (one 4 u4 (one 3 u3 (one 2 u2 (one 1 u1 (one 0 u0 h)))))



set_option maxRecDepth 100000 in
set_option maxHeartbeats 8000000 in
theorem followed_any (hD : DepthSaid) {w : World} {r : Nat} {en : Int} (nb rb : Nat) (hr : r < w.heap.size) (A : PE × St) (HA0 : ∀ w1, Below (r + 1) w w1 → w.heap.size ≤ w1.heap.size → Calls Try.prog 65 #[.pointer (some ⟨r, 0, none⟩)] w1 (TreeAns w1 r en A))
    (hn : w.cell? ⟨nb, 0, none⟩ = some (.func (.func 65) #[.pointer (some ⟨r, 0, none⟩)] #[])) (hrb : w.cell? ⟨rb, 0, none⟩ = some (.pointer (some ⟨r, 0, none⟩))) (hnr : nb ≠ r) (hrr : rb ≠ r)
    (m : Nat) (hm : A.2.toks.length < m) (hz0 : A.2.err = 0 → A.1.sz + A.2.toks.length ≤ 100000) :
    Calls Try.prog 76 #[.pointer (some ⟨nb, 0, none⟩), .pointer (some ⟨rb, 0, none⟩)] w (TreeAns w r en (followLoop en m A.1 A.2)) := by
  have hnb : nb < w.heap.size := block_lt_of_cell hn
  have hrbs : rb < w.heap.size := block_lt_of_cell hrb
  obtain ⟨⟨ak, anm, an, adn, aargs, aa⟩, SA⟩ := A
  obtain ⟨fin, hfin⟩ : ∃ fin, followLoop en m ⟨ak, anm, an, adn, aargs, aa⟩ SA = fin := ⟨_, rfl⟩
  simp only at hm hz0
  have HZ0 := Lib.hid (show SA.err = 0 → aargs.sz + 1 + SA.toks.length ≤ 100000 from hz0)
  clear hz0
  rw [hfin]
  have HF := Lib.hid hfin
  have HM := Lib.hid hm
  have HA := Lib.hid (fun w1 (h : Below (r + 1) w w1 ∧ w.heap.size ≤ w1.heap.size) => HA0 w1 h.1 h.2)
  clear hfin hm HA0
  go_enter Try.func76, Try.ntmps76
  repeat' (first | (go_at_call 65; refine (HA.out _ ⟨?_, ?_⟩).mono ?_; exact (by repeat (first | (with_reducible exact Below.refl _ _) | ((with_reducible refine below_setAt ?_ ?_ _); (rotate_left; focus (first | omega | (simp; done) | (simp; omega)))) | ((with_reducible refine Below.alloc ?_ ?_ _); (rotate_left; focus (first | omega | (simp; done) | (simp; omega)))) | (with_reducible refine below_drewN ?_ _) | (with_reducible refine Below.drew ?_))); (focus (simp; done)); rintro e w1 ⟨⟨ad1, cap1, rfl, hcap1, hs1⟩, hR1, hu1⟩; have HR1 := Lib.hid hR1; have HS1 := Lib.hid hs1; have hr1 := hR1.lt; clear hR1 hs1; have nwheapsize_0 : ¬ w.heap.size = r := (by omega); have nw1heapsize_1 : ¬ w1.heap.size = r := (by omega); obtain ⟨hc_, hf_⟩ := ucell hu1; have kcw1_0 := fun o => hc_ (w.heap.size) o (by first | omega | (simp; done) | (simp; omega)) (by omega); have kfw1_0 := fun o => hf_ (w.heap.size) o (by first | omega | (simp; done) | (simp; omega)) (by omega); have lw1_0 : w.heap.size < w1.heap.size := Nat.lt_of_lt_of_le (by first | omega | (simp; done) | (simp; omega)) hu1.size; have mw1_0 := Nat.lt_succ_of_lt lw1_0; have qw1_0 := Nat.lt_succ_of_lt mw1_0; have mw1_0 : w.heap.size < w1.heap.size + 1 := mw1_0; have qw1_0 : w.heap.size < w1.heap.size + 1 + 1 := qw1_0; have kcw1_1 := fun o => hc_ (rb) o (by first | omega | (simp; done) | (simp; omega)) (by omega); have kfw1_1 := fun o => hf_ (rb) o (by first | omega | (simp; done) | (simp; omega)) (by omega); have lw1_1 : rb < w1.heap.size := Nat.lt_of_lt_of_le (by first | omega | (simp; done) | (simp; omega)) hu1.size; have mw1_1 := Nat.lt_succ_of_lt lw1_1; have qw1_1 := Nat.lt_succ_of_lt mw1_1; have mw1_1 : rb < w1.heap.size + 1 := mw1_1; have qw1_1 : rb < w1.heap.size + 1 + 1 := qw1_1; clear hc_ hf_) | go_values | go_skip | go_guarded | go_step | go_upon | (simp only [Int.not_lt, Int.not_le] at *; go_simp) | (go_values <;> (try go_simp)) | (go_ite <;> go_prune <;> (try go_simp)) | (split <;> (first | (rename_i hx; exact (hx _ rfl).elim) | go_prune)))
  go_loopw [8] (fun _ wr => Hid (FRel w r en w1.heap.size fin wr)) (fun _ wr => rdLen wr r)
  case atStart =>
    have hs1 := HS1.out
    refine ⟨ak, anm, an, adn, aargs, aa, ad1, cap1, SA, m, heap_new _ _, hcap1, ?_, Rd.below HR1.out (by repeat (first | (with_reducible exact Below.refl _ _) | ((with_reducible refine below_setAt ?_ ?_ _); (rotate_left; focus (first | omega | (simp; done) | (simp; omega)))) | ((with_reducible refine Below.alloc ?_ ?_ _); (rotate_left; focus (first | omega | (simp; done) | (simp; omega)))) | (with_reducible refine below_drewN ?_ _) | (with_reducible refine Below.drew ?_))), (by repeat (first | (with_reducible exact Upon.refl _ _) | ((with_reducible refine Upon.setAt ?_ ?_ _); (rotate_left; focus (first | exact Or.inl rfl | omega | (simp; done) | (simp; omega)))) | (with_reducible refine Upon.alloc ?_ _) | (with_reducible refine Upon.drewN ?_ _) | (with_reducible refine Upon.drew ?_) | (with_reducible refine Upon.trans ?_ hu1))), ?_, HM.out, HF.out, HZ0.out⟩
    · exact (hs1.mono (fun b h1 h2 => ⟨by simp at h1; omega, by omega, by simp at h1; omega⟩)).keep (Same.alloc (Same.refl _ _) _)
    · rw [((by repeat (first | (with_reducible exact Same.refl _ _) | (with_reducible refine Same.alloc ?_ _) | (with_reducible refine Same.drewN ?_ _) | (with_reducible refine Same.drew ?_) | ((with_reducible refine Same.setCell ?_ ?_ _); focus (omega)) | ((with_reducible refine Same.upon ?_ hu1 ?_); focus (omega)))) : Same (fun b => b = w.heap.size) (w.alloc (Obj.cells #[.int .i64 0, .string ⟨#[]⟩, .int .i64 0, .int .i64 0, .slice none 0 0, .int .i64 0] 43)) _).block _ rfl (by simp)]
      exact heap_new _ _
  case round =>
    obtain ⟨k, nm, n, d, args, a, ad, cap, S, q, hb, hcap, hs, hR, hu, hres, hq, hfl, hzr⟩ := hrel.out
    clear hrel
    have hlen := rdLen_eq hR
    have hrr' := hR.lt
    obtain ⟨⟨c0, c1, c2, c3, c4, c5⟩, fr⟩ := cells6 hb
    obtain ⟨⟨g0, g1, g2, g3, g4, g5⟩, gr⟩ := cells6 hres
    have hbl := lt_of_block hb
    have hrl := lt_of_block hres
    have crb := (hu.cell (p := ⟨rb, 0, none⟩) hrbs hrr).trans hrb
    have hrbl := block_lt_of_cell crb
    have HRr := Lib.hid hR
    obtain ⟨xk, xt, xn, xa, hx⟩ : ∃ xk xt xn xa, S.peek en = ⟨xk, xt, xn, xa⟩ := ⟨_, _, _, _, rfl⟩
    have HXr := Lib.hid hx
    have HBL := Lib.hid hb
    have HRES := Lib.hid hres
    have HS := Lib.hid hs
    obtain ⟨q', rfl⟩ : ∃ q', q = q' + 1 := ⟨q - 1, by omega⟩
    rw [followLoop] at hfl
    clear hR hb hres hs
    cases hsee : Lib.containsS signs3 xt with
    | false =>
      have hse : seesP en signs3 S = false := by unfold seesP; rw [hx]; exact hsee
      rw [if_neg (by rw [hse]; decide)] at hfl
      have HFL := Lib.hid hfl
      have HB := Lib.hid hsee
      clear hfl hx hsee hse hq hlen hzr
      repeat' (first | (go_at_call 44; refine (sees_any (Rd.below HRr.out ?_) HXr.out _ _ _ signs3 rfl (by simp [signs3]) ?_ ?_).mono ?_; exact (by repeat (first | (with_reducible exact Below.refl _ _) | ((with_reducible refine below_setAt ?_ ?_ _); (rotate_left; focus (first | omega | (simp; done) | (simp; omega)))) | ((with_reducible refine Below.alloc ?_ ?_ _); (rotate_left; focus (first | omega | (simp; done) | (simp; omega)))) | (with_reducible refine below_drewN ?_ _) | (with_reducible refine Below.drew ?_))); (focus (first | omega | (simp; done) | (simp; omega))); exact strs3 _ _ _ _ _ (by simp); rw [HB.out]; rintro e w2 ⟨rfl, hb2⟩; obtain ⟨hc_, hf_⟩ := bcell hb2; have kcw2_0 := fun o => hc_ (w.heap.size) o (by first | omega | (simp; done) | (simp; omega)); have kfw2_0 := fun o => hf_ (w.heap.size) o (by first | omega | (simp; done) | (simp; omega)); have lw2_0 : w.heap.size < w2.heap.size := Nat.lt_of_lt_of_le (by first | omega | (simp; done) | (simp; omega)) hb2.size; have mw2_0 := Nat.lt_succ_of_lt lw2_0; have qw2_0 := Nat.lt_succ_of_lt mw2_0; have mw2_0 : w.heap.size < w2.heap.size + 1 := mw2_0; have qw2_0 : w.heap.size < w2.heap.size + 1 + 1 := qw2_0; have kcw2_1 := fun o => hc_ (w1.heap.size) o (by first | omega | (simp; done) | (simp; omega)); have kfw2_1 := fun o => hf_ (w1.heap.size) o (by first | omega | (simp; done) | (simp; omega)); have lw2_1 : w1.heap.size < w2.heap.size := Nat.lt_of_lt_of_le (by first | omega | (simp; done) | (simp; omega)) hb2.size; have mw2_1 := Nat.lt_succ_of_lt lw2_1; have qw2_1 := Nat.lt_succ_of_lt mw2_1; have mw2_1 : w1.heap.size < w2.heap.size + 1 := mw2_1; have qw2_1 : w1.heap.size < w2.heap.size + 1 + 1 := qw2_1; have kcw2_2 := fun o => hc_ (rb) o (by first | omega | (simp; done) | (simp; omega)); have kfw2_2 := fun o => hf_ (rb) o (by first | omega | (simp; done) | (simp; omega)); have lw2_2 : rb < w2.heap.size := Nat.lt_of_lt_of_le (by first | omega | (simp; done) | (simp; omega)) hb2.size; have mw2_2 := Nat.lt_succ_of_lt lw2_2; have qw2_2 := Nat.lt_succ_of_lt mw2_2; have mw2_2 : rb < w2.heap.size + 1 := mw2_2; have qw2_2 : rb < w2.heap.size + 1 + 1 := qw2_2; clear hc_ hf_) | go_values | go_skip | go_guarded | go_step | go_upon | (simp only [Int.not_lt, Int.not_le] at *; go_simp) | (go_values <;> (try go_simp)) | (go_ite <;> go_prune <;> (try go_simp)) | (split <;> (first | (rename_i hx; exact (hx _ rfl).elim) | go_prune)))
      refine bodyPost_ret (v := .agg #[.int .i64 k, .string nm, .int .i64 n, .int .i64 d, .slice ad args.len cap, .int .i64 a]) ?_ rfl ?_; focus (simp only [results, Try.results76]; go_simp)
      rw [← HFL.out]
      refine ⟨⟨ad, cap, rfl, hcap, ?_⟩, Rd.below HRr.out (by repeat (first | (with_reducible exact Below.refl _ _) | ((with_reducible refine below_setAt ?_ ?_ _); (rotate_left; focus (first | omega | (simp; done) | (simp; omega)))) | ((with_reducible refine Below.alloc ?_ ?_ _); (rotate_left; focus (first | omega | (simp; done) | (simp; omega)))) | (with_reducible refine below_drewN ?_ _) | (with_reducible refine Below.drew ?_) | ((with_reducible refine Below.trans ?_ (Below.mono hb2 ?_)); (rotate_left; focus (first | omega | (simp; done) | (simp; omega)))))), (by repeat (first | (with_reducible exact Upon.refl _ _) | ((with_reducible refine Upon.setAt ?_ ?_ _); (rotate_left; focus (first | exact Or.inl rfl | omega | (simp; done) | (simp; omega)))) | (with_reducible refine Upon.alloc ?_ _) | (with_reducible refine Upon.drewN ?_ _) | (with_reducible refine Upon.drew ?_) | (with_reducible refine Upon.trans ?_ (Upon.of_below hb2)) | (with_reducible refine Upon.trans ?_ hu)))⟩
      refine SlA.mono (P := fun b => w.heap.size ≤ b ∧ b ≠ w1.heap.size ∧ b ≠ w.heap.size) ?_ (fun b h _ => h.1)
      refine SlA.keep HS.out ?_
      exact (by repeat (first | (with_reducible exact Same.refl _ _) | (with_reducible refine Same.alloc ?_ _) | (with_reducible refine Same.drewN ?_ _) | (with_reducible refine Same.drew ?_) | ((with_reducible refine Same.setCell ?_ ?_ _); focus (omega)) | (with_reducible refine Same.of_below hb2 ?_)))
    | true =>
      have hse : seesP en signs3 S = true := by unfold seesP; rw [hx]; exact hsee
      rw [if_pos hse] at hfl
      obtain ⟨fk, fnm, fn, fd, fargs, fa, SF, hF⟩ : ∃ fk fnm fn fd fargs fa SF, S.factored en ⟨k, nm, n, d, args, a⟩ = (⟨fk, fnm, fn, fd, fargs, fa⟩, SF) := ⟨_, _, _, _, _, _, _, rfl⟩
      have hl1 := S.factored_len en ⟨k, nm, n, d, args, a⟩
      have hl2 := St.whole_len ⟨fk, fnm, fn, fd, fargs, fa⟩ SF
      have hl3 := sees_some hse signs3_empty
      have hl4 := adv_factored (e := ⟨k, nm, n, d, args, a⟩) hse
      rw [hF] at hfl hl1 hl4
      simp only at hfl hl1 hl4
      have HZ := Lib.hid (show SF.err = 0 → fargs.sz ≤ 100000 from fun e => by
        have h1 := hl4.1 e
        have h2 := hzr h1.1
        have h3 : fargs.sz + 1 = args.sz + 1 + 1 := hl4.2
        omega)
      have HZ2 := Lib.hid (show (SF.whole ⟨fk, fnm, fn, fd, fargs, fa⟩).err = 0 → fargs.sz + 1 + (SF.whole ⟨fk, fnm, fn, fd, fargs, fa⟩).toks.length ≤ 100000 from fun e => by
        have h0 := adv_whole e
        have h1 := hl4.1 h0.1
        have h2 := hzr h1.1
        have h3 : fargs.sz + 1 = args.sz + 1 + 1 := hl4.2
        omega)
      have HFL := Lib.hid hfl
      have HB := Lib.hid hsee
      have HSE := Lib.hid hse
      have HFA := Lib.hid hF
      have HQ := Lib.hid (show (SF.whole ⟨fk, fnm, fn, fd, fargs, fa⟩).toks.length < q' by omega)
      have HL := Lib.hid (show (SF.whole ⟨fk, fnm, fn, fd, fargs, fa⟩).toks.length < rdLen wr r by omega)
      clear hfl hx hsee hse hq hlen hF hl1 hl2 hl3 hl4 hzr
      go_wp2_with (first | (go_at_call 44; refine (sees_any (Rd.below HRr.out ?_) HXr.out _ _ _ signs3 rfl (by simp [signs3]) ?_ ?_).mono ?_; exact (by repeat (first | (with_reducible exact Below.refl _ _) | ((with_reducible refine below_setAt ?_ ?_ _); (rotate_left; focus (first | omega | (simp; done) | (simp; omega)))) | ((with_reducible refine Below.alloc ?_ ?_ _); (rotate_left; focus (first | omega | (simp; done) | (simp; omega)))) | (with_reducible refine below_drewN ?_ _) | (with_reducible refine Below.drew ?_))); (focus (first | omega | (simp; done) | (simp; omega))); exact strs3 _ _ _ _ _ (by simp); rw [HB.out]; rintro e w2 ⟨rfl, hb2⟩; obtain ⟨hc_, hf_⟩ := bcell hb2; have kcw2_0 := fun o => hc_ (w.heap.size) o (by first | omega | (simp; done) | (simp; omega)); have kfw2_0 := fun o => hf_ (w.heap.size) o (by first | omega | (simp; done) | (simp; omega)); have lw2_0 : w.heap.size < w2.heap.size := Nat.lt_of_lt_of_le (by first | omega | (simp; done) | (simp; omega)) hb2.size; have mw2_0 := Nat.lt_succ_of_lt lw2_0; have qw2_0 := Nat.lt_succ_of_lt mw2_0; have mw2_0 : w.heap.size < w2.heap.size + 1 := mw2_0; have qw2_0 : w.heap.size < w2.heap.size + 1 + 1 := qw2_0; have kcw2_1 := fun o => hc_ (w1.heap.size) o (by first | omega | (simp; done) | (simp; omega)); have kfw2_1 := fun o => hf_ (w1.heap.size) o (by first | omega | (simp; done) | (simp; omega)); have lw2_1 : w1.heap.size < w2.heap.size := Nat.lt_of_lt_of_le (by first | omega | (simp; done) | (simp; omega)) hb2.size; have mw2_1 := Nat.lt_succ_of_lt lw2_1; have qw2_1 := Nat.lt_succ_of_lt mw2_1; have mw2_1 : w1.heap.size < w2.heap.size + 1 := mw2_1; have qw2_1 : w1.heap.size < w2.heap.size + 1 + 1 := qw2_1; have kcw2_2 := fun o => hc_ (rb) o (by first | omega | (simp; done) | (simp; omega)); have kfw2_2 := fun o => hf_ (rb) o (by first | omega | (simp; done) | (simp; omega)); have lw2_2 : rb < w2.heap.size := Nat.lt_of_lt_of_le (by first | omega | (simp; done) | (simp; omega)) hb2.size; have mw2_2 := Nat.lt_succ_of_lt lw2_2; have qw2_2 := Nat.lt_succ_of_lt mw2_2; have mw2_2 : rb < w2.heap.size + 1 := mw2_2; have qw2_2 : rb < w2.heap.size + 1 + 1 := qw2_2; clear hc_ hf_))
      go_region_with (first | (go_at_call 77; refine (factored_at (P := (fun b => w.heap.size ≤ b ∧ b ≠ w1.heap.size ∧ b ≠ w.heap.size)) (Rd.below HRr.out ?_) ?_ ?_ hcap HSE.out HFA.out).mono ?_; exact (by repeat (first | (with_reducible exact Below.refl _ _) | ((with_reducible refine below_setAt ?_ ?_ _); (rotate_left; focus (first | omega | (simp; done) | (simp; omega)))) | ((with_reducible refine Below.alloc ?_ ?_ _); (rotate_left; focus (first | omega | (simp; done) | (simp; omega)))) | (with_reducible refine below_drewN ?_ _) | (with_reducible refine Below.drew ?_) | ((with_reducible refine Below.trans ?_ (Below.mono hb2 ?_)); (rotate_left; focus (first | omega | (simp; done) | (simp; omega)))))); (focus (show ¬ (w.heap.size ≤ r ∧ r ≠ w1.heap.size ∧ r ≠ w.heap.size); omega)); exact (SlA.keep HS.out (by repeat (first | (with_reducible exact Same.refl _ _) | (with_reducible refine Same.alloc ?_ _) | (with_reducible refine Same.drewN ?_ _) | (with_reducible refine Same.drew ?_) | ((with_reducible refine Same.setCell ?_ ?_ _); focus (omega)) | (with_reducible refine Same.of_below hb2 ?_)))); rintro e w3 ⟨⟨ad3, rfl, hcap3, hs3⟩, hR3, hu3⟩; have HR3 := Lib.hid hR3; have HS3 := Lib.hid (hs3.mono (Q := (fun b => w.heap.size ≤ b ∧ b ≠ w1.heap.size ∧ b ≠ w.heap.size)) (fun b h _ => by rcases h with h | h; exact h; (first | omega | (simp at h; omega)))); have hr3 := hR3.lt; clear hR3 hs3; obtain ⟨hc_, hf_⟩ := ucell hu3; have kcw3_0 := fun o => hc_ (w.heap.size) o (by first | omega | (simp; done) | (simp; omega)) (by omega); have kfw3_0 := fun o => hf_ (w.heap.size) o (by first | omega | (simp; done) | (simp; omega)) (by omega); have lw3_0 : w.heap.size < w3.heap.size := Nat.lt_of_lt_of_le (by first | omega | (simp; done) | (simp; omega)) hu3.size; have mw3_0 := Nat.lt_succ_of_lt lw3_0; have qw3_0 := Nat.lt_succ_of_lt mw3_0; have mw3_0 : w.heap.size < w3.heap.size + 1 := mw3_0; have qw3_0 : w.heap.size < w3.heap.size + 1 + 1 := qw3_0; have kcw3_1 := fun o => hc_ (w1.heap.size) o (by first | omega | (simp; done) | (simp; omega)) (by omega); have kfw3_1 := fun o => hf_ (w1.heap.size) o (by first | omega | (simp; done) | (simp; omega)) (by omega); have lw3_1 : w1.heap.size < w3.heap.size := Nat.lt_of_lt_of_le (by first | omega | (simp; done) | (simp; omega)) hu3.size; have mw3_1 := Nat.lt_succ_of_lt lw3_1; have qw3_1 := Nat.lt_succ_of_lt mw3_1; have mw3_1 : w1.heap.size < w3.heap.size + 1 := mw3_1; have qw3_1 : w1.heap.size < w3.heap.size + 1 + 1 := qw3_1; have kcw3_2 := fun o => hc_ (rb) o (by first | omega | (simp; done) | (simp; omega)) (by omega); have kfw3_2 := fun o => hf_ (rb) o (by first | omega | (simp; done) | (simp; omega)) (by omega); have lw3_2 : rb < w3.heap.size := Nat.lt_of_lt_of_le (by first | omega | (simp; done) | (simp; omega)) hu3.size; have mw3_2 := Nat.lt_succ_of_lt lw3_2; have qw3_2 := Nat.lt_succ_of_lt mw3_2; have mw3_2 : rb < w3.heap.size + 1 := mw3_2; have qw3_2 : rb < w3.heap.size + 1 + 1 := qw3_2; clear hc_ hf_) | (go_at_call 71; refine (whole_any hD (P := (fun b => w.heap.size ≤ b ∧ b ≠ w1.heap.size ∧ b ≠ w.heap.size)) (Rd.below HR3.out ?_) _ _ _ _ _ _ _ _ ?_ ?_ hcap3 HZ.out).mono ?_; exact (by repeat (first | (with_reducible exact Below.refl _ _) | ((with_reducible refine below_setAt ?_ ?_ _); (rotate_left; focus (first | omega | (simp; done) | (simp; omega)))) | ((with_reducible refine Below.alloc ?_ ?_ _); (rotate_left; focus (first | omega | (simp; done) | (simp; omega)))) | (with_reducible refine below_drewN ?_ _) | (with_reducible refine Below.drew ?_))); (focus (show ¬ (w.heap.size ≤ r ∧ r ≠ w1.heap.size ∧ r ≠ w.heap.size); omega)); exact (SlA.keep HS3.out (by repeat (first | (with_reducible exact Same.refl _ _) | (with_reducible refine Same.alloc ?_ _) | (with_reducible refine Same.drewN ?_ _) | (with_reducible refine Same.drew ?_) | ((with_reducible refine Same.setCell ?_ ?_ _); focus (omega))))); rintro e w4 ⟨rfl, hR4, hu4⟩; have HR4 := Lib.hid hR4; have hr4 := hR4.lt; clear hR4; obtain ⟨hc_, hf_⟩ := ucell hu4; have kcw4_0 := fun o => hc_ (w.heap.size) o (by first | omega | (simp; done) | (simp; omega)) (by omega); have kfw4_0 := fun o => hf_ (w.heap.size) o (by first | omega | (simp; done) | (simp; omega)) (by omega); have lw4_0 : w.heap.size < w4.heap.size := Nat.lt_of_lt_of_le (by first | omega | (simp; done) | (simp; omega)) hu4.size; have mw4_0 := Nat.lt_succ_of_lt lw4_0; have qw4_0 := Nat.lt_succ_of_lt mw4_0; have mw4_0 : w.heap.size < w4.heap.size + 1 := mw4_0; have qw4_0 : w.heap.size < w4.heap.size + 1 + 1 := qw4_0; have kcw4_1 := fun o => hc_ (w1.heap.size) o (by first | omega | (simp; done) | (simp; omega)) (by omega); have kfw4_1 := fun o => hf_ (w1.heap.size) o (by first | omega | (simp; done) | (simp; omega)) (by omega); have lw4_1 : w1.heap.size < w4.heap.size := Nat.lt_of_lt_of_le (by first | omega | (simp; done) | (simp; omega)) hu4.size; have mw4_1 := Nat.lt_succ_of_lt lw4_1; have qw4_1 := Nat.lt_succ_of_lt mw4_1; have mw4_1 : w1.heap.size < w4.heap.size + 1 := mw4_1; have qw4_1 : w1.heap.size < w4.heap.size + 1 + 1 := qw4_1; have kcw4_2 := fun o => hc_ (rb) o (by first | omega | (simp; done) | (simp; omega)) (by omega); have kfw4_2 := fun o => hf_ (rb) o (by first | omega | (simp; done) | (simp; omega)) (by omega); have lw4_2 : rb < w4.heap.size := Nat.lt_of_lt_of_le (by first | omega | (simp; done) | (simp; omega)) hu4.size; have mw4_2 := Nat.lt_succ_of_lt lw4_2; have qw4_2 := Nat.lt_succ_of_lt mw4_2; have mw4_2 : rb < w4.heap.size + 1 := mw4_2; have qw4_2 : rb < w4.heap.size + 1 + 1 := qw4_2; clear hc_ hf_))
      all_goals
        have HB4 := Lib.hid (show w4.heap[w1.heap.size]? = some (.cells #[.int .i64 k, .string nm, .int .i64 n, .int .i64 d, .slice ad args.len cap, .int .i64 a] 43 (0, 0)) from by
          rw [((by repeat (first | (with_reducible exact Same.refl _ _) | (with_reducible refine Same.alloc ?_ _) | (with_reducible refine Same.drewN ?_ _) | (with_reducible refine Same.drew ?_) | ((with_reducible refine Same.setCell ?_ ?_ _); focus (omega)) | ((with_reducible refine Same.upon ?_ hu4 ?_); focus (omega)) | ((with_reducible refine Same.upon ?_ hu3 ?_); focus (omega)) | (with_reducible refine Same.of_below hb2 ?_))) : Same (fun b => b = w1.heap.size) wr w4).block _ rfl hbl]; exact HBL.out)
        have HR5 := Lib.hid (show w4.heap[w.heap.size]? = some (.cells #[.int .i64 0, .string ⟨#[]⟩, .int .i64 0, .int .i64 0, .slice none 0 0, .int .i64 0] 43 (0, 0)) from by
          rw [((by repeat (first | (with_reducible exact Same.refl _ _) | (with_reducible refine Same.alloc ?_ _) | (with_reducible refine Same.drewN ?_ _) | (with_reducible refine Same.drew ?_) | ((with_reducible refine Same.setCell ?_ ?_ _); focus (omega)) | ((with_reducible refine Same.upon ?_ hu4 ?_); focus (omega)) | ((with_reducible refine Same.upon ?_ hu3 ?_); focus (omega)) | (with_reducible refine Same.of_below hb2 ?_))) : Same (fun b => b = w.heap.size) wr w4).block _ rfl hrl]; exact HRES.out)
        have HU := Lib.hid ((by repeat (first | (with_reducible exact Upon.refl _ _) | ((with_reducible refine Upon.setAt ?_ ?_ _); (rotate_left; focus (first | exact Or.inl rfl | omega | (simp; done) | (simp; omega)))) | (with_reducible refine Upon.alloc ?_ _) | (with_reducible refine Upon.drewN ?_ _) | (with_reducible refine Upon.drew ?_) | (with_reducible refine Upon.trans ?_ hu4) | (with_reducible refine Upon.trans ?_ hu3) | (with_reducible refine Upon.trans ?_ (Upon.of_below hb2)) | (with_reducible refine Upon.trans ?_ hu))) : Upon r w w4)
        clear kcw2_0 kfw2_0 kcw2_1 kfw2_1 kcw2_2 kfw2_2 kcw3_0 kfw3_0 kcw3_1 kfw3_1 kcw3_2 kfw3_2 kcw4_0 kfw4_0 kcw4_1 kfw4_1 kcw4_2 kfw4_2
        go_roundw
        case rel =>
          have FR : FRel w r en w1.heap.size fin ((((((w4.setCell ⟨w1.heap.size, 0, none⟩ (.int .i64 fk)).setCell ⟨w1.heap.size, 1, none⟩ (.string fnm)).setCell ⟨w1.heap.size, 2, none⟩ (.int .i64 fn)).setCell ⟨w1.heap.size, 3, none⟩ (.int .i64 fd)).setCell ⟨w1.heap.size, 4, none⟩ (.slice ad3 fargs.len 1)).setCell ⟨w1.heap.size, 5, none⟩ (.int .i64 fa)) := by
            refine ⟨fk, fnm, fn, fd, fargs, fa, ad3, 1, _, q', set6 HB4.out _ _ _ _ _ _, hcap3, ?_, Rd.below HR4.out (by repeat (first | (with_reducible exact Below.refl _ _) | ((with_reducible refine below_setAt ?_ ?_ _); (rotate_left; focus (first | omega | (simp; done) | (simp; omega)))) | ((with_reducible refine Below.alloc ?_ ?_ _); (rotate_left; focus (first | omega | (simp; done) | (simp; omega)))) | (with_reducible refine below_drewN ?_ _) | (with_reducible refine Below.drew ?_))), (by repeat (first | (with_reducible exact Upon.refl _ _) | ((with_reducible refine Upon.setAt ?_ ?_ _); (rotate_left; focus (first | exact Or.inl rfl | omega | (simp; done) | (simp; omega)))) | (with_reducible refine Upon.alloc ?_ _) | (with_reducible refine Upon.drewN ?_ _) | (with_reducible refine Upon.drew ?_) | (with_reducible refine Upon.trans ?_ HU.out))), ?_, HQ.out, HFL.out, HZ2.out⟩
            · exact SlA.keep HS3.out (by repeat (first | (with_reducible exact Same.refl _ _) | (with_reducible refine Same.alloc ?_ _) | (with_reducible refine Same.drewN ?_ _) | (with_reducible refine Same.drew ?_) | ((with_reducible refine Same.setCell ?_ ?_ _); focus (omega)) | ((with_reducible refine Same.upon ?_ hu4 ?_); focus (omega))))
            · rw [((by repeat (first | (with_reducible exact Same.refl _ _) | (with_reducible refine Same.alloc ?_ _) | (with_reducible refine Same.drewN ?_ _) | (with_reducible refine Same.drew ?_) | ((with_reducible refine Same.setCell ?_ ?_ _); focus (omega)))) : Same (fun b => b = w.heap.size) w4 _).block _ rfl (by omega)]; exact HR5.out
          first
          | exact FR
          | ((repeat apply Exists.intro); exact ⟨FR, rfl⟩)
        case measure =>
          rw [rdLen_eq (Rd.below HR4.out (by repeat (first | (with_reducible exact Below.refl _ _) | ((with_reducible refine below_setAt ?_ ?_ _); (rotate_left; focus (first | omega | (simp; done) | (simp; omega)))) | ((with_reducible refine Below.alloc ?_ ?_ _); (rotate_left; focus (first | omega | (simp; done) | (simp; omega)))) | (with_reducible refine below_drewN ?_ _) | (with_reducible refine Below.drew ?_))))]
          exact HL.out

end Go.Proofs.Ytlpoimagikolfaa.syn
