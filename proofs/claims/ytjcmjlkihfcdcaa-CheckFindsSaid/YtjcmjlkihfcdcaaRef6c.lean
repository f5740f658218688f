/-
  The reference's look at names in expressions: expr.
-/
import Derived.Test.YtjcmjlkihfcdcaaRef6b
namespace Go.Proofs.Ytjcmjlkihfcdcaa.syn
open Go.RowKit
set_option linter.unusedVariables false
set_option linter.unusedSimpArgs false

def nm1 (p : PG) (k : Int) (nm : ByteArray) : Bool := decide (k ≠ 1) || decide (0 ≤ flowIx p nm)
/-- Are all names in a row known? -/
def nmL (p : PG) : PL → Bool
  | .nil => true
  | .cons k nm n d args a tl => (nm1 p k nm && nmL p args) && nmL p tl
def NmAns (p : PG) (e : PE) (x : Ending) : Prop := ∃ b : Bool, x = .returned (.bool b) ∧ (b = true → nm1 p e.k e.nm = true ∧ nmL p e.args = true)
def ExprNSaid (p : PG) (an ai af ao : Option Addr) (cn ci cf co : Nat) (e : PE) : Prop := ∀ (w : World) (ad : Option Addr) (cap : Nat), AP w p an ai af ao cn ci cf co → AE w e ad cap →
  Calls Try.prog 27 #[pv p an ai af ao cn ci cf co, .agg #[.int .i64 e.k, .string e.nm, .int .i64 e.n, .int .i64 e.d, .slice ad e.args.len cap, .int .i64 e.a]] w fun x w' => NmAns p e x ∧ Below w.heap.size w w'
def EnRel (w : World) (p : PG) (an ai af ao : Option Addr) (cn ci cf co : Nat) (e : PE) (ad : Option Addr) (cap : Nat) (v : Value) (wr : World) : Prop :=
  ∃ (i : Nat) (rest : PL), v = .int .i64 (i : Int) ∧ RestP wr ad e.args rest i ∧ (nmL p rest = true → nmL p e.args = true) ∧ PBox wr w.heap.size p an ai af ao cn ci cf co ∧
    wr.heap[w.heap.size + 1]? = some (.cells #[.int .i64 e.k, .string e.nm, .int .i64 e.n, .int .i64 e.d, .slice ad e.args.len cap, .int .i64 e.a] 39 (0, 0)) ∧ Below w.heap.size w wr

set_option maxRecDepth 100000 in
set_option maxHeartbeats 8000000 in
theorem exprN_step (p : PG) (an ai af ao : Option Addr) (cn ci cf co : Nat) (hl1 : p.nodes.length ≤ 1000) (hl2 : p.ins.length ≤ 1000) (hl3 : p.flows.length ≤ 1000) (e : PE) (ih : ∀ e' : PE, e'.args.sz < e.args.sz → ExprNSaid p an ai af ao cn ci cf co e') : ExprNSaid p an ai af ao cn ci cf co e := by
  intro w ad cap hp hae
  obtain ⟨k, nmE, n, d, args, a⟩ := e
  have hlen := hae.len
  simp only at hlen ⊢
  have HA := Lib.hid hae
  have HIH := Lib.hid ih
  have HP := Lib.hid hp
  have HFL := Lib.hid (fun (w' : World) (h : Below w.heap.size w w') => flow_any (w := w') p an ai af ao cn ci cf co nmE (HP.out.below h) hl2 hl3)
  have HND := Lib.hid (fun (w' : World) (h : Below w.heap.size w w') => node_any (w := w') p an ai af ao cn ci cf co nmE (HP.out.below h) hl1)
  unfold pv at HFL HND ⊢
  have main : ∀ (W : World), PBox W w.heap.size p an ai af ao cn ci cf co → W.heap[w.heap.size + 1]? = some (.cells #[.int .i64 k, .string nmE, .int .i64 n, .int .i64 d, .slice ad args.len cap, .int .i64 a] 39 (0, 0)) → Below w.heap.size w W →
      EnRel w p an ai af ao cn ci cf co ⟨k, nmE, n, d, args, a⟩ ad cap (.int .i64 0) W := fun W h1 h2 h3 => ⟨0, args, rfl, (RestP.start HA.out.args).below h3, fun h => h, h1, h2, h3⟩
  have HMAIN := Lib.hid main
  clear main hae ih hp
  by_cases hk : k = 1
  · subst hk
    by_cases hfx : flowIx p nmE < 0
    · have hfx' : decide (flowIx p nmE < 0) = true := decide_eq_true hfx
      generalize hfi : flowIx p nmE = fi at HFL hfx hfx'
      clear hfi
      go_enter Try.func27, Try.ntmps27
      go_wp2_with (go_at_call 26; go_loud (refine (HFL.out _ (by repeat (first | (with_reducible exact Below.refl _ _) | ((with_reducible refine below_setAt ?_ ?_ _); (rotate_left; focus (first | omega | (simp; done) | (simp; omega)))) | ((with_reducible refine Below.alloc ?_ ?_ _); (rotate_left; focus (first | omega | (simp; done) | (simp; omega)))) | (with_reducible refine below_drewN ?_ _) | (with_reducible refine Below.drew ?_)))).mono ?_; rintro x w1 ⟨rfl, hb1⟩; obtain ⟨hc1, hf1⟩ := bcell hb1; have q1 : w.heap.size < w1.heap.size := sz_of hb1 (by first | omega | (simp; done) | (simp; omega)); have q2 : w.heap.size + 1 < w1.heap.size := sz_of hb1 (by first | omega | (simp; done) | (simp; omega))))
      go_ret
      exact ⟨⟨false, rfl, fun h => by cases h⟩, (by repeat (first | (with_reducible exact Below.refl _ _) | ((with_reducible refine below_setAt ?_ ?_ _); (rotate_left; focus (first | omega | (simp; done) | (simp; omega)))) | ((with_reducible refine Below.alloc ?_ ?_ _); (rotate_left; focus (first | omega | (simp; done) | (simp; omega)))) | (with_reducible refine below_drewN ?_ _) | (with_reducible refine Below.drew ?_) | ((with_reducible refine Below.trans ?_ (Below.mono hb1 ?_)); (rotate_left; focus (first | omega | (simp; done) | (simp; omega))))))⟩
    · have hfx0 : 0 ≤ flowIx p nmE := by omega
      have HFX := Lib.hid hfx0
      have hfx' : decide (flowIx p nmE < 0) = false := decide_eq_false hfx
      generalize hfi : flowIx p nmE = fi at HFL hfx0 hfx hfx'
      clear hfi
      go_enter Try.func27, Try.ntmps27
      go_wp2_with (go_at_call 26; go_loud (refine (HFL.out _ (by repeat (first | (with_reducible exact Below.refl _ _) | ((with_reducible refine below_setAt ?_ ?_ _); (rotate_left; focus (first | omega | (simp; done) | (simp; omega)))) | ((with_reducible refine Below.alloc ?_ ?_ _); (rotate_left; focus (first | omega | (simp; done) | (simp; omega)))) | (with_reducible refine below_drewN ?_ _) | (with_reducible refine Below.drew ?_)))).mono ?_; rintro x w1 ⟨rfl, hb1⟩; obtain ⟨hc1, hf1⟩ := bcell hb1; have q1 : w.heap.size < w1.heap.size := sz_of hb1 (by first | omega | (simp; done) | (simp; omega)); have q2 : w.heap.size + 1 < w1.heap.size := sz_of hb1 (by first | omega | (simp; done) | (simp; omega))))
      have HK1 := Lib.hid (show nm1 p 1 nmE = true from by unfold nm1; simp; exact HFX.out)
      go_loopw [6] (fun v wr => Hid (EnRel w p an ai af ao cn ci cf co ⟨1, nmE, n, d, args, a⟩ ad cap v wr)) (fun i _ => args.len - (intOf i).toNat)
      case atStart => exact HMAIN.out _ ((hb1.block _ (by first | omega | (simp; done) | (simp; omega))).trans ((Below.heap_alloc _ _ _ (by simp)).trans (heap_new w _))) ((hb1.block _ (by first | omega | (simp; done) | (simp; omega))).trans (by simpa using heap_new (w.alloc _) _)) (by repeat (first | (with_reducible exact Below.refl _ _) | ((with_reducible refine below_setAt ?_ ?_ _); (rotate_left; focus (first | omega | (simp; done) | (simp; omega)))) | ((with_reducible refine Below.alloc ?_ ?_ _); (rotate_left; focus (first | omega | (simp; done) | (simp; omega)))) | (with_reducible refine below_drewN ?_ _) | (with_reducible refine Below.drew ?_) | ((with_reducible refine Below.trans ?_ (Below.mono hb1 ?_)); (rotate_left; focus (first | omega | (simp; done) | (simp; omega))))))
      case round =>
        obtain ⟨i, rest, rfl, hrest, hnmr, hpb, heb, hbel⟩ := hrel.out
        clear hrel
        simp only at heb hnmr
        unfold PBox at hpb
        obtain ⟨⟨z0, z1, z2, z3⟩, zf⟩ := cells4 hpb
        obtain ⟨⟨e0, e1, e2, e3, e4, e5⟩, ef⟩ := cells6' heb
        have HPB := Lib.hid hpb
        have HEB := Lib.hid heb
        have HBEL := Lib.hid hbel
        have HNR := Lib.hid hnmr
        have hil := hrest.1
        simp only at hil
        have HRS := Lib.hid hrest
        have hplt := lt_of_block hpb
        have helt := lt_of_block heb
        clear hpb heb hrest hnmr
        cases rest with
        | nil =>
          have hil' : (i : Int) = (args.len : Int) := by simp only [PL.len] at hil; omega
          clear hbel
          go_wp2
          go_ret
          exact ⟨⟨true, rfl, fun _ => ⟨HK1.out, HNR.out rfl⟩⟩, HBEL.out⟩
        | cons k9 nm9 n9 d9 args9 a9 tl =>
          have hil' : (i : Int) < (args.len : Int) := by simp only [PL.len] at hil; omega
          obtain ⟨b, o, rfl, hb, h0, h1, h2, h3, h5, hn, ⟨ad1, cap1, h4, hcap1, hcm1, hd1⟩, ht⟩ := HRS.out.2.2.resolve_left (by intro h; cases h)
          have hsub := HRS.out.2.1
          simp only [PL.sz] at hsub
          have HAX := Lib.hid (show AE wr ⟨k9, nm9, n9, d9, args9, a9⟩ ad1 cap1 from ⟨hn, ⟨hcap1, hcm1⟩, hd1⟩)
          have HC := Lib.hid (fun (W' : World) (hW : Below wr.heap.size wr W') => HIH.out ⟨k9, nm9, n9, d9, args9, a9⟩ (by show args9.sz < args.sz; omega) W' ad1 cap1 ((HP.out.below HBEL.out).below hW) (HAX.out.below hW))
          unfold pv NmAns at HC
          simp only at HC
          clear hbel hn hd1 ht
          go_wp2
          go_region_with (go_at_call 27; refine (HC.out _ (by repeat (first | (with_reducible exact Below.refl _ _) | ((with_reducible refine below_setAt ?_ ?_ _); (rotate_left; focus (first | omega | (simp; done) | (simp; omega)))) | ((with_reducible refine Below.alloc ?_ ?_ _); (rotate_left; focus (first | omega | (simp; done) | (simp; omega)))) | (with_reducible refine below_drewN ?_ _) | (with_reducible refine Below.drew ?_)))).mono ?_; rintro x w2 ⟨⟨b2, rfl, hb2t⟩, hb2⟩)
          all_goals cases b2
          all_goals go_wp2
          all_goals first
            | (go_ret; exact ⟨⟨false, rfl, fun h => by cases h⟩, (by repeat (first | (with_reducible exact Below.refl _ _) | ((with_reducible refine below_setAt ?_ ?_ _); (rotate_left; focus (first | omega | (simp; done) | (simp; omega)))) | ((with_reducible refine Below.alloc ?_ ?_ _); (rotate_left; focus (first | omega | (simp; done) | (simp; omega)))) | (with_reducible refine below_drewN ?_ _) | (with_reducible refine Below.drew ?_) | ((with_reducible refine Below.trans ?_ (Below.mono hb2 ?_)); (rotate_left; focus (first | omega | (simp; done) | (simp; omega)))) | ((with_reducible refine Below.trans ?_ (Below.mono HBEL.out ?_)); (rotate_left; focus (first | omega | (simp; done) | (simp; omega))))))⟩)
            | (go_roundw; (case rel => first | exact ⟨i + 1, tl, by go_num, HRS.out.tail.below (by repeat (first | (with_reducible exact Below.refl _ _) | ((with_reducible refine below_setAt ?_ ?_ _); (rotate_left; focus (first | omega | (simp; done) | (simp; omega)))) | ((with_reducible refine Below.alloc ?_ ?_ _); (rotate_left; focus (first | omega | (simp; done) | (simp; omega)))) | (with_reducible refine below_drewN ?_ _) | (with_reducible refine Below.drew ?_) | ((with_reducible refine Below.trans ?_ (Below.mono hb2 ?_)); (rotate_left; focus (first | omega | (simp; done) | (simp; omega)))))), fun h => HNR.out (by rw [nmL, (hb2t rfl).1, (hb2t rfl).2, h]; rfl), (hb2.block _ hplt).trans HPB.out, (hb2.block _ helt).trans HEB.out, (by repeat (first | (with_reducible exact Below.refl _ _) | ((with_reducible refine below_setAt ?_ ?_ _); (rotate_left; focus (first | omega | (simp; done) | (simp; omega)))) | ((with_reducible refine Below.alloc ?_ ?_ _); (rotate_left; focus (first | omega | (simp; done) | (simp; omega)))) | (with_reducible refine below_drewN ?_ _) | (with_reducible refine Below.drew ?_) | ((with_reducible refine Below.trans ?_ (Below.mono hb2 ?_)); (rotate_left; focus (first | omega | (simp; done) | (simp; omega)))) | ((with_reducible refine Below.trans ?_ (Below.mono HBEL.out ?_)); (rotate_left; focus (first | omega | (simp; done) | (simp; omega))))))⟩ | ((repeat apply Exists.intro); exact ⟨⟨i + 1, tl, by go_num, HRS.out.tail.below (by repeat (first | (with_reducible exact Below.refl _ _) | ((with_reducible refine below_setAt ?_ ?_ _); (rotate_left; focus (first | omega | (simp; done) | (simp; omega)))) | ((with_reducible refine Below.alloc ?_ ?_ _); (rotate_left; focus (first | omega | (simp; done) | (simp; omega)))) | (with_reducible refine below_drewN ?_ _) | (with_reducible refine Below.drew ?_) | ((with_reducible refine Below.trans ?_ (Below.mono hb2 ?_)); (rotate_left; focus (first | omega | (simp; done) | (simp; omega)))))), fun h => HNR.out (by rw [nmL, (hb2t rfl).1, (hb2t rfl).2, h]; rfl), (hb2.block _ hplt).trans HPB.out, (hb2.block _ helt).trans HEB.out, (by repeat (first | (with_reducible exact Below.refl _ _) | ((with_reducible refine below_setAt ?_ ?_ _); (rotate_left; focus (first | omega | (simp; done) | (simp; omega)))) | ((with_reducible refine Below.alloc ?_ ?_ _); (rotate_left; focus (first | omega | (simp; done) | (simp; omega)))) | (with_reducible refine below_drewN ?_ _) | (with_reducible refine Below.drew ?_) | ((with_reducible refine Below.trans ?_ (Below.mono hb2 ?_)); (rotate_left; focus (first | omega | (simp; done) | (simp; omega)))) | ((with_reducible refine Below.trans ?_ (Below.mono HBEL.out ?_)); (rotate_left; focus (first | omega | (simp; done) | (simp; omega))))))⟩, rfl⟩)); (case measure => simp [intOf]; omega))
  · have hk' : (k == 1) = false := beq_eq_false_iff_ne.2 hk
    have HKN := Lib.hid hk
    by_cases hk2 : k = 2
    · subst hk2
      clear hk
      cases hfs : fstIx ND.nm nmE p.nodes 0 with
      | none =>
        have hnx : nodeIx p nmE = -1 := by unfold nodeIx; rw [hfs]
        rw [hnx] at HND
        clear hfs hnx
        go_enter Try.func27, Try.ntmps27
        go_wp2_with (go_at_call 24; go_loud (refine (HND.out _ (by repeat (first | (with_reducible exact Below.refl _ _) | ((with_reducible refine below_setAt ?_ ?_ _); (rotate_left; focus (first | omega | (simp; done) | (simp; omega)))) | ((with_reducible refine Below.alloc ?_ ?_ _); (rotate_left; focus (first | omega | (simp; done) | (simp; omega)))) | (with_reducible refine below_drewN ?_ _) | (with_reducible refine Below.drew ?_)))).mono ?_; rintro x w1 ⟨rfl, hb1⟩; obtain ⟨hc1, hf1⟩ := bcell hb1; have q1 : w.heap.size < w1.heap.size := sz_of hb1 (by first | omega | (simp; done) | (simp; omega)); have q2 : w.heap.size + 1 < w1.heap.size := sz_of hb1 (by first | omega | (simp; done) | (simp; omega))))
        go_quiet (fail)
        go_wp2
        go_ret
        exact ⟨⟨false, rfl, fun h => by cases h⟩, (by repeat (first | (with_reducible exact Below.refl _ _) | ((with_reducible refine below_setAt ?_ ?_ _); (rotate_left; focus (first | omega | (simp; done) | (simp; omega)))) | ((with_reducible refine Below.alloc ?_ ?_ _); (rotate_left; focus (first | omega | (simp; done) | (simp; omega)))) | (with_reducible refine below_drewN ?_ _) | (with_reducible refine Below.drew ?_) | ((with_reducible refine Below.trans ?_ (Below.mono hb1 ?_)); (rotate_left; focus (first | omega | (simp; done) | (simp; omega))))))⟩
      | some ni =>
        have hnx : nodeIx p nmE = (ni : Int) := by unfold nodeIx; rw [hfs]
        rw [hnx] at HND
        obtain ⟨j, hj, xx, hxx, _⟩ := fstIx_some _ _ _ _ _ hfs
        obtain rfl : ni = j := by omega
        clear hj
        have hnl : ni < p.nodes.length := (List.getElem?_eq_some_iff.1 hxx).1
        obtain ⟨bb, oo, rfl, hbb0, hnd0⟩ := HP.out.nodes.at hnl
        obtain ⟨_, ⟨pa, pc, y1, hpl, hpc, _⟩, _⟩ := hnd0
        have hnl' : (ni : Int) < (p.nodes.length : Int) := by omega
        generalize p.nodes[ni].ps.length = pl at y1 hpl
        clear hfs hnx hxx
        by_cases hll : pl = args.len
        · have hll' : ((pl : Int) == (args.len : Int)) = true := by rw [beq_iff_eq]; omega
          subst hll
          go_enter Try.func27, Try.ntmps27
          go_wp2_with (go_at_call 24; go_loud (refine (HND.out _ (by repeat (first | (with_reducible exact Below.refl _ _) | ((with_reducible refine below_setAt ?_ ?_ _); (rotate_left; focus (first | omega | (simp; done) | (simp; omega)))) | ((with_reducible refine Below.alloc ?_ ?_ _); (rotate_left; focus (first | omega | (simp; done) | (simp; omega)))) | (with_reducible refine below_drewN ?_ _) | (with_reducible refine Below.drew ?_)))).mono ?_; rintro x w1 ⟨rfl, hb1⟩; obtain ⟨hc1, hf1⟩ := bcell hb1; have q1 : w.heap.size < w1.heap.size := sz_of hb1 (by first | omega | (simp; done) | (simp; omega)); have q2 : w.heap.size + 1 < w1.heap.size := sz_of hb1 (by first | omega | (simp; done) | (simp; omega)); have y1' : w1.cell? ⟨bb, oo + ni * 10 + 1, none⟩ = _ := (show Below w.heap.size w w1 from (by repeat (first | (with_reducible exact Below.refl _ _) | ((with_reducible refine below_setAt ?_ ?_ _); (rotate_left; focus (first | omega | (simp; done) | (simp; omega)))) | ((with_reducible refine Below.alloc ?_ ?_ _); (rotate_left; focus (first | omega | (simp; done) | (simp; omega)))) | (with_reducible refine below_drewN ?_ _) | (with_reducible refine Below.drew ?_) | ((with_reducible refine Below.trans ?_ (Below.mono hb1 ?_)); (rotate_left; focus (first | omega | (simp; done) | (simp; omega))))))).cell (p := ⟨bb, oo + ni * 10 + 1, none⟩) hbb0 |>.trans y1))
          go_quiet (fail)
          go_wp2
          have HK1 := Lib.hid (show nm1 p 2 nmE = true from by unfold nm1; simp)
          go_loopw [6] (fun v wr => Hid (EnRel w p (some ⟨bb, oo, none⟩) ai af ao cn ci cf co ⟨2, nmE, n, d, args, a⟩ ad cap v wr)) (fun i _ => args.len - (intOf i).toNat)
          case atStart => exact HMAIN.out _ ((hb1.block _ (by first | omega | (simp; done) | (simp; omega))).trans ((Below.heap_alloc _ _ _ (by simp)).trans (heap_new w _))) ((hb1.block _ (by first | omega | (simp; done) | (simp; omega))).trans (by simpa using heap_new (w.alloc _) _)) (by repeat (first | (with_reducible exact Below.refl _ _) | ((with_reducible refine below_setAt ?_ ?_ _); (rotate_left; focus (first | omega | (simp; done) | (simp; omega)))) | ((with_reducible refine Below.alloc ?_ ?_ _); (rotate_left; focus (first | omega | (simp; done) | (simp; omega)))) | (with_reducible refine below_drewN ?_ _) | (with_reducible refine Below.drew ?_) | ((with_reducible refine Below.trans ?_ (Below.mono hb1 ?_)); (rotate_left; focus (first | omega | (simp; done) | (simp; omega))))))
          case round =>
            obtain ⟨i, rest, rfl, hrest, hnmr, hpb, heb, hbel⟩ := hrel.out
            clear hrel
            simp only at heb hnmr
            unfold PBox at hpb
            obtain ⟨⟨z0, z1, z2, z3⟩, zf⟩ := cells4 hpb
            obtain ⟨⟨e0, e1, e2, e3, e4, e5⟩, ef⟩ := cells6' heb
            have HPB := Lib.hid hpb
            have HEB := Lib.hid heb
            have HBEL := Lib.hid hbel
            have HNR := Lib.hid hnmr
            have hil := hrest.1
            simp only at hil
            have HRS := Lib.hid hrest
            have hplt := lt_of_block hpb
            have helt := lt_of_block heb
            clear hpb heb hrest hnmr
            cases rest with
            | nil =>
              have hil' : (i : Int) = (args.len : Int) := by simp only [PL.len] at hil; omega
              clear hbel
              go_wp2
              go_ret
              exact ⟨⟨true, rfl, fun _ => ⟨HK1.out, HNR.out rfl⟩⟩, HBEL.out⟩
            | cons k9 nm9 n9 d9 args9 a9 tl =>
              have hil' : (i : Int) < (args.len : Int) := by simp only [PL.len] at hil; omega
              obtain ⟨b, o, rfl, hb, h0, h1, h2, h3, h5, hn, ⟨ad1, cap1, h4, hcap1, hcm1, hd1⟩, ht⟩ := HRS.out.2.2.resolve_left (by intro h; cases h)
              have hsub := HRS.out.2.1
              simp only [PL.sz] at hsub
              have HAX := Lib.hid (show AE wr ⟨k9, nm9, n9, d9, args9, a9⟩ ad1 cap1 from ⟨hn, ⟨hcap1, hcm1⟩, hd1⟩)
              have HC := Lib.hid (fun (W' : World) (hW : Below wr.heap.size wr W') => HIH.out ⟨k9, nm9, n9, d9, args9, a9⟩ (by show args9.sz < args.sz; omega) W' ad1 cap1 ((HP.out.below HBEL.out).below hW) (HAX.out.below hW))
              unfold pv NmAns at HC
              simp only at HC
              clear hbel hn hd1 ht
              go_wp2
              go_region_with (go_at_call 27; refine (HC.out _ (by repeat (first | (with_reducible exact Below.refl _ _) | ((with_reducible refine below_setAt ?_ ?_ _); (rotate_left; focus (first | omega | (simp; done) | (simp; omega)))) | ((with_reducible refine Below.alloc ?_ ?_ _); (rotate_left; focus (first | omega | (simp; done) | (simp; omega)))) | (with_reducible refine below_drewN ?_ _) | (with_reducible refine Below.drew ?_)))).mono ?_; rintro x w2 ⟨⟨b2, rfl, hb2t⟩, hb2⟩)
              all_goals cases b2
              all_goals go_wp2
              all_goals first
                | (go_ret; exact ⟨⟨false, rfl, fun h => by cases h⟩, (by repeat (first | (with_reducible exact Below.refl _ _) | ((with_reducible refine below_setAt ?_ ?_ _); (rotate_left; focus (first | omega | (simp; done) | (simp; omega)))) | ((with_reducible refine Below.alloc ?_ ?_ _); (rotate_left; focus (first | omega | (simp; done) | (simp; omega)))) | (with_reducible refine below_drewN ?_ _) | (with_reducible refine Below.drew ?_) | ((with_reducible refine Below.trans ?_ (Below.mono hb2 ?_)); (rotate_left; focus (first | omega | (simp; done) | (simp; omega)))) | ((with_reducible refine Below.trans ?_ (Below.mono HBEL.out ?_)); (rotate_left; focus (first | omega | (simp; done) | (simp; omega))))))⟩)
                | (go_roundw; (case rel => first | exact ⟨i + 1, tl, by go_num, HRS.out.tail.below (by repeat (first | (with_reducible exact Below.refl _ _) | ((with_reducible refine below_setAt ?_ ?_ _); (rotate_left; focus (first | omega | (simp; done) | (simp; omega)))) | ((with_reducible refine Below.alloc ?_ ?_ _); (rotate_left; focus (first | omega | (simp; done) | (simp; omega)))) | (with_reducible refine below_drewN ?_ _) | (with_reducible refine Below.drew ?_) | ((with_reducible refine Below.trans ?_ (Below.mono hb2 ?_)); (rotate_left; focus (first | omega | (simp; done) | (simp; omega)))))), fun h => HNR.out (by rw [nmL, (hb2t rfl).1, (hb2t rfl).2, h]; rfl), (hb2.block _ hplt).trans HPB.out, (hb2.block _ helt).trans HEB.out, (by repeat (first | (with_reducible exact Below.refl _ _) | ((with_reducible refine below_setAt ?_ ?_ _); (rotate_left; focus (first | omega | (simp; done) | (simp; omega)))) | ((with_reducible refine Below.alloc ?_ ?_ _); (rotate_left; focus (first | omega | (simp; done) | (simp; omega)))) | (with_reducible refine below_drewN ?_ _) | (with_reducible refine Below.drew ?_) | ((with_reducible refine Below.trans ?_ (Below.mono hb2 ?_)); (rotate_left; focus (first | omega | (simp; done) | (simp; omega)))) | ((with_reducible refine Below.trans ?_ (Below.mono HBEL.out ?_)); (rotate_left; focus (first | omega | (simp; done) | (simp; omega))))))⟩ | ((repeat apply Exists.intro); exact ⟨⟨i + 1, tl, by go_num, HRS.out.tail.below (by repeat (first | (with_reducible exact Below.refl _ _) | ((with_reducible refine below_setAt ?_ ?_ _); (rotate_left; focus (first | omega | (simp; done) | (simp; omega)))) | ((with_reducible refine Below.alloc ?_ ?_ _); (rotate_left; focus (first | omega | (simp; done) | (simp; omega)))) | (with_reducible refine below_drewN ?_ _) | (with_reducible refine Below.drew ?_) | ((with_reducible refine Below.trans ?_ (Below.mono hb2 ?_)); (rotate_left; focus (first | omega | (simp; done) | (simp; omega)))))), fun h => HNR.out (by rw [nmL, (hb2t rfl).1, (hb2t rfl).2, h]; rfl), (hb2.block _ hplt).trans HPB.out, (hb2.block _ helt).trans HEB.out, (by repeat (first | (with_reducible exact Below.refl _ _) | ((with_reducible refine below_setAt ?_ ?_ _); (rotate_left; focus (first | omega | (simp; done) | (simp; omega)))) | ((with_reducible refine Below.alloc ?_ ?_ _); (rotate_left; focus (first | omega | (simp; done) | (simp; omega)))) | (with_reducible refine below_drewN ?_ _) | (with_reducible refine Below.drew ?_) | ((with_reducible refine Below.trans ?_ (Below.mono hb2 ?_)); (rotate_left; focus (first | omega | (simp; done) | (simp; omega)))) | ((with_reducible refine Below.trans ?_ (Below.mono HBEL.out ?_)); (rotate_left; focus (first | omega | (simp; done) | (simp; omega))))))⟩, rfl⟩)); (case measure => simp [intOf]; omega))
        · have hll' : ((pl : Int) == (args.len : Int)) = false := by rw [beq_eq_false_iff_ne]; omega
          have hlln : ((pl : Int) != (args.len : Int)) = true := by rw [bne, hll']; rfl
          have hni0 : decide ((ni : Int) < 0) = false := decide_eq_false (by omega)
          have hlli : ¬ (pl : Int) = (args.len : Int) := by omega
          go_enter Try.func27, Try.ntmps27
          go_wp2_with (go_at_call 24; go_loud (refine (HND.out _ (by repeat (first | (with_reducible exact Below.refl _ _) | ((with_reducible refine below_setAt ?_ ?_ _); (rotate_left; focus (first | omega | (simp; done) | (simp; omega)))) | ((with_reducible refine Below.alloc ?_ ?_ _); (rotate_left; focus (first | omega | (simp; done) | (simp; omega)))) | (with_reducible refine below_drewN ?_ _) | (with_reducible refine Below.drew ?_)))).mono ?_; rintro x w1 ⟨rfl, hb1⟩; obtain ⟨hc1, hf1⟩ := bcell hb1; have q1 : w.heap.size < w1.heap.size := sz_of hb1 (by first | omega | (simp; done) | (simp; omega)); have q2 : w.heap.size + 1 < w1.heap.size := sz_of hb1 (by first | omega | (simp; done) | (simp; omega)); have y1' : w1.cell? ⟨bb, oo + ni * 10 + 1, none⟩ = _ := (show Below w.heap.size w w1 from (by repeat (first | (with_reducible exact Below.refl _ _) | ((with_reducible refine below_setAt ?_ ?_ _); (rotate_left; focus (first | omega | (simp; done) | (simp; omega)))) | ((with_reducible refine Below.alloc ?_ ?_ _); (rotate_left; focus (first | omega | (simp; done) | (simp; omega)))) | (with_reducible refine below_drewN ?_ _) | (with_reducible refine Below.drew ?_) | ((with_reducible refine Below.trans ?_ (Below.mono hb1 ?_)); (rotate_left; focus (first | omega | (simp; done) | (simp; omega))))))).cell (p := ⟨bb, oo + ni * 10 + 1, none⟩) hbb0 |>.trans y1))
          go_quiet (fail)
          go_wp2
          all_goals first | (go_ret; exact ⟨⟨false, rfl, fun h => by cases h⟩, (by repeat (first | (with_reducible exact Below.refl _ _) | ((with_reducible refine below_setAt ?_ ?_ _); (rotate_left; focus (first | omega | (simp; done) | (simp; omega)))) | ((with_reducible refine Below.alloc ?_ ?_ _); (rotate_left; focus (first | omega | (simp; done) | (simp; omega)))) | (with_reducible refine below_drewN ?_ _) | (with_reducible refine Below.drew ?_) | ((with_reducible refine Below.trans ?_ (Below.mono hb1 ?_)); (rotate_left; focus (first | omega | (simp; done) | (simp; omega))))))⟩) | (exfalso; omega)
    · have hk2' : (k == 2) = false := beq_eq_false_iff_ne.2 hk2
      clear hk hk2
      go_enter Try.func27, Try.ntmps27
      go_wp2
      have HK1 := Lib.hid (show nm1 p k nmE = true from by unfold nm1; simp [HKN.out])
      go_loopw [6] (fun v wr => Hid (EnRel w p an ai af ao cn ci cf co ⟨k, nmE, n, d, args, a⟩ ad cap v wr)) (fun i _ => args.len - (intOf i).toNat)
      case atStart => exact HMAIN.out _ ((Below.heap_alloc _ _ _ (by simp)).trans (heap_new w _)) (by simpa using heap_new (w.alloc _) _) (by repeat (first | (with_reducible exact Below.refl _ _) | ((with_reducible refine below_setAt ?_ ?_ _); (rotate_left; focus (first | omega | (simp; done) | (simp; omega)))) | ((with_reducible refine Below.alloc ?_ ?_ _); (rotate_left; focus (first | omega | (simp; done) | (simp; omega)))) | (with_reducible refine below_drewN ?_ _) | (with_reducible refine Below.drew ?_)))
      case round =>
        obtain ⟨i, rest, rfl, hrest, hnmr, hpb, heb, hbel⟩ := hrel.out
        clear hrel
        simp only at heb hnmr
        unfold PBox at hpb
        obtain ⟨⟨z0, z1, z2, z3⟩, zf⟩ := cells4 hpb
        obtain ⟨⟨e0, e1, e2, e3, e4, e5⟩, ef⟩ := cells6' heb
        have HPB := Lib.hid hpb
        have HEB := Lib.hid heb
        have HBEL := Lib.hid hbel
        have HNR := Lib.hid hnmr
        have hil := hrest.1
        simp only at hil
        have HRS := Lib.hid hrest
        have hplt := lt_of_block hpb
        have helt := lt_of_block heb
        clear hpb heb hrest hnmr
        cases rest with
        | nil =>
          have hil' : (i : Int) = (args.len : Int) := by simp only [PL.len] at hil; omega
          clear hbel
          go_wp2
          go_ret
          exact ⟨⟨true, rfl, fun _ => ⟨HK1.out, HNR.out rfl⟩⟩, HBEL.out⟩
        | cons k9 nm9 n9 d9 args9 a9 tl =>
          have hil' : (i : Int) < (args.len : Int) := by simp only [PL.len] at hil; omega
          obtain ⟨b, o, rfl, hb, h0, h1, h2, h3, h5, hn, ⟨ad1, cap1, h4, hcap1, hcm1, hd1⟩, ht⟩ := HRS.out.2.2.resolve_left (by intro h; cases h)
          have hsub := HRS.out.2.1
          simp only [PL.sz] at hsub
          have HAX := Lib.hid (show AE wr ⟨k9, nm9, n9, d9, args9, a9⟩ ad1 cap1 from ⟨hn, ⟨hcap1, hcm1⟩, hd1⟩)
          have HC := Lib.hid (fun (W' : World) (hW : Below wr.heap.size wr W') => HIH.out ⟨k9, nm9, n9, d9, args9, a9⟩ (by show args9.sz < args.sz; omega) W' ad1 cap1 ((HP.out.below HBEL.out).below hW) (HAX.out.below hW))
          unfold pv NmAns at HC
          simp only at HC
          clear hbel hn hd1 ht
          go_wp2
          go_region_with (go_at_call 27; refine (HC.out _ (by repeat (first | (with_reducible exact Below.refl _ _) | ((with_reducible refine below_setAt ?_ ?_ _); (rotate_left; focus (first | omega | (simp; done) | (simp; omega)))) | ((with_reducible refine Below.alloc ?_ ?_ _); (rotate_left; focus (first | omega | (simp; done) | (simp; omega)))) | (with_reducible refine below_drewN ?_ _) | (with_reducible refine Below.drew ?_)))).mono ?_; rintro x w2 ⟨⟨b2, rfl, hb2t⟩, hb2⟩)
          all_goals cases b2
          all_goals go_wp2
          all_goals first
            | (go_ret; exact ⟨⟨false, rfl, fun h => by cases h⟩, (by repeat (first | (with_reducible exact Below.refl _ _) | ((with_reducible refine below_setAt ?_ ?_ _); (rotate_left; focus (first | omega | (simp; done) | (simp; omega)))) | ((with_reducible refine Below.alloc ?_ ?_ _); (rotate_left; focus (first | omega | (simp; done) | (simp; omega)))) | (with_reducible refine below_drewN ?_ _) | (with_reducible refine Below.drew ?_) | ((with_reducible refine Below.trans ?_ (Below.mono hb2 ?_)); (rotate_left; focus (first | omega | (simp; done) | (simp; omega)))) | ((with_reducible refine Below.trans ?_ (Below.mono HBEL.out ?_)); (rotate_left; focus (first | omega | (simp; done) | (simp; omega))))))⟩)
            | (go_roundw; (case rel => first | exact ⟨i + 1, tl, by go_num, HRS.out.tail.below (by repeat (first | (with_reducible exact Below.refl _ _) | ((with_reducible refine below_setAt ?_ ?_ _); (rotate_left; focus (first | omega | (simp; done) | (simp; omega)))) | ((with_reducible refine Below.alloc ?_ ?_ _); (rotate_left; focus (first | omega | (simp; done) | (simp; omega)))) | (with_reducible refine below_drewN ?_ _) | (with_reducible refine Below.drew ?_) | ((with_reducible refine Below.trans ?_ (Below.mono hb2 ?_)); (rotate_left; focus (first | omega | (simp; done) | (simp; omega)))))), fun h => HNR.out (by rw [nmL, (hb2t rfl).1, (hb2t rfl).2, h]; rfl), (hb2.block _ hplt).trans HPB.out, (hb2.block _ helt).trans HEB.out, (by repeat (first | (with_reducible exact Below.refl _ _) | ((with_reducible refine below_setAt ?_ ?_ _); (rotate_left; focus (first | omega | (simp; done) | (simp; omega)))) | ((with_reducible refine Below.alloc ?_ ?_ _); (rotate_left; focus (first | omega | (simp; done) | (simp; omega)))) | (with_reducible refine below_drewN ?_ _) | (with_reducible refine Below.drew ?_) | ((with_reducible refine Below.trans ?_ (Below.mono hb2 ?_)); (rotate_left; focus (first | omega | (simp; done) | (simp; omega)))) | ((with_reducible refine Below.trans ?_ (Below.mono HBEL.out ?_)); (rotate_left; focus (first | omega | (simp; done) | (simp; omega))))))⟩ | ((repeat apply Exists.intro); exact ⟨⟨i + 1, tl, by go_num, HRS.out.tail.below (by repeat (first | (with_reducible exact Below.refl _ _) | ((with_reducible refine below_setAt ?_ ?_ _); (rotate_left; focus (first | omega | (simp; done) | (simp; omega)))) | ((with_reducible refine Below.alloc ?_ ?_ _); (rotate_left; focus (first | omega | (simp; done) | (simp; omega)))) | (with_reducible refine below_drewN ?_ _) | (with_reducible refine Below.drew ?_) | ((with_reducible refine Below.trans ?_ (Below.mono hb2 ?_)); (rotate_left; focus (first | omega | (simp; done) | (simp; omega)))))), fun h => HNR.out (by rw [nmL, (hb2t rfl).1, (hb2t rfl).2, h]; rfl), (hb2.block _ hplt).trans HPB.out, (hb2.block _ helt).trans HEB.out, (by repeat (first | (with_reducible exact Below.refl _ _) | ((with_reducible refine below_setAt ?_ ?_ _); (rotate_left; focus (first | omega | (simp; done) | (simp; omega)))) | ((with_reducible refine Below.alloc ?_ ?_ _); (rotate_left; focus (first | omega | (simp; done) | (simp; omega)))) | (with_reducible refine below_drewN ?_ _) | (with_reducible refine Below.drew ?_) | ((with_reducible refine Below.trans ?_ (Below.mono hb2 ?_)); (rotate_left; focus (first | omega | (simp; done) | (simp; omega)))) | ((with_reducible refine Below.trans ?_ (Below.mono HBEL.out ?_)); (rotate_left; focus (first | omega | (simp; done) | (simp; omega))))))⟩, rfl⟩)); (case measure => simp [intOf]; omega))

theorem exprN_any (p : PG) (an ai af ao : Option Addr) (cn ci cf co : Nat) (hl1 : p.nodes.length ≤ 1000) (hl2 : p.ins.length ≤ 1000) (hl3 : p.flows.length ≤ 1000) (e : PE) : ExprNSaid p an ai af ao cn ci cf co e := by
  suffices h : ∀ (N : Nat) (e : PE), e.args.sz < N → ExprNSaid p an ai af ao cn ci cf co e from h _ e (Nat.lt_succ_self _)
  intro N
  induction N with
  | zero => intro e h; omega
  | succ N ih => intro e h; exact exprN_step p an ai af ao cn ci cf co hl1 hl2 hl3 e (fun e' h' => ih e' (by omega))

end Go.Proofs.Ytjcmjlkihfcdcaa.syn
