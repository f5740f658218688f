/-
  Flows' clocks: what find finds; that all are found; one call's arguments.
-/
import Derived.Test.YtjcmjlkihfcdcaaChk1
import Derived.Test.YtjcmjlkihfcdcaaPgA
namespace Go.Proofs.Ytjcmjlkihfcdcaa.syn
open Go.RowKit
set_option linter.unusedVariables false
set_option linter.unusedSimpArgs false

theorem getS_put (k : ByteArray) (v : Value) (nm : ByteArray) : ∀ L : List (ByteArray × Value), getS nm (putS k v L) = if nm = k then some v else getS nm L := by
  intro L
  induction L with
  | nil => unfold putS getS; rfl
  | cons p L ih =>
    unfold putS
    by_cases hk : k = p.1
    · rw [if_pos hk]
      unfold getS
      by_cases h : nm = k
      · rw [if_pos h, if_pos h]
      · rw [if_neg h, if_neg h, if_neg (by rw [← hk]; exact h)]
    · rw [if_neg hk]
      unfold getS
      by_cases h : nm = p.1
      · rw [if_pos h, if_pos h, if_neg (by rw [h]; exact fun e => hk e.symm)]
      · rw [if_neg h, if_neg h]; exact ih
theorem putS_new (k : ByteArray) (v : Value) : ∀ L : List (ByteArray × Value), getS k L = none → (putS k v L).length = L.length + 1 := by
  intro L
  induction L with
  | nil => intro _; rfl
  | cons p L ih =>
    intro h
    unfold getS at h
    by_cases hk : k = p.1
    · rw [if_pos hk] at h; cases h
    · rw [if_neg hk] at h
      unfold putS
      rw [if_neg hk, List.length_cons, ih h, List.length_cons]
def upd (env : Env) (k : ByteArray) (c : Int × Int) : Env := fun nm => if nm = k then some c else env nm
theorem EnvIs.put {L : List (ByteArray × Value)} {env : Env} (h : EnvIs L env) (k : ByteArray) (c : Int × Int) : EnvIs (putS k (cvv c) L) (upd env k c) := by
  intro nm
  rw [getS_put]
  unfold upd
  by_cases hk : nm = k
  · rw [if_pos hk, if_pos hk]; rfl
  · rw [if_neg hk, if_neg hk]; exact h nm

/-- What find comes to, where each flow's expression can be told once those ahead are known. -/
def findP (env : Env) : List FL → Option Env
  | [] => some env
  | f :: fs => match tellE env f.e with
    | .ok p q => findP (upd env f.nm (p, q)) fs
    | _ => none
theorem findP_cons (env : Env) (f : FL) (fs : List FL) : findP env (f :: fs) = match tellE env f.e with
    | .ok p q => findP (upd env f.nm (p, q)) fs
    | _ => none := rfl
def NU (env : Env) : List FL → Prop
  | [] => True
  | f :: fs => env f.nm = none ∧ (match tellE env f.e with
    | .unk => False
    | .ok p q => NU (upd env f.nm (p, q)) fs
    | .bad _ _ => True)

theorem findP_keeps : ∀ (fs : List FL) (env env' : Env) (nm : ByteArray) (c : Int × Int), NU env fs → findP env fs = some env' → env nm = some c → env' nm = some c := by
  intro fs
  induction fs with
  | nil => intro env env' nm c _ h h2; injection h with h; rw [← h]; exact h2
  | cons f fs ih =>
    intro env env' nm c hn h h2
    unfold findP at h
    unfold NU at hn
    obtain ⟨hn1, hn2⟩ := hn
    cases ht : tellE env f.e with
    | unk => rw [ht] at h; cases h
    | bad a e => rw [ht] at h; cases h
    | ok p q =>
      rw [ht] at h hn2
      refine ih _ _ nm c hn2 h ?_
      unfold upd
      rw [if_neg (by intro e; subst e; rw [hn1] at h2; cases h2)]; exact h2
theorem findP_has : ∀ (fs : List FL) (env env' : Env), NU env fs → findP env fs = some env' → ∀ f ∈ fs, ∃ c, env' f.nm = some c := by
  intro fs
  induction fs with
  | nil => intro env env' _ _ f hf; cases hf
  | cons g fs ih =>
    intro env env' hn h f hf
    unfold findP at h
    unfold NU at hn
    obtain ⟨hn1, hn2⟩ := hn
    cases ht : tellE env g.e with
    | unk => rw [ht] at h; cases h
    | bad a e => rw [ht] at h; cases h
    | ok p q =>
      rw [ht] at h hn2
      rcases List.mem_cons.1 hf with rfl | hf
      · exact ⟨(p, q), findP_keeps fs _ _ _ _ hn2 h (by unfold upd; rw [if_pos rfl])⟩
      · exact ih _ _ hn2 h f hf

/-- How many entries a map has. -/
def mapsz (w : World) (mb : Nat) : Nat := match w.heap[mb]? with | some (.map arr _) => arr.size | _ => 0
theorem MapS.size {w : World} {mb : Nat} {L : List (ByteArray × Value)} (h : MapS w mb L) : mapsz w mb = L.length := by
  obtain ⟨arr, clock, h1, h2⟩ := h
  unfold mapsz
  rw [h1]
  have := congrArg List.length h2
  simpa using this

theorem FlC.cells {w : World} {b o : Nat} {nm nm1 : ByteArray} {k1 n1 d1 a1 fa : Int} {args1 : PL} (h : FlC w b o ⟨nm, ⟨k1, nm1, n1, d1, args1, a1⟩, fa⟩) : ∃ ad cap,
    w.cell? ⟨b, o, none⟩ = some (.string nm) ∧ w.cell? ⟨b, o + 1, none⟩ = some (.int .i64 k1) ∧ w.cell? ⟨b, o + 2, none⟩ = some (.string nm1) ∧ w.cell? ⟨b, o + 3, none⟩ = some (.int .i64 n1) ∧ w.cell? ⟨b, o + 4, none⟩ = some (.int .i64 d1) ∧
    w.cell? ⟨b, o + 5, none⟩ = some (.slice ad args1.len cap) ∧ w.cell? ⟨b, o + 6, none⟩ = some (.int .i64 a1) ∧ w.cell? ⟨b, o + 7, none⟩ = some (.int .i64 fa) ∧ AE w ⟨k1, nm1, n1, d1, args1, a1⟩ ad cap ∧ (nm.size ≤ 9223372036854775807 ∧ I64 fa) := by
  obtain ⟨x0, ⟨ad1, cap1, x1, x2, x3, x4, x5, x6, hae⟩, x7, hfn⟩ := h
  exact ⟨ad1, cap1, x0, x1, x2, x3, x4, x5, x6, x7, hae, hfn⟩
theorem drop_fl {l : List FL} {i : Nat} (h : i < l.length) : l.drop i = l[i] :: l.drop (i + 1) := by rw [List.drop_eq_getElem_cons h]
theorem MapS.upon {w w' : World} {mb r : Nat} {L : List (ByteArray × Value)} (h : MapS w mb L) (hu : Upon r w w') (hne : mb ≠ r) : MapS w' mb L := by
  obtain ⟨arr, clock, h1, h2⟩ := h
  exact ⟨arr, clock, (hu.block mb (lt_of_block h1) hne).trans h1, h2⟩

/-- What holds at find's loops' heads. -/
structure FW (W0 w wr : World) (mb : Nat) (L : List (ByteArray × Value)) (env : Env) : Prop where
  upon : Upon mb w wr
  map : MapS wr mb L
  env : EnvIs L env
def OutRel (W0 w : World) (mb : Nat) (L0 : List (ByteArray × Value)) (env0 : Env) (flows : List FL) (v : Value) (wr : World) : Prop :=
  (v = .bool true ∧ FW W0 w wr mb L0 env0) ∨ ∃ (b : Bool) (env : Env) (L : List (ByteArray × Value)), v = .bool b ∧ findP env0 flows = some env ∧ FW W0 w wr mb L env ∧ L.length = L0.length + flows.length ∧ (b = true → flows ≠ [])
def InA (W0 w : World) (mb : Nat) (L0 : List (ByteArray × Value)) (env0 : Env) (flows : List FL) (v6 v15 : Value) (wr : World) : Prop :=
  ∃ (i : Nat) (b : Bool) (env : Env) (L : List (ByteArray × Value)), v15 = .int .i64 (i : Int) ∧ v6 = .bool b ∧ i ≤ flows.length ∧ (b = true → i ≠ 0) ∧ findP env (flows.drop i) = findP env0 flows ∧ NU env (flows.drop i) ∧ FW W0 w wr mb L env ∧ L.length = L0.length + i
def InB (W0 w : World) (mb : Nat) (L : List (ByteArray × Value)) (env : Env) (flows : List FL) (v6 v15 : Value) (wr : World) : Prop :=
  ∃ (i : Nat), v15 = .int .i64 (i : Int) ∧ v6 = .bool false ∧ i ≤ flows.length ∧ FW W0 w wr mb L env
def FindAns (env0 : Env) (flows : List FL) (mb : Nat) (w : World) (x : Ending) (w' : World) : Prop :=
  (match findP env0 flows with
    | some env => x = .returned (.tuple #[.int .i64 0, .int .i64 0]) ∧ ∃ L', MapS w' mb L' ∧ EnvIs L' env
    | none => ∃ a e, e ≠ 0 ∧ x = .returned (.tuple #[.int .i64 a, .int .i64 e])) ∧ Upon mb w w'

def isT : Value → Nat
  | .bool true => 1
  | _ => 0


set_option maxRecDepth 100000 in
set_option maxHeartbeats 4000000 in
theorem find_any {W0 w : World} (flows : List FL) (af : Option Addr) (cf mb : Nat) (L0 : List (ByteArray × Value)) (env0 : Env) (hW : Below W0.heap.size W0 w) (hmb : W0.heap.size ≤ mb) (hr : Row FlC 8 W0 flows af) (hc1 : flows.length ≤ cf) (hc2 : cf ≤ 9223372036854775807)
    (hM : MapS w mb L0) (hE : EnvIs L0 env0) (hN : NU env0 flows) :
    Calls Try.prog 29 #[.map (some mb), .slice af flows.length cf] w (FindAns env0 flows mb w) := by
  have HW := Lib.hid hW
  have HR := Lib.hid hr
  have HN := Lib.hid hN
  have HFW0 := Lib.hid (show FW W0 w w mb L0 env0 from ⟨Upon.refl _ _, hM, hE⟩)
  have HLT := hM.lt
  have hfl64 : flows.length ≤ 9223372036854775807 := Nat.le_trans hc1 hc2
  clear hW hr hN hM hE
  go_enter Try.func29, Try.ntmps29
  go_wp2
  go_loopw [6] (fun v wr => Hid (OutRel W0 w mb L0 env0 flows v wr)) (fun v wr => L0.length + flows.length + 1 - mapsz wr mb + isT v)
  case atStart => exact .inl ⟨rfl, HFW0.out⟩
  case round =>
    rcases hrel.out with ⟨rfl, hfw⟩ | ⟨b, env, L, rfl, hfp, hfw, hL, hb⟩
    · clear hrel
      have HFA := Lib.hid hfw
      have hmz : mapsz wr mb = L0.length := hfw.map.size
      clear hfw
      obtain ⟨wo, hwo⟩ : ∃ wo, wo = wr := ⟨_, rfl⟩
      go_wp2
      go_loopw [6, 15] (fun v6 v15 wr => Hid (InA W0 w mb L0 env0 flows v6 v15 wr)) (fun _ i _ => flows.length - (intOf i).toNat)
      case atStart => exact ⟨0, false, env0, L0, rfl, rfl, Nat.zero_le _, (by intro h; cases h), rfl, HN.out, HFA.out, rfl⟩
      case round =>
        obtain ⟨i, b, env, L, rfl, rfl, hi, hb, hfp, hnu, hfw, hL⟩ := hrel.out
        clear hrel
        have HFW := Lib.hid hfw
        have HFP := Lib.hid hfp
        have hmz2 : mapsz wr mb = L.length := hfw.map.size
        have hsW : w.heap.size ≤ wr.heap.size := hfw.upon.size
        have hmlt := hfw.map.lt
        by_cases hlt : i < flows.length
        · have hrow := HR.out.below flSta (HW.out.trans (HFW.out.upon.below HW.out.size hmb))
          obtain ⟨bb, oo, rfl, hbb, hfl⟩ := hrow.at hlt
          rw [drop_fl hlt] at hfp hnu
          obtain ⟨f, hf⟩ : ∃ f, flows[i] = f := ⟨_, rfl⟩
          rw [hf] at hfl hfp hnu
          obtain ⟨nm, ⟨k1, nm1, n1, d1, args1, a1⟩, fa⟩ := f
          obtain ⟨ad1, cap1, x0, x1, x2, x3, x4, x5, x6, x7, hae, hfn⟩ := hfl.cells
          unfold NU at hnu
          rw [findP_cons] at hfp
          simp only at hnu hfp hae
          obtain ⟨hnn, hnu⟩ := hnu
          have HG := Lib.hid (show getS nm L = none by rw [hfw.env nm, hnn]; rfl)
          have HC := Lib.hid (tell_any hfw.env ⟨k1, nm1, n1, d1, args1, a1⟩)
          have HE := Lib.hid hae
          have hgd := tellE_good env ⟨k1, nm1, n1, d1, args1, a1⟩
          unfold TellSaid at HC
          simp only at HC
          have hie : (i : Int) < (flows.length : Int) := by omega
          clear hfw hrow hae hnn
          generalize tellE env ⟨k1, nm1, n1, d1, args1, a1⟩ = t at hnu hfp hgd HC
          cases t with
          | unk => exact hnu.elim
          | bad ab eb =>
            simp only at hfp
            simp only [TT.v] at HC
            have heb : (eb == 0) = false := beq_eq_false_iff_ne.2 hgd
            have hfn0 : findP env0 flows = none := hfp.symm
            have HFN := Lib.hid hfn0
            clear hfp hnu hfn0 HFP
            go_wp2_with (first | (at_lookup; refine wpList_lookS_no2 clocksMap _ rfl _ _ rfl mb L nm rfl rfl (HFW.out.map.below (by repeat (first | (with_reducible exact Below.refl _ _) | ((with_reducible refine below_setAt ?_ ?_ _); (rotate_left; focus (first | omega | (simp; done) | (simp; omega)))) | ((with_reducible refine Below.alloc ?_ ?_ _); (rotate_left; focus (first | omega | (simp; done) | (simp; omega)))) | (with_reducible refine below_drewN ?_ _) | (with_reducible refine Below.drew ?_)))) HG.out ?_) | (go_at_call 45; (with_reducible refine (HC.out _ _ _ _ (HE.out.below (by repeat (first | (with_reducible exact Below.refl _ _) | ((with_reducible refine below_setAt ?_ ?_ _); (rotate_left; focus (first | omega | (simp; done) | (simp; omega)))) | ((with_reducible refine Below.alloc ?_ ?_ _); (rotate_left; focus (first | omega | (simp; done) | (simp; omega)))) | (with_reducible refine below_drewN ?_ _) | (with_reducible refine Below.drew ?_)))) (HFW.out.map.below (by repeat (first | (with_reducible exact Below.refl _ _) | ((with_reducible refine below_setAt ?_ ?_ _); (rotate_left; focus (first | omega | (simp; done) | (simp; omega)))) | ((with_reducible refine Below.alloc ?_ ?_ _); (rotate_left; focus (first | omega | (simp; done) | (simp; omega)))) | (with_reducible refine below_drewN ?_ _) | (with_reducible refine Below.drew ?_))))).mono ?_); rintro x w2 ⟨rfl, hb2⟩; obtain ⟨hc2, hf2⟩ := bcell hb2; have a2 : wr.heap.size < w2.heap.size := sz_of hb2 (by first | omega | (simp; done) | (simp; omega)); have a3 : wr.heap.size + 1 < w2.heap.size := sz_of hb2 (by first | omega | (simp; done) | (simp; omega))))
            go_quiet (fail)
            go_wp2
            go_ret2
            refine ⟨?_, (by repeat (first | (with_reducible exact Upon.refl _ _) | ((with_reducible refine Upon.setAt ?_ ?_ _); (rotate_left; focus (first | exact Or.inl rfl | omega | (simp; done) | (simp; omega)))) | (with_reducible refine Upon.alloc ?_ _) | (with_reducible refine Upon.drewN ?_ _) | (with_reducible refine Upon.drew ?_) | (with_reducible refine Upon.trans ?_ (Upon.of_below hb2)) | (with_reducible refine Upon.trans ?_ HFW.out.upon)))⟩
            rw [HFN.out]
            exact ⟨ab, eb, hgd, rfl⟩
          | ok p q =>
            simp only at hfp hnu
            simp only [TT.v] at HC
            have HFP2 := Lib.hid hfp
            have HNU2 := Lib.hid hnu
            clear hfp hnu HFP
            go_wp2_with (first | (at_lookup; refine wpList_lookS_no2 clocksMap _ rfl _ _ rfl mb L nm rfl rfl (HFW.out.map.below (by repeat (first | (with_reducible exact Below.refl _ _) | ((with_reducible refine below_setAt ?_ ?_ _); (rotate_left; focus (first | omega | (simp; done) | (simp; omega)))) | ((with_reducible refine Below.alloc ?_ ?_ _); (rotate_left; focus (first | omega | (simp; done) | (simp; omega)))) | (with_reducible refine below_drewN ?_ _) | (with_reducible refine Below.drew ?_)))) HG.out ?_) | (go_at_call 45; (with_reducible refine (HC.out _ _ _ _ (HE.out.below (by repeat (first | (with_reducible exact Below.refl _ _) | ((with_reducible refine below_setAt ?_ ?_ _); (rotate_left; focus (first | omega | (simp; done) | (simp; omega)))) | ((with_reducible refine Below.alloc ?_ ?_ _); (rotate_left; focus (first | omega | (simp; done) | (simp; omega)))) | (with_reducible refine below_drewN ?_ _) | (with_reducible refine Below.drew ?_)))) (HFW.out.map.below (by repeat (first | (with_reducible exact Below.refl _ _) | ((with_reducible refine below_setAt ?_ ?_ _); (rotate_left; focus (first | omega | (simp; done) | (simp; omega)))) | ((with_reducible refine Below.alloc ?_ ?_ _); (rotate_left; focus (first | omega | (simp; done) | (simp; omega)))) | (with_reducible refine below_drewN ?_ _) | (with_reducible refine Below.drew ?_))))).mono ?_); rintro x w2 ⟨rfl, hb2⟩; obtain ⟨hc2, hf2⟩ := bcell hb2; have a2 : wr.heap.size < w2.heap.size := sz_of hb2 (by first | omega | (simp; done) | (simp; omega)); have a3 : wr.heap.size + 1 < w2.heap.size := sz_of hb2 (by first | omega | (simp; done) | (simp; omega))) | (at_mapUpdate; refine wpList_putS clocksMap _ rfl _ _ _ rfl mb L nm (cvv (p, q)) rfl rfl rfl (HFW.out.map.below (by repeat (first | (with_reducible exact Below.refl _ _) | ((with_reducible refine below_setAt ?_ ?_ _); (rotate_left; focus (first | omega | (simp; done) | (simp; omega)))) | ((with_reducible refine Below.alloc ?_ ?_ _); (rotate_left; focus (first | omega | (simp; done) | (simp; omega)))) | (with_reducible refine below_drewN ?_ _) | (with_reducible refine Below.drew ?_) | ((with_reducible refine Below.trans ?_ (Below.mono hb2 ?_)); (rotate_left; focus (first | omega | (simp; done) | (simp; omega))))))) ?_; intro arr clock hm2))
            refine ⟨?_, by simp [intOf]; omega⟩
            refine ⟨i + 1, true, upd env nm (p, q), _, by go_num, rfl, by omega, (by intro _; omega), HFP2.out, HNU2.out, ⟨upon_putM (by repeat (first | (with_reducible exact Upon.refl _ _) | ((with_reducible refine Upon.setAt ?_ ?_ _); (rotate_left; focus (first | exact Or.inl rfl | omega | (simp; done) | (simp; omega)))) | (with_reducible refine Upon.alloc ?_ _) | (with_reducible refine Upon.drewN ?_ _) | (with_reducible refine Upon.drew ?_) | (with_reducible refine Upon.trans ?_ (Upon.of_below hb2)) | (with_reducible refine Upon.trans ?_ HFW.out.upon))) _, hm2, HFW.out.env.put nm (p, q)⟩, by rw [putS_new _ _ _ HG.out]; omega⟩
        · have hie : i = flows.length := by omega
          have hfp1 : findP env0 flows = some env := by rw [← hfp, hie, List.drop_length]; rfl
          have HFP1 := Lib.hid hfp1
          clear hfp hnu hfw hfp1
          go_wp2
          refine ⟨.inr ⟨b, env, L, rfl, HFP1.out, HFW.out, by omega, fun h => ?_⟩, ?_⟩
          · intro he; have := hb h; rw [he] at hie; simp at hie; omega
          · cases b with
            | true => have := hb rfl; simp only [isT]; omega
            | false => simp only [isT]; omega
    · clear hrel
      have hmz : mapsz wr mb = L.length := hfw.map.size
      have HFB := Lib.hid hfw
      have HFP := Lib.hid hfp
      clear hfw hfp
      cases b with
      | false =>
        go_wp2
        go_ret2
        refine ⟨?_, HFB.out.upon⟩
        rw [HFP.out]
        exact ⟨rfl, L, HFB.out.map, HFB.out.env⟩
      | true =>
        go_wp2
        go_loopw [6, 15] (fun v6 v15 wr => Hid (InB W0 w mb L env flows v6 v15 wr)) (fun _ i _ => flows.length - (intOf i).toNat)
        case atStart => exact ⟨0, rfl, rfl, Nat.zero_le _, HFB.out⟩
        case round =>
          obtain ⟨i, rfl, rfl, hi, hfw⟩ := hrel.out
          clear hrel
          have HFW := Lib.hid hfw
          have hmz2 : mapsz wr mb = L.length := hfw.map.size
          have hsW : w.heap.size ≤ wr.heap.size := hfw.upon.size
          have hmlt := hfw.map.lt
          by_cases hlt : i < flows.length
          · have hrow := HR.out.below flSta (HW.out.trans (HFW.out.upon.below HW.out.size hmb))
            obtain ⟨bb, oo, rfl, hbb, hfl⟩ := hrow.at hlt
            obtain ⟨c, hc⟩ := findP_has flows env0 env HN.out HFP.out flows[i] (List.getElem_mem hlt)
            obtain ⟨f, hf⟩ : ∃ f, flows[i] = f := ⟨_, rfl⟩
            rw [hf] at hfl hc
            obtain ⟨nm, ⟨k1, nm1, n1, d1, args1, a1⟩, fa⟩ := f
            obtain ⟨ad1, cap1, x0, x1, x2, x3, x4, x5, x6, x7, hae, hfn⟩ := hfl.cells
            obtain ⟨c1, c2⟩ := c
            have HG := Lib.hid (show getS nm L = some (.agg #[.int .i64 c1, .int .i64 c2]) by rw [hfw.env nm, hc]; rfl)
            have hie : (i : Int) < (flows.length : Int) := by omega
            clear hfw hrow hae hc
            go_wp2_with (at_lookup; refine wpList_lookS_yes2 clocksMap _ rfl _ _ rfl mb L nm _ rfl rfl (HFW.out.map.below (by repeat (first | (with_reducible exact Below.refl _ _) | ((with_reducible refine below_setAt ?_ ?_ _); (rotate_left; focus (first | omega | (simp; done) | (simp; omega)))) | ((with_reducible refine Below.alloc ?_ ?_ _); (rotate_left; focus (first | omega | (simp; done) | (simp; omega)))) | (with_reducible refine below_drewN ?_ _) | (with_reducible refine Below.drew ?_)))) HG.out ?_)
            refine ⟨⟨i + 1, by go_num, rfl, by omega, ⟨(by repeat (first | (with_reducible exact Upon.refl _ _) | ((with_reducible refine Upon.setAt ?_ ?_ _); (rotate_left; focus (first | exact Or.inl rfl | omega | (simp; done) | (simp; omega)))) | (with_reducible refine Upon.alloc ?_ _) | (with_reducible refine Upon.drewN ?_ _) | (with_reducible refine Upon.drew ?_) | (with_reducible refine Upon.trans ?_ (Upon.of_below hb2)) | (with_reducible refine Upon.trans ?_ HFW.out.upon))), HFW.out.map.below (by repeat (first | (with_reducible exact Below.refl _ _) | ((with_reducible refine below_setAt ?_ ?_ _); (rotate_left; focus (first | omega | (simp; done) | (simp; omega)))) | ((with_reducible refine Below.alloc ?_ ?_ _); (rotate_left; focus (first | omega | (simp; done) | (simp; omega)))) | (with_reducible refine below_drewN ?_ _) | (with_reducible refine Below.drew ?_))), HFW.out.env⟩⟩, by simp [intOf]; omega⟩
          · clear hfw
            go_wp2
            refine ⟨.inr ⟨false, env, L, rfl, HFP.out, HFW.out, hL, by intro h; cases h⟩, ?_⟩
            simp only [isT]; omega

end Go.Proofs.Ytjcmjlkihfcdcaa.syn
