/-
  Parts of the proof: Base.
-/
import Derived.Test.YtpjficjlfibibaaGreatDoorChecked
import Derived.WalkKit
import Derived.ProofKit
import Derived.OpenShut
import Derived.Handy
import Derived.BigQuiet
import Derived.OneCell
import Derived.WalkSpells
import Derived.WalkLawsBesides
import Derived.Deep.QuietTactic
import Derived.Deep.RegionWith
import Derived.Lib.Hide
import Derived.Lib.Strings
import Derived.Lib.SlicesS
import Derived.OrdersHeld
namespace Go.Proofs.YtpjficjlfibibaaGreatDoor.syn
open Go.RowKit
set_option linter.unusedVariables false
set_option linter.unusedSimpArgs false
structure Upon (r:Nat) (w w':World):Prop where
 os:w'.os = w.os
 tape:w'.tape = w.tape
 output:w'.output = w.output
 size:w.heap.size ≤ w'.heap.size
 block:∀ k,k < w.heap.size → k ≠ r → w'.heap[k]? = w.heap[k]?
theorem Upon.refl (r:Nat) (w:World):Upon r w w:=⟨rfl,rfl,rfl,Nat.le_refl _,fun _ _ _ => rfl⟩
theorem Upon.trans {r:Nat} {a b c:World} (h:Upon r a b) (k:Upon r b c):Upon r a c :=
 ⟨k.os.trans h.os,k.tape.trans h.tape,k.output.trans h.output,Nat.le_trans h.size k.size,fun i hi hr => (k.block i (Nat.lt_of_lt_of_le hi h.size) hr).trans (h.block i hi hr)⟩
theorem Upon.of_below {r:Nat} {a b:World} (h:Below a.heap.size a b):Upon r a b:=⟨h.os,h.tape,h.output,h.size,fun k hk _ => h.block k hk⟩
theorem Upon.below {r B:Nat} {a b:World} (h:Upon r a b) (h1:B ≤ a.heap.size) (h2:B ≤ r):Below B a b :=
 ⟨h.os,h.tape,h.output,h.size,fun k hk => h.block k (by omega) (by omega)⟩
theorem Upon.drew {r:Nat} {a w:World} (h:Upon r a w):Upon r a w.drew:=⟨h.os,h.tape,h.output,h.size,h.block⟩
theorem Upon.drewN {r:Nat} {a w:World} (h:Upon r a w) (n:Nat):Upon r a (w.drewN n):=⟨h.os,h.tape,h.output,h.size,h.block⟩
theorem Upon.alloc {r:Nat} {a w:World} (h:Upon r a w) (o:Obj):Upon r a (w.alloc o) :=
 h.trans ⟨rfl,rfl,rfl,by simp,fun k hk _ => Below.heap_alloc _ _ _ hk⟩
theorem Upon.setCell {r:Nat} {a w:World} (h:Upon r a w) {p:Addr} (hp:p.block = r ∨ a.heap.size ≤ p.block) (u:Value):Upon r a (w.setCell p u) :=
 ⟨h.os,h.tape,h.output,by simpa [World.setCell] using h.size,fun k hk hr => by rw [Below.heap_setCell _ _ _ _ (by omega)];exact h.block k hk hr⟩
theorem Upon.setAt {r:Nat} {a w:World} (h:Upon r a w) {b o:Nat} (hp:b = r ∨ a.heap.size ≤ b) (u:Value):Upon r a (w.setCell ⟨b,o,none⟩ u):=h.setCell (p:=⟨b,o,none⟩) hp u
theorem below_setAt {B:Nat} {a w:World} (h:Below B a w) {b o:Nat} (hp:B ≤ b) (u:Value):Below B a (w.setCell ⟨b,o,none⟩ u):=h.setCell (p:=⟨b,o,none⟩) hp u
theorem Upon.cell {r:Nat} {w w':World} (h:Upon r w w') {p:Addr} (hp:p.block < w.heap.size) (hr:p.block ≠ r):w'.cell? p = w.cell? p:=World.cell?_of_block (w:=w) (h.block p.block hp hr)
theorem Upon.frozen {r:Nat} {w w':World} (h:Upon r w w') {p:Addr} (hp:p.block < w.heap.size) (hr:p.block ≠ r):w'.frozen? p = w.frozen? p:=World.frozen?_of_block (w:=w) (h.block p.block hp hr)
theorem bcell {W w1:World} (hb:Below W.heap.size W w1):(∀ b o,b < W.heap.size → w1.cell? ⟨b,o,none⟩ = W.cell? ⟨b,o,none⟩) ∧ (∀ b o,b < W.heap.size → w1.frozen? ⟨b,o,none⟩ = W.frozen? ⟨b,o,none⟩) :=
 ⟨fun b o h => hb.cell (p:=⟨b,o,none⟩) h,fun b o h => hb.frozen (p:=⟨b,o,none⟩) h⟩
theorem ucell {r:Nat} {W w1:World} (hb:Upon r W w1):(∀ b o,b < W.heap.size → b ≠ r → w1.cell? ⟨b,o,none⟩ = W.cell? ⟨b,o,none⟩) ∧ (∀ b o,b < W.heap.size → b ≠ r → w1.frozen? ⟨b,o,none⟩ = W.frozen? ⟨b,o,none⟩) :=
 ⟨fun b o h hr => hb.cell (p:=⟨b,o,none⟩) h hr,fun b o h hr => hb.frozen (p:=⟨b,o,none⟩) h hr⟩
theorem sz_of {B k:Nat} {a w:World} (h:Below B a w) (hk:k < a.heap.size):k < w.heap.size:=Nat.lt_of_lt_of_le hk h.size
theorem below_drewN {B:Nat} {a w:World} (h:Below B a w) (n:Nat):Below B a (w.drewN n):=⟨h.os,h.tape,h.output,h.size,h.block⟩
def wordsL:List ByteArray:=[⟨#[110,111,100,101]⟩,⟨#[98,117,100,103,101,116]⟩,⟨#[105,110,112,117,116]⟩,⟨#[112,101,114,105,111,100]⟩,⟨#[112,104,97,115,101]⟩,⟨#[102,108,111,119]⟩,⟨#[102,98,121]⟩,⟨#[116,97,105,108]⟩,⟨#[111,117,116,112,117,116]⟩,⟨#[100,101,97,100,108,105,110,101]⟩]
inductive PL where
 | nil:PL
 | cons (k:Int) (nm:ByteArray) (n d:Int) (args:PL) (a:Int) (tl:PL):PL
def PL.len:PL → Nat
 | .nil => 0
 | .cons _ _ _ _ _ _ tl => tl.len + 1
structure PE where
 k:Int
 nm:ByteArray
 n:Int
 d:Int
 args:PL
 a:Int
def PE.one (e:PE):PL:=.cons e.k e.nm e.n e.d e.args e.a .nil
def OkB (w:World) (P:Nat → Prop) (b:Nat):Prop:=P b ∧ ∃ cs,w.heap[b]? = some (.cells cs 95 (0,0))
def Cells (w:World) (P:Nat → Prop) (b:Nat):PL → Nat → Prop
 | .nil,_ => True
 | .cons k nm n d args a tl,o => w.cell? ⟨b,o,none⟩ = some (.int .i64 k) ∧ w.cell? ⟨b,o + 1,none⟩ = some (.string nm) ∧ w.cell? ⟨b,o + 2,none⟩ = some (.int .i64 n) ∧
   w.cell? ⟨b,o + 3,none⟩ = some (.int .i64 d) ∧ w.cell? ⟨b,o + 5,none⟩ = some (.int .i64 a) ∧
   (∃ ad cap,w.cell? ⟨b,o + 4,none⟩ = some (.slice ad args.len cap) ∧ args.len ≤ cap ∧ (args = .nil ∨ ∃ b' o',ad = some ⟨b',o',none⟩ ∧ OkB w P b' ∧ Cells w P b' args o')) ∧
   Cells w P b tl (o + 6)
def SlA (w:World) (P:Nat → Prop) (args:PL) (ad:Option Addr):Prop:=args = .nil ∨ ∃ b o,ad = some ⟨b,o,none⟩ ∧ OkB w P b ∧ Cells w P b args o
structure Same (P:Nat → Prop) (w w':World):Prop where
 size:w.heap.size ≤ w'.heap.size
 block:∀ b,P b → b < w.heap.size → w'.heap[b]? = w.heap[b]?
theorem Same.refl (P:Nat → Prop) (w:World):Same P w w:=⟨Nat.le_refl _,fun _ _ _ => rfl⟩
theorem Same.trans {P:Nat → Prop} {a b c:World} (h:Same P a b) (k:Same P b c):Same P a c :=
 ⟨Nat.le_trans h.size k.size,fun i hp hi => (k.block i hp (Nat.lt_of_lt_of_le hi h.size)).trans (h.block i hp hi)⟩
theorem Same.drewN {P:Nat → Prop} {a w:World} (h:Same P a w) (n:Nat):Same P a (w.drewN n):=⟨h.size,h.block⟩
theorem Same.alloc {P:Nat → Prop} {a w:World} (h:Same P a w) (o:Obj):Same P a (w.alloc o):=h.trans ⟨by simp,fun b _ hb => Below.heap_alloc _ _ _ hb⟩
theorem Same.setCell {P:Nat → Prop} {a w:World} {b o:Nat} (hp:¬ P b) (h:Same P a w) (u:Value):Same P a (w.setCell ⟨b,o,none⟩ u) :=
 h.trans ⟨by simp [World.setCell],fun k hb _ => Below.heap_setCell _ _ _ _ (fun e => hp (by rw [show k = b from e] at hb;exact hb))⟩
theorem Same.upon {P:Nat → Prop} {r:Nat} {a b c:World} (hr:¬ P r) (k:Upon r b c) (h:Same P a b):Same P a c :=
 h.trans ⟨k.size,fun i hp hi => k.block i hi (fun e => hr (e ▸ hp))⟩
theorem Same.of_below {P:Nat → Prop} {a b c:World} (k:Below b.heap.size b c) (h:Same P a b):Same P a c :=
 h.trans ⟨k.size,fun i hp hi => k.block i hi⟩
theorem OkB.lt {w:World} {P:Nat → Prop} {b:Nat} (h:OkB w P b):b < w.heap.size:=by
 obtain ⟨_,cs,h⟩:=h;exact lt_of_block h
theorem OkB.keep {w w':World} {P:Nat → Prop} {b:Nat} (h:OkB w P b) (hu:Same P w w'):OkB w' P b:=by
 have hl:=h.lt
 obtain ⟨h1,cs,h⟩:=h;exact ⟨h1,cs,by rw [hu.block b h1 hl];exact h⟩
theorem Cells.keep {w w':World} {P:Nat → Prop} (hu:Same P w w'):∀ (l:PL) (b o:Nat),OkB w P b → Cells w P b l o → Cells w' P b l o:=by
 intro l
 induction l with
 | nil => intro b o _ _;trivial
 | cons k nm n d args a tl ih1 ih2 =>
  intro b o hb h
  have hl:=hb.lt
  have hc:∀ o,w'.cell? ⟨b,o,none⟩ = w.cell? ⟨b,o,none⟩:=fun o => World.cell?_of_block (w:=w) (a:=⟨b,o,none⟩) (hu.block b hb.1 hl)
  obtain ⟨h0,h1,h2,h3,h5,⟨ad,cap,h4,hcap,hd⟩,ht⟩:=h
  refine ⟨(hc _).trans h0,(hc _).trans h1,(hc _).trans h2,(hc _).trans h3,(hc _).trans h5,⟨ad,cap,(hc _).trans h4,hcap,?_⟩,ih2 b _ hb ht⟩
  rcases hd with hd | ⟨b',o',e,hb',hd⟩
  ·exact .inl hd
  ·exact .inr ⟨b',o',e,hb'.keep hu,ih1 b' o' hb' hd⟩
theorem Cells.mono {w:World} {P Q:Nat → Prop} (hPQ:∀ b,P b → b < w.heap.size → Q b):∀ (l:PL) (b o:Nat),Cells w P b l o → Cells w Q b l o:=by
 intro l
 induction l with
 | nil => intro b o _;trivial
 | cons k nm n d args a tl ih1 ih2 =>
  intro b o h
  obtain ⟨h0,h1,h2,h3,h5,⟨ad,cap,h4,hcap,hd⟩,ht⟩:=h
  refine ⟨h0,h1,h2,h3,h5,⟨ad,cap,h4,hcap,?_⟩,ih2 b _ ht⟩
  rcases hd with hd | ⟨b',o',e,hb',hd⟩
  ·exact .inl hd
  ·exact .inr ⟨b',o',e,⟨hPQ b' hb'.1 hb'.lt,hb'.2⟩,ih1 b' o' hd⟩
theorem SlA.keep {w w':World} {P:Nat → Prop} {args:PL} {ad:Option Addr} (h:SlA w P args ad) (hu:Same P w w'):SlA w' P args ad:=by
 rcases h with h | ⟨b,o,e,hb,h⟩
 ·exact .inl h
 ·exact .inr ⟨b,o,e,hb.keep hu,h.keep hu _ _ _ hb⟩
theorem SlA.mono {w:World} {P Q:Nat → Prop} {args:PL} {ad:Option Addr} (h:SlA w P args ad) (hPQ:∀ b,P b → b < w.heap.size → Q b):SlA w Q args ad:=by
 rcases h with h | ⟨b,o,e,hb,h⟩
 ·exact .inl h
 ·exact .inr ⟨b,o,e,⟨hPQ b hb.1 hb.lt,hb.2⟩,h.mono hPQ⟩
theorem heap_new (w:World) (o:Obj):(w.alloc o).heap[w.heap.size]? = some o:=by
 show (w.heap.push o)[w.heap.size]? = _
 simp
theorem SlA.one {w:World} {P:Nat → Prop} {k n d a:Int} {nm:ByteArray} {args:PL} {ad:Option Addr} {cap:Nat} (h:SlA w P args ad) (hcap:args.len ≤ cap) (B:Nat) (hB:B = w.heap.size) (hr:P B) :
  SlA (w.alloc (Obj.cells #[.int .i64 k,.string nm,.int .i64 n,.int .i64 d,.slice ad args.len cap,.int .i64 a] 95)) P (PE.one ⟨k,nm,n,d,args,a⟩) (some ⟨B,0,none⟩):=by
 subst hB
 refine .inr ⟨_,_,rfl,⟨hr,_,heap_new w _⟩,?_⟩
 refine ⟨by simp [go_sem],by simp [go_sem],by simp [go_sem],by simp [go_sem],by simp [go_sem],⟨ad,cap,by simp [go_sem],hcap,?_⟩,trivial⟩
 exact h.keep ((Same.refl P w).alloc _)
def PL.sz:PL → Nat
 | .nil => 0
 | .cons _ _ _ _ args _ tl => args.sz + 1 + tl.sz
def PE.sz (e:PE):Nat:=e.args.sz + 1
theorem cells6' {w:World} {b:Nat} {v0 v1 v2 v3 v4 v5:Value} {t:TypeId} (h:w.heap[b]? = some (.cells #[v0,v1,v2,v3,v4,v5] t (0,0))) :
  (w.cell? ⟨b,0,none⟩ = some v0 ∧ w.cell? ⟨b,1,none⟩ = some v1 ∧ w.cell? ⟨b,2,none⟩ = some v2 ∧ w.cell? ⟨b,3,none⟩ = some v3 ∧ w.cell? ⟨b,4,none⟩ = some v4 ∧ w.cell? ⟨b,5,none⟩ = some v5) ∧ ∀ o,w.frozen? ⟨b,o,none⟩ = false:=by
 refine ⟨⟨?_,?_,?_,?_,?_,?_⟩,?_⟩
 all_goals first | (intro o;simp [World.frozen?,h]) | simp [World.cell?,h]
theorem tA {α : Type} {l : List α} {i : Nat} : l.toArray[i]? = l[i]? := List.getElem?_toArray ..
theorem tB {α : Type} {a : α} {l : List α} {i : Nat} : (a :: l)[i + 1]? = l[i]? := rfl
theorem tC {α : Type} {a : α} {l : List α} : (a :: l)[0]? = some a := rfl
theorem tk {P : Program} {ops : Array Oper} {Q : Exit → Act → World → Prop} {md : Region.Mode} {S : World → Prop} {fuel : Nat} {listed : Array Bool} {a : Act} {w : World} (i : Nat) {oi : Oper} {v : Value} (hi : ops[i]? = some oi) (hw : Region.wanted oi (yielded ops a.tmps) = true) (hy : ∀ w, S w → (execOp a.eval oi).run P w = .ok (.value v) w) (hS : S w) (h : wpAnyH P md ops Q S fuel (listed.setIfInBounds i true) (a.put oi.dst v) w) (hQ : ∀ c a w, Q (.panic c) (a.put oi.dst v) w → Q (.panic c) a w) (hs : Region.noSelect ops = true := by kernel_rfl) (hf : Region.free md ops listed i = true := by kernel_rfl) (hr : (Region.ready md ops listed).contains i = true := by kernel_rfl) : wpAnyH P md ops Q S (fuel + 1) listed a w := wpAnyH_take hi hs hf hr hQ (Or.inl ⟨hw, hy⟩) hS h
theorem sA {α : Type} {l : List α} {i : Nat} {a : α} : l.toArray.setIfInBounds i a = (l.set i a).toArray := List.setIfInBounds_toArray _ _ _
theorem sB {α : Type} {x a : α} {l : List α} : (x :: l).set 0 a = a :: l := rfl
theorem sC {α : Type} {x a : α} {l : List α} {n : Nat} : (x :: l).set (n + 1) a = x :: l.set n a := rfl
theorem hid {p : Prop} (h : p) : Hid p := Lib.hid h
theorem bq {B : Nat} {a w : World} (h : Below B a w := by repeat (first | (with_reducible exact Below.refl _ _) | ((with_reducible refine below_setAt ?_ ?_ _); (rotate_left; focus (first | omega | (simp; done) | (simp; omega)))) | ((with_reducible refine Below.alloc ?_ ?_ _); (rotate_left; focus (first | omega | (simp; done) | (simp; omega)))) | (with_reducible refine below_drewN ?_ _) | (with_reducible refine Below.drew ?_) | ((with_reducible refine Below.trans ?_ (Below.mono hb1 ?_)); (rotate_left; focus (first | omega | (simp; done) | (simp; omega)))) | ((with_reducible refine Below.trans ?_ (Below.mono hb2 ?_)); (rotate_left; focus (first | omega | (simp; done) | (simp; omega)))) | ((with_reducible refine Below.trans ?_ (Below.mono HBEL.out ?_)); (rotate_left; focus (first | omega | (simp; done) | (simp; omega)))) | ((with_reducible refine Below.trans ?_ (Below.mono hb3 ?_)); (rotate_left; focus (first | omega | (simp; done) | (simp; omega)))) | ((with_reducible refine Below.trans ?_ (Below.mono hbel ?_)); (rotate_left; focus (first | omega | (simp; done) | (simp; omega)))) | ((with_reducible refine Below.trans ?_ (Below.mono HB3.out ?_)); (rotate_left; focus (first | omega | (simp; done) | (simp; omega)))) | ((with_reducible refine Below.trans ?_ (Below.mono HB2.out ?_)); (rotate_left; focus (first | omega | (simp; done) | (simp; omega)))) | ((with_reducible refine Below.trans ?_ (Below.mono hb4 ?_)); (rotate_left; focus (first | omega | (simp; done) | (simp; omega)))) | ((with_reducible refine Below.trans ?_ (Below.mono HB6.out ?_)); (rotate_left; focus (first | omega | (simp; done) | (simp; omega)))) | ((with_reducible refine Below.trans ?_ (Below.mono HB.out ?_)); (rotate_left; focus (first | omega | (simp; done) | (simp; omega)))) | ((with_reducible refine Below.trans ?_ (Below.mono HWW.out ?_)); (rotate_left; focus (first | omega | (simp; done) | (simp; omega)))) | ((with_reducible refine Below.trans ?_ (Below.mono hb6 ?_)); (rotate_left; focus (first | omega | (simp; done) | (simp; omega)))) | ((with_reducible refine Below.trans ?_ (Below.mono HBW.out ?_)); (rotate_left; focus (first | omega | (simp; done) | (simp; omega)))) | ((with_reducible refine Below.trans ?_ (Below.mono HB1.out ?_)); (rotate_left; focus (first | omega | (simp; done) | (simp; omega)))) | ((with_reducible refine Below.trans ?_ (Below.mono HB4.out ?_)); (rotate_left; focus (first | omega | (simp; done) | (simp; omega)))) | ((with_reducible refine Below.trans ?_ (Below.mono hbA ?_)); (rotate_left; focus (first | omega | (simp; done) | (simp; omega)))) | ((with_reducible refine Below.trans ?_ (Below.mono HW2.out ?_)); (rotate_left; focus (first | omega | (simp; done) | (simp; omega)))) | ((with_reducible refine Below.trans ?_ (Below.mono hb5 ?_)); (rotate_left; focus (first | omega | (simp; done) | (simp; omega)))) | ((with_reducible refine Below.trans ?_ (Below.mono hb56 ?_)); (rotate_left; focus (first | omega | (simp; done) | (simp; omega)))) | ((with_reducible refine Below.trans ?_ (Below.mono hbx5 ?_)); (rotate_left; focus (first | omega | (simp; done) | (simp; omega)))) | ((with_reducible refine Below.trans ?_ (Below.mono HW4.out ?_)); (rotate_left; focus (first | omega | (simp; done) | (simp; omega)))) | ((with_reducible refine Below.trans ?_ (Below.mono hbz ?_)); (rotate_left; focus (first | omega | (simp; done) | (simp; omega)))) | ((with_reducible refine Below.trans ?_ (Below.mono HB5.out ?_)); (rotate_left; focus (first | omega | (simp; done) | (simp; omega)))) | ((with_reducible refine Below.trans ?_ (Below.mono HB5k.out ?_)); (rotate_left; focus (first | omega | (simp; done) | (simp; omega)))) | ((with_reducible refine Below.trans ?_ (Below.mono hb2k ?_)); (rotate_left; focus (first | omega | (simp; done) | (simp; omega)))) | ((with_reducible refine Below.trans ?_ (Below.mono hb3k ?_)); (rotate_left; focus (first | omega | (simp; done) | (simp; omega)))) | ((with_reducible refine Below.trans ?_ (Below.mono HL6.out ?_)); (rotate_left; focus (first | omega | (simp; done) | (simp; omega)))) | ((with_reducible refine Below.trans ?_ (Below.mono HA3.out ?_)); (rotate_left; focus (first | omega | (simp; done) | (simp; omega)))) | ((with_reducible refine Below.trans ?_ (Below.mono HL5.out ?_)); (rotate_left; focus (first | omega | (simp; done) | (simp; omega)))) | ((with_reducible refine Below.trans ?_ (Below.mono HL7.out ?_)); (rotate_left; focus (first | omega | (simp; done) | (simp; omega)))) | ((with_reducible refine Below.trans ?_ (Below.mono hgd ?_)); (rotate_left; focus (first | omega | (simp; done) | (simp; omega)))))) : Below B a w := h
theorem oq {p : Prop} (h : p := by first | omega | (simp; done) | (simp; omega)) : p := h
end Go.Proofs.YtpjficjlfibibaaGreatDoor.syn
namespace Go.Proofs.YtpjficjlfibibaaGreatDoor.lex
open Go.RowKit
def smallB (c:UInt8):Bool:=decide (97 ≤ (c.toNat:Int)) && decide ((c.toNat:Int) ≤ 122)
def digitB (c:UInt8):Bool:=decide (48 ≤ (c.toNat:Int)) && decide ((c.toNat:Int) ≤ 57)
theorem words_any (w:World):Calls Tryz.prog 134 #[] w fun e w' => e = .returned (.slice (some ⟨w.heap.size,0,none⟩) 10 10) ∧
  w' = w.alloc (Obj.cells #[.string ⟨#[110,111,100,101]⟩,.string ⟨#[98,117,100,103,101,116]⟩,.string ⟨#[105,110,112,117,116]⟩,.string ⟨#[112,101,114,105,111,100]⟩,.string ⟨#[112,104,97,115,101]⟩,.string ⟨#[102,108,111,119]⟩,.string ⟨#[102,98,121]⟩,.string ⟨#[116,97,105,108]⟩,.string ⟨#[111,117,116,112,117,116]⟩,.string ⟨#[100,101,97,100,108,105,110,101]⟩] 9):=by
 go_enter Tryz.func134,Tryz.ntmps134
 go_wp2
 go_ret
 exact ⟨rfl,rfl⟩
end Go.Proofs.YtpjficjlfibibaaGreatDoor.lex
