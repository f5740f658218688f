/- Parts of the proof. -/
import Derived.BigQuiet
import Derived.Deep.RegionHeld
import Derived.Handy
import Derived.Lib.Hide
import Derived.Lib.SlicesS
import Derived.Lib.Strings
import Derived.OneCell
import Derived.Test.YtdgifkjaflfdeaaGreatDoorChecked
import Derived.WalkLawsBesides
import Derived.WalkSpells
set_option linter.all false
namespace Go.RowKit
abbrev _root_.Go.OA:=Option Go.Addr
theorem Hid.o {p : Prop} (h : Hid p) : p := h
theorem _root_.Go.Shut.o {p : Prop} (h : Go.Shut p) : p := h
end Go.RowKit
namespace Go.Proofs.YtdgifkjaflfdeaaGreatDoor.syn
open Tryz
open Go.RowKit

variable {r b B o i fuel:Nat}{w W w1 c:World}{P:Nat->Prop}{Q:Exit -> Act -> World -> Prop}{v:Value}{α:Type}{p:Prop}{ops:Array Oper}{md:Region.Mode}{S:World -> Prop}{listed l':Array Bool}{oi:Oper}{a':Act}
structure Upon (r:Nat) (w w':World):Prop where
 os:w'.os=w.os
 tape:w'.tape=w.tape
 output:w'.output=w.output
 size:w.1.size<=w'.1.size
 block:∀k,k<w.1.size->k≠r->w'.1[k]?=w.1[k]?
theorem Upon.refl(r:Nat)(w:World):Upon r w w:=⟨rfl,rfl,rfl,Nat.le_refl _,fun _ _ _=>rfl⟩
theorem Upon.trans{r:Nat}{a b c:World}(h:Upon r a b)(k:Upon r b c):Upon r a c :=
 ⟨k.os.trans h.os,k.tape.trans h.tape,k.output.trans h.output,Nat.le_trans h.size k.size,fun i hi hr=>(k.block i (Nat.lt_of_lt_of_le hi h.size) hr).trans (h.block i hi hr)⟩
theorem Upon.of_below{a b:World}(h:Below a.1.size a b):Upon r a b:=⟨h.os,h.tape,h.output,h.size,fun k hk _=>h.block k hk⟩
theorem Upon.below{a b:World}(h:Upon r a b)(h1:B<=a.1.size)(h2:B<=r):Below B a b :=
 ⟨h.os,h.tape,h.output,h.size,fun k hk=>h.block k (by omega) (by omega)⟩
theorem Upon.drew{a w:World}(h:Upon r a w):Upon r a w.drew:=⟨h.os,h.tape,h.output,h.size,h.block⟩
theorem Upon.drewN{a w:World}(h:Upon r a w)(n:Nat):Upon r a (w.drewN n):=⟨h.os,h.tape,h.output,h.size,h.block⟩
theorem Upon.alloc{a w:World}(h:Upon r a w)(o:Obj):Upon r a (w.alloc o) :=
 h.trans ⟨rfl,rfl,rfl,by simp,fun k hk _=>Below.heap_alloc _ _ _ hk⟩
theorem Upon.setCell{r:Nat}{a w:World}(h:Upon r a w){p:Addr}(hp:p.block=r\/a.1.size<=p.block)(u:Value):Upon r a (w.setCell p u) :=
 ⟨h.os,h.tape,h.output,by simpa [World.setCell] using h.size,fun k hk hr=>by rw[Below.heap_setCell _ _ _ _ (by omega)];exact h.block k hk hr⟩
theorem Upon.setAt{a w:World}(h:Upon r a w)(hp:b=r\/a.1.size<=b)(u:Value):Upon r a (w.setCell ⟨b,o,none⟩ u):=h.setCell (p:=⟨b,o,none⟩) hp u
theorem YZ{a w:World}(h:Below B a w)(hp:B<=b)(u:Value):Below B a (w.setCell ⟨b,o,none⟩ u):=h.setCell (p:=⟨b,o,none⟩) hp u
theorem Upon.cell{r:Nat}{w w':World}(h:Upon r w w'){p:Addr}(hp:p.block<w.1.size)(hr:p.block≠r):w'.cell? p=w.cell? p:=World.cell?_of_block (w:=w) (h.block p.block hp hr)
theorem Upon.frozen{r:Nat}{w w':World}(h:Upon r w w'){p:Addr}(hp:p.block<w.1.size)(hr:p.block≠r):w'.frozen? p=w.frozen? p:=World.frozen?_of_block (w:=w) (h.block p.block hp hr)
theorem YE(hb:Below W.1.size W w1):(∀b o,b<W.1.size->w1.cell? ⟨b,o,none⟩=W.cell? ⟨b,o,none⟩)/\(∀b o,b<W.1.size->w1.frozen? ⟨b,o,none⟩=W.frozen? ⟨b,o,none⟩) :=
 ⟨fun b o h=>hb.cell (p:=⟨b,o,none⟩) h,fun b o h=>hb.frozen (p:=⟨b,o,none⟩) h⟩
theorem Zhj(hb:Upon r W w1):(∀b o,b<W.1.size->b≠r->w1.cell? ⟨b,o,none⟩=W.cell? ⟨b,o,none⟩)/\(∀b o,b<W.1.size->b≠r->w1.frozen? ⟨b,o,none⟩=W.frozen? ⟨b,o,none⟩) :=
 ⟨fun b o h hr=>hb.cell (p:=⟨b,o,none⟩) h hr,fun b o h hr=>hb.frozen (p:=⟨b,o,none⟩) h hr⟩
theorem Yz{B k:Nat}{a w:World}(h:Below B a w)(hk:k<a.1.size):k<w.1.size:=Nat.lt_of_lt_of_le hk h.size
theorem below_drewN{a w:World}(h:Below B a w)(n:Nat):Below B a (w.drewN n):=⟨h.os,h.tape,h.output,h.size,h.block⟩
def UA:List ByteArray:=[⟨#[110,111,100,101]⟩,⟨#[98,117,100,103,101,116]⟩,⟨#[105,110,112,117,116]⟩,⟨#[112,101,114,105,111,100]⟩,⟨#[112,104,97,115,101]⟩,⟨#[102,108,111,119]⟩,⟨#[102,98,121]⟩,⟨#[116,97,105,108]⟩,⟨#[111,117,116,112,117,116]⟩,⟨#[100,101,97,100,108,105,110,101]⟩]
inductive PL where
 | nil:PL
 | cons (k:Int) (nm:ByteArray) (n d:Int) (args:PL) (a:Int) (tl:PL):PL
def PL.len:PL->Nat
 | .nil=>0
 | .cons _ _ _ _ _ _ tl=>tl.len+1
structure PE where
 k:Int
 nm:ByteArray
 n:Int
 d:Int
 args:PL
 a:Int
def OkB(w:World)(P:Nat->Prop)(b:Nat):Prop:=P b/\∃cs,w.1[b]?=some (.cells cs 111 (0,0))
def JU(w:World)(P:Nat->Prop)(b:Nat):PL->Nat->Prop
 | .nil,_=>True
 | .cons k nm n d args a tl,o=>w.cell? ⟨b,o,none⟩=some (.int .i64 k)/\w.cell? ⟨b,o+1,none⟩=some (.string nm)/\w.cell? ⟨b,o+2,none⟩=some (.int .i64 n) /\
   w.cell? ⟨b,o+3,none⟩=some (.int .i64 d)/\w.cell? ⟨b,o+5,none⟩=some (.int .i64 a) /\
   (∃ad cap,w.cell? ⟨b,o+4,none⟩=some (.slice ad args.len cap)/\args.len<=cap/\(args=.nil\/∃b' o',ad=some ⟨b',o',none⟩/\OkB w P b'/\JU w P b' args o')) /\
   JU w P b tl (o+6)
def SlA(w:World)(P:Nat->Prop)(args:PL)(ad:OA):Prop:=args=.nil\/∃b o,ad=some ⟨b,o,none⟩/\OkB w P b/\JU w P b args o
structure Same (P:Nat->Prop) (w w':World):Prop where
 size:w.1.size<=w'.1.size
 block:∀b,P b->b<w.1.size->w'.1[b]?=w.1[b]?
theorem Same.refl(P:Nat->Prop)(w:World):Same P w w:=⟨Nat.le_refl _,fun _ _ _=>rfl⟩
theorem Same.trans{P:Nat->Prop}{a b c:World}(h:Same P a b)(k:Same P b c):Same P a c :=
 ⟨Nat.le_trans h.size k.size,fun i hp hi=>(k.block i hp (Nat.lt_of_lt_of_le hi h.size)).trans (h.block i hp hi)⟩
theorem Same.setCell{P:Nat->Prop}{a w:World}{b o:Nat}(hp:¬P b)(h:Same P a w)(u:Value):Same P a (w.setCell ⟨b,o,none⟩ u) :=
 h.trans ⟨by simp[World.setCell],fun k hb _=>Below.heap_setCell _ _ _ _ (fun e=>hp (by rw[show k=b from e] at hb;exact hb))⟩
theorem Same.upon{a b c:World}(hr:¬P r)(k:Upon r b c)(h:Same P a b):Same P a c :=
 h.trans ⟨k.size,fun i hp hi=>k.block i hi (fun e=>hr (e▸hp))⟩
theorem Same.of_below{a b c:World}(k:Below b.1.size b c)(h:Same P a b):Same P a c :=
 h.trans ⟨k.size,fun i hp hi=>k.block i hi⟩
theorem OkB.lt(h:OkB w P b):b<w.1.size:=by
 obtain⟨_,f,h⟩:=h;exact lt_of_block h
theorem OkB.keep{w w':World}(h:OkB w P b)(m:Same P w w'):OkB w' P b:=by
 have j:=h.lt;obtain⟨f,g,h⟩:=h;exact⟨f,g,by rw[m.block b f j];exact h⟩
theorem JU.keep{w w':World}{P:Nat->Prop}(j:Same P w w'):∀(l:PL)(b o:Nat),OkB w P b->JU w P b l o->JU w' P b l o:=by
 intro l
 induction l with
 | nil=>intro b o _ _;trivial
 | cons k nm n d args a tl ih1 ih2 =>
  intro b o hb h;have C:=hb.lt;have f:∀o,w'.cell? ⟨b,o,none⟩=w.cell? ⟨b,o,none⟩:=fun o=>World.cell?_of_block (w:=w) (a:=⟨b,o,none⟩) (j.block b hb.1 C)
  obtain⟨q,v,x,y,A,⟨m,cap,z,g,hd⟩,ht⟩:=h;refine⟨(f _).trans q,(f _).trans v,(f _).trans x,(f _).trans y,(f _).trans A,⟨m,cap,(f _).trans z,g,?_⟩,ih2 b _ hb ht⟩;rcases hd with hd|⟨b',o',e,hb',hd⟩
  .exact .inl hd
  exact .inr ⟨b',o',e,hb'.keep j,ih1 b' o' hb' hd⟩
theorem JU.mono{P Q:Nat->Prop}(g:∀b,P b->b<w.1.size->Q b):∀(l:PL)(b o:Nat),JU w P b l o->JU w Q b l o:=by
 intro l
 induction l with
 | nil=>intro b o _;trivial
 | cons k nm n d args a tl ih1 ih2 =>
  intro b o h;obtain⟨m,q,v,x,z,⟨j,cap,y,f,hd⟩,ht⟩:=h;refine⟨m,q,v,x,z,⟨j,cap,y,f,?_⟩,ih2 b _ ht⟩;rcases hd with hd|⟨b',o',e,hb',hd⟩
  .exact .inl hd
  exact .inr ⟨b',o',e,⟨g b' hb'.1 hb'.lt,hb'.2⟩,ih1 b' o' hd⟩
theorem SlA.keep{w w':World}{P:Nat->Prop}{args:PL}{f:OA}(h:SlA w P args f)(g:Same P w w'):SlA w' P args f:=by
 rcases h with h|⟨b,o,e,hb,h⟩
 .exact .inl h
 exact .inr ⟨b,o,e,hb.keep g,h.keep g _ _ _ hb⟩
theorem SlA.mono{w:World}{P Q:Nat->Prop}{args:PL}{g:OA}(h:SlA w P args g)(f:∀b,P b->b<w.1.size->Q b):SlA w Q args g:=by
 rcases h with h|⟨b,o,e,hb,h⟩
 .exact .inl h
 exact .inr ⟨b,o,e,⟨f b hb.1 hb.lt,hb.2⟩,h.mono f⟩
theorem Yx(w:World)(o:Obj):(w.alloc o).1[w.1.size]?=some o:=by
 show(w.1.push o)[w.1.size]?=_;simp
def PL.sz:PL->Nat
 | .nil=>0
 | .cons _ _ _ _ args _ tl=>args.sz+1+tl.sz
def PE.sz(e:PE):Nat:=e.args.sz+1
theorem Xl{f g j m q v:Value}{t:TypeId}(h:w.1[b]?=some (.cells #[f,g,j,m,q,v] t (0,0))) :
  (w.cell? ⟨b,0,none⟩=some f/\w.cell? ⟨b,1,none⟩=some g/\w.cell? ⟨b,2,none⟩=some j/\w.cell? ⟨b,3,none⟩=some m/\w.cell? ⟨b,4,none⟩=some q/\w.cell? ⟨b,5,none⟩=some v)/\∀o,w.frozen? ⟨b,o,none⟩=false:=by
 refine⟨⟨?_,?_,?_,?_,?_,?_⟩,?_⟩
 all_goals first|(intro o;simp[World.frozen?,h])|simp[World.cell?,h]
theorem tA{l : List α}  : l.toArray[i]? = l[i]? := List.getElem?_toArray ..
theorem tB{a : α} {l : List α}  : (a :: l)[i + 1]? = l[i]? := rfl
theorem tC{a : α} {l : List α} : (a :: l)[0]? = some a := rfl
theorem sA{l : List α}  {a : α} : l.toArray.setIfInBounds i a = (l.set i a).toArray := List.setIfInBounds_toArray _ _ _
theorem sB{x a : α} {l : List α} : (x :: l).set 0 a = a :: l := rfl
theorem sC{x a : α} {l : List α} {n : Nat} : (x :: l).set (n + 1) a = x :: l.set n a := rfl
theorem hid {p : Prop} (h : p) : Hid p := Lib.hid h
theorem ez {α : Sort _} (x : α) : ∃ y, x = y := ⟨_, rfl⟩
theorem ey {α : Sort _} (x : α) : ∃ y, y = x := ⟨_, rfl⟩
theorem kq(h : p := by kernel_rfl) : p := h
theorem sq(h : p := by repeat (first | with_reducible exact KA.o | with_reducible exact KC.o | with_reducible refine SP.drew ?_ | with_reducible refine SP.alloc ?_ _ | (with_reducible refine SP.set ?_ hpg _) | with_reducible refine X2.drew ?_ | with_reducible refine X2.alloc ?_ _ | (with_reducible refine X2.set ?_ hbn _) | (with_reducible refine X2.set ?_ hbgb _) | with_reducible refine SG.drew ?_ | with_reducible refine SG.alloc ?_ _ | (with_reducible refine SG.set1 ?_ _) | (with_reducible refine SG.set2 ?_ _))) : p := h
theorem tk{P : Program}       {a : Act}  (i : Nat)     (hS : S w) (h : wpAnyH P md ops Q S fuel l' a' w) (hi : ops[i]? = some oi := by simp only [tA,tB,tC];rfl) (hy : ∀ w, S w -> (execOp a.eval oi).run P w = .ok (.value v) w := by intro w hSw;(try dsimp only at hSw);(repeat (have s := And.left hSw;replace hSw := And.right hSw));go_simp;try with_reducible rfl) (hw : Region.wanted oi (yielded ops a.tmps) = true := by rfl) (hQ : ∀ c a w, Q (.panic c) (a.put oi.dst v) w -> Q (.panic c) a w := by exact fun _ _ _ h => h) (ha : a.put oi.dst v = a' := by first | (simp only [Act.put,tA,sA,sB,sC];rfl) | rfl) (hl : listed.setIfInBounds i true = l' := by first | (simp only [sA,sB,sC];rfl) | rfl) (hs : Region.noSelect ops = true := by kernel_rfl) (hf : Region.free md ops listed i = true := by kernel_rfl) (hr : (Region.ready md ops listed).contains i = true := by kernel_rfl) : wpAnyH P md ops Q S (fuel + 1) listed a w := by
  subst ha hl; exact wpAnyH_take hi hs hf hr hQ (Or.inl ⟨hw, hy⟩) hS h
theorem tu{P : Program}       {a : Act}  (i : Nat)    (hS : S w) (h : wpAnyH P md ops Q S fuel l' a' w) (hi : ops[i]? = some oi := by simp only [tA,tB,tC];rfl) (hw : Region.wanted oi (yielded ops a.tmps) = false := by rfl) (hQ : ∀ c a w, Q (.panic c) (a.put oi.dst undef) w -> Q (.panic c) a w := by exact fun _ _ _ h => h) (ha : a.put oi.dst undef = a' := by first | (simp only [Act.put,tA,sA,sB,sC];rfl) | rfl) (hl : listed.setIfInBounds i true = l' := by first | (simp only [sA,sB,sC];rfl) | rfl) (hs : Region.noSelect ops = true := by kernel_rfl) (hf : Region.free md ops listed i = true := by kernel_rfl) (hr : (Region.ready md ops listed).contains i = true := by kernel_rfl) : wpAnyH P md ops Q S (fuel + 1) listed a w := by
  subst ha hl; exact wpAnyH_take hi hs hf hr hQ (Or.inr ⟨hw, rfl⟩) hS h
theorem shO {p : Prop} (h : p) : Shut p := h
theorem ry{P : Program}       {a : Act}  (i : Nat)   (h : ∀ K : Act -> World -> Prop, Shut (∀ (a : Act) (w : World) {a' : Act}, (S w -> wpAnyH P md ops Q S fuel l' a' w) -> (hS : S w := by first | with_reducible exact KS0.o | with_reducible exact KS1.o | with_reducible exact KS2.o | with_reducible exact KS3.o | with_reducible exact KS0.o _ | with_reducible exact KS1.o _ | with_reducible exact KS2.o _ | with_reducible exact KS2.o _ _ | with_reducible exact KS3.o _ _ _ | exact KS0.o | exact KS1.o | exact KS1.o _ | exact KS2.o _ | exact KS2.o | exact KS3.o | with_reducible exact KS4.o | exact KS4.o _ | with_reducible exact True.intro) -> (ha : a = a' := by first | (simp only [Act.put,tA,sA,sB,sC];rfl) | rfl) -> K a w) -> if Region.wanted oi (yielded ops a.tmps) = true then Oper.wp P oi a w K Q else K (a.put oi.dst undef) w) (hi : ops[i]? = some oi := by simp only [tA,tB,tC];rfl) (hl : listed.setIfInBounds i true = l' := by first | (simp only [sA,sB,sC];rfl) | rfl) (hr : Region.ready md ops listed = [i] := by kernel_rfl) : wpAnyH P md ops Q S (fuel + 1) listed a w := by
  subst hl; exact wpAnyH_ready hr (by simp) (AllReadyH.cons hi (fun K hK => h K (@shO _ (by intro a w a' hW hS ha; have e : a = a' := ha; subst e; exact Shut.o hK a w hS hW))) AllReadyH.nil)
theorem rz{P : Program}       {a : Act}  (i j : Nat) {oi oj : Oper} {l' m' : Array Bool} (h : ∀ K : Act -> World -> Prop, Shut (∀ (a : Act) (w : World) {a' : Act}, (S w -> wpAnyH P md ops Q S fuel l' a' w) -> (hS : S w := by first | with_reducible exact KS0.o | with_reducible exact KS1.o | with_reducible exact KS2.o | with_reducible exact KS3.o | with_reducible exact KS0.o _ | with_reducible exact KS1.o _ | with_reducible exact KS2.o _ | with_reducible exact KS2.o _ _ | with_reducible exact KS3.o _ _ _ | exact KS0.o | exact KS1.o | exact KS1.o _ | exact KS2.o _ | exact KS2.o | exact KS3.o | with_reducible exact KS4.o | exact KS4.o _ | with_reducible exact True.intro) -> (ha : a = a' := by first | (simp only [Act.put,tA,sA,sB,sC];rfl) | rfl) -> K a w) -> if Region.wanted oi (yielded ops a.tmps) = true then Oper.wp P oi a w K Q else K (a.put oi.dst undef) w) (h2 : ∀ K : Act -> World -> Prop, Shut (∀ (a : Act) (w : World) {a' : Act}, (S w -> wpAnyH P md ops Q S fuel m' a' w) -> (hS : S w := by first | with_reducible exact KS0.o | with_reducible exact KS1.o | with_reducible exact KS2.o | with_reducible exact KS3.o | with_reducible exact KS0.o _ | with_reducible exact KS1.o _ | with_reducible exact KS2.o _ | with_reducible exact KS2.o _ _ | with_reducible exact KS3.o _ _ _ | exact KS0.o | exact KS1.o | exact KS1.o _ | exact KS2.o _ | exact KS2.o | exact KS3.o | with_reducible exact KS4.o | exact KS4.o _ | with_reducible exact True.intro) -> (ha : a = a' := by first | (simp only [Act.put,tA,sA,sB,sC];rfl) | rfl) -> K a w) -> if Region.wanted oj (yielded ops a.tmps) = true then Oper.wp P oj a w K Q else K (a.put oj.dst undef) w) (hi : ops[i]? = some oi := by simp only [tA,tB,tC];rfl) (hj : ops[j]? = some oj := by simp only [tA,tB,tC];rfl) (hl : listed.setIfInBounds i true = l' := by first | (simp only [sA,sB,sC];rfl) | rfl) (hm : listed.setIfInBounds j true = m' := by first | (simp only [sA,sB,sC];rfl) | rfl) (hr : Region.ready md ops listed = [i, j] := by kernel_rfl) : wpAnyH P md ops Q S (fuel + 1) listed a w := by
  subst hl hm; exact wpAnyH_ready hr (by simp) (AllReadyH.cons hi (fun K hK => h K (@shO _ (by intro a w a' hW hS ha; have e : a = a' := ha; subst e; exact Shut.o hK a w hS hW))) (AllReadyH.cons hj (fun K hK => h2 K (@shO _ (by intro a w a' hW hS ha; have e : a = a' := ha; subst e; exact Shut.o hK a w hS hW))) AllReadyH.nil))
theorem Za:type_of% @Below.heap_alloc:=@Below.heap_alloc
theorem Zb:type_of% @lt_of_block:=@lt_of_block
theorem Zc:type_of% @Nat.le_refl:=@Nat.le_refl
theorem Zd:type_of% @Nat.lt_of_lt_of_le:=@Nat.lt_of_lt_of_le
theorem Ze:type_of% @List.getElem?_eq_getElem:=@List.getElem?_eq_getElem
theorem Zf:type_of% @List.getD_eq_getElem?_getD:=@List.getD_eq_getElem?_getD
theorem Zg:type_of% @Below.refl:=@Below.refl
theorem Zh:type_of% @And.intro:=@And.intro
theorem Zi:type_of% @List.getElem_mem:=@List.getElem_mem
theorem Zj:type_of% @heap_setCell_same:=@heap_setCell_same
theorem Zk:type_of% @Nat.zero_le:=@Nat.zero_le
theorem Zl:type_of% @bodyPost_ret:=@bodyPost_ret
theorem Zm:type_of% @Nat.le_trans:=@Nat.le_trans
theorem Zn:type_of% @World.cell?_of_block:=@World.cell?_of_block
theorem Zo:type_of% @List.length_map:=@List.length_map
theorem Zp:type_of% @List.length_cons:=@List.length_cons
theorem Zq:type_of% @Array.getElem?_eq_some_iff:=@Array.getElem?_eq_some_iff
theorem Zr:type_of% @Below.heap_setCell:=@Below.heap_setCell
theorem Zs:type_of% @IntKind.wrap_i64:=@IntKind.wrap_i64
theorem Zt:type_of% @List.getElem_cons_succ:=@List.getElem_cons_succ
theorem Zu:type_of% @callsIn_wide:=@callsIn_wide
theorem Zv:type_of% @World.size_alloc:=@World.size_alloc
theorem Zw:type_of% @List.take_succ_eq_append_getElem:=@List.take_succ_eq_append_getElem
theorem Zx:type_of% @List.length_nil:=@List.length_nil
theorem Zy:type_of% @List.length_append:=@List.length_append
theorem Zz:type_of% @wpAnyH_done:=@wpAnyH_done
theorem ZA:type_of% @heap_alloc_new:=@heap_alloc_new
theorem ZB:type_of% @List.getElem?_eq_some_iff:=@List.getElem?_eq_some_iff
theorem ZC:type_of% @Bool.and_eq_true:=@Bool.and_eq_true
theorem ZD:type_of% @List.cons_append:=@List.cons_append
theorem ZE:type_of% @Nat.zero_add:=@Nat.zero_add
theorem ZF:type_of% @Array.replicate_zero:=@Array.replicate_zero
theorem ZG:type_of% @Array.replicate_succ:=@Array.replicate_succ
theorem ZH:type_of% @World.cell?_setCell_far:=@World.cell?_setCell_far
theorem ZI:type_of% @AllReadyH.cons:=@AllReadyH.cons
theorem ZJ:type_of% @List.size_toArray:=@List.size_toArray
theorem ZK:type_of% @List.append_toArray:=@List.append_toArray
theorem ZL:type_of% @IntWalk.i64_in:=@IntWalk.i64_in
theorem ZM:type_of% @List.push_toArray:=@List.push_toArray
theorem ZN:type_of% @List.nil_append:=@List.nil_append
theorem ZO:type_of% @List.drop_eq_getElem_cons:=@List.drop_eq_getElem_cons
theorem ZP:type_of% @wp_region_held_drew:=@wp_region_held_drew
theorem ZQ:type_of% @Result.andThen_ok:=@Result.andThen_ok
theorem ZR:type_of% @Int.toNat_natCast:=@Int.toNat_natCast
theorem ZS:type_of% @List.mem_cons:=@List.mem_cons
theorem ZT:type_of% @List.take_length:=@List.take_length
theorem ZU:type_of% @Oper.semAt_some:=@Oper.semAt_some
theorem ZV:type_of% @List.map_append:=@List.map_append
theorem ZW:type_of% @wpAnyH_ready:=@wpAnyH_ready
theorem ZX:type_of% @Nat.lt_succ_self:=@Nat.lt_succ_self
theorem ZY:type_of% @Nat.le_add_right:=@Nat.le_add_right
theorem ZZ:type_of% @beq_eq_false_iff_ne:=@beq_eq_false_iff_ne
theorem Z0:type_of% @decide_eq_false:=@decide_eq_false
theorem Z1:type_of% @decide_eq_true:=@decide_eq_true
theorem Z2:type_of% @if_neg:=@if_neg
theorem Z3:type_of% @if_pos:=@if_pos
theorem Z4:type_of% @congrArg:=@congrArg
theorem Z5:type_of% @Prod.mk.injEq:=@Prod.mk.injEq
theorem Z6:type_of% @heap_alloc_old:=@heap_alloc_old
theorem Z7:type_of% @World.frozen?_of_block:=@World.frozen?_of_block
theorem Z8:type_of% @cell_of_row:=@cell_of_row
theorem Z9:type_of% @Nat.mul_one:=@Nat.mul_one
theorem Ya:type_of% @Option.getD_some:=@Option.getD_some
theorem Yb:type_of% @List.mem_of_getElem?:=@List.mem_of_getElem?
theorem Yc:type_of% @List.length_take:=@List.length_take
theorem Yd:type_of% @List.getElem?_eq_none:=@List.getElem?_eq_none
theorem Ye:type_of% @List.eq_nil_of_length_eq_zero:=@List.eq_nil_of_length_eq_zero
theorem Yf:type_of% @List.mem_map:=@List.mem_map
theorem Yg:type_of% @World.ownsRow_nil:=@World.ownsRow_nil
theorem Yh:type_of% @Exists.intro:=@Exists.intro
theorem Yi:type_of% @Classical.byContradiction:=@Classical.byContradiction
theorem Yj:type_of% @List.range_succ:=@List.range_succ
theorem Yk:type_of% @of_decide_eq_true:=@of_decide_eq_true
theorem Yl:type_of% @decide_eq_true_eq:=@decide_eq_true_eq
theorem Ym:type_of% @Nat.not_lt_zero:=@Nat.not_lt_zero
theorem Yn:type_of% @List.getElem_of_mem:=@List.getElem_of_mem
theorem Yo:type_of% @Array.getElem?_eq_getElem:=@Array.getElem?_eq_getElem
theorem Yp:type_of% @List.getElem?_take_of_lt:=@List.getElem?_take_of_lt
theorem Yq:type_of% @List.drop_length:=@List.drop_length
theorem bq{a w : World} (h : Below B a w := by repeat (first | (with_reducible exact Below.refl _ _) | ((with_reducible refine YZ ?_ ?_ _); (rotate_left; focus (first | omega | (simp; done) | (simp; omega)))) | ((with_reducible refine Below.alloc ?_ ?_ _); (rotate_left; focus (first | omega | (simp; done) | (simp; omega)))) | (with_reducible refine below_drewN ?_ _) | (with_reducible refine Below.drew ?_) | ((with_reducible refine Below.trans ?_ (Below.mono HB2.o ?_)); (rotate_left; focus (first | omega | (simp; done) | (simp; omega)))) | ((with_reducible refine Below.trans ?_ (Below.mono HB.o ?_)); (rotate_left; focus (first | omega | (simp; done) | (simp; omega)))) | ((with_reducible refine Below.trans ?_ (Below.mono hb2 ?_)); (rotate_left; focus (first | omega | (simp; done) | (simp; omega)))) | ((with_reducible refine Below.trans ?_ (Below.mono hb3 ?_)); (rotate_left; focus (first | omega | (simp; done) | (simp; omega)))) | ((with_reducible refine Below.trans ?_ (Below.mono HBEL.o ?_)); (rotate_left; focus (first | omega | (simp; done) | (simp; omega)))) | ((with_reducible refine Below.trans ?_ (Below.mono HB3.o ?_)); (rotate_left; focus (first | omega | (simp; done) | (simp; omega)))) | ((with_reducible refine Below.trans ?_ (Below.mono hb1 ?_)); (rotate_left; focus (first | omega | (simp; done) | (simp; omega)))) | ((with_reducible refine Below.trans ?_ (Below.mono hbel ?_)); (rotate_left; focus (first | omega | (simp; done) | (simp; omega)))) | ((with_reducible refine Below.trans ?_ (Below.mono hb4 ?_)); (rotate_left; focus (first | omega | (simp; done) | (simp; omega)))) | ((with_reducible refine Below.trans ?_ (Below.mono HB6.o ?_)); (rotate_left; focus (first | omega | (simp; done) | (simp; omega)))) | ((with_reducible refine Below.trans ?_ (Below.mono HWW.o ?_)); (rotate_left; focus (first | omega | (simp; done) | (simp; omega)))) | ((with_reducible refine Below.trans ?_ (Below.mono hb6 ?_)); (rotate_left; focus (first | omega | (simp; done) | (simp; omega)))) | ((with_reducible refine Below.trans ?_ (Below.mono HBW.o ?_)); (rotate_left; focus (first | omega | (simp; done) | (simp; omega)))) | ((with_reducible refine Below.trans ?_ (Below.mono HB1.o ?_)); (rotate_left; focus (first | omega | (simp; done) | (simp; omega)))) | ((with_reducible refine Below.trans ?_ (Below.mono hbA ?_)); (rotate_left; focus (first | omega | (simp; done) | (simp; omega)))) | ((with_reducible refine Below.trans ?_ (Below.mono HW2.o ?_)); (rotate_left; focus (first | omega | (simp; done) | (simp; omega)))) | ((with_reducible refine Below.trans ?_ (Below.mono hb5 ?_)); (rotate_left; focus (first | omega | (simp; done) | (simp; omega)))) | ((with_reducible refine Below.trans ?_ (Below.mono hb56 ?_)); (rotate_left; focus (first | omega | (simp; done) | (simp; omega)))) | ((with_reducible refine Below.trans ?_ (Below.mono hbx5 ?_)); (rotate_left; focus (first | omega | (simp; done) | (simp; omega)))) | ((with_reducible refine Below.trans ?_ (Below.mono HB7.o ?_)); (rotate_left; focus (first | omega | (simp; done) | (simp; omega)))) | ((with_reducible refine Below.trans ?_ (Below.mono HS7.o ?_)); (rotate_left; focus (first | omega | (simp; done) | (simp; omega)))) | ((with_reducible refine Below.trans ?_ (Below.mono HS6.o ?_)); (rotate_left; focus (first | omega | (simp; done) | (simp; omega)))) | ((with_reducible refine Below.trans ?_ (Below.mono HB4.o ?_)); (rotate_left; focus (first | omega | (simp; done) | (simp; omega)))) | ((with_reducible refine Below.trans ?_ (Below.mono HS8.o ?_)); (rotate_left; focus (first | omega | (simp; done) | (simp; omega)))) | ((with_reducible refine Below.trans ?_ (Below.mono HW4.o ?_)); (rotate_left; focus (first | omega | (simp; done) | (simp; omega)))) | ((with_reducible refine Below.trans ?_ (Below.mono hbz ?_)); (rotate_left; focus (first | omega | (simp; done) | (simp; omega)))) | ((with_reducible refine Below.trans ?_ (Below.mono HB5.o ?_)); (rotate_left; focus (first | omega | (simp; done) | (simp; omega)))) | ((with_reducible refine Below.trans ?_ (Below.mono HB5k.o ?_)); (rotate_left; focus (first | omega | (simp; done) | (simp; omega)))) | ((with_reducible refine Below.trans ?_ (Below.mono hb2k ?_)); (rotate_left; focus (first | omega | (simp; done) | (simp; omega)))) | ((with_reducible refine Below.trans ?_ (Below.mono hb3k ?_)); (rotate_left; focus (first | omega | (simp; done) | (simp; omega)))) | ((with_reducible refine Below.trans ?_ (Below.mono HL6.o ?_)); (rotate_left; focus (first | omega | (simp; done) | (simp; omega)))) | ((with_reducible refine Below.trans ?_ (Below.mono HA3.o ?_)); (rotate_left; focus (first | omega | (simp; done) | (simp; omega)))) | ((with_reducible refine Below.trans ?_ (Below.mono HL5.o ?_)); (rotate_left; focus (first | omega | (simp; done) | (simp; omega)))) | ((with_reducible refine Below.trans ?_ (Below.mono HL7.o ?_)); (rotate_left; focus (first | omega | (simp; done) | (simp; omega)))) | ((with_reducible refine Below.trans ?_ (Below.mono hgd ?_)); (rotate_left; focus (first | omega | (simp; done) | (simp; omega)))))) : Below B a w := h
theorem oq(h : p := by first | omega | (simp; done) | (simp; omega)) : p := h
end Go.Proofs.YtdgifkjaflfdeaaGreatDoor.syn
namespace Go.Proofs.YtdgifkjaflfdeaaGreatDoor.lex
open Tryz
open Go.RowKit
def xB(c:UInt8):Bool:=decide (97<=(c.toNat:Int))&&decide ((c.toNat:Int)<=122)
def yR(c:UInt8):Bool:=decide (48<=(c.toNat:Int))&&decide ((c.toNat:Int)<=57)
theorem Zbh(w:World):Calls prog 188 #[] w fun e w'=>e=.returned (.slice (some ⟨w.1.size,0,none⟩) 10 10) /\
  w'=w.alloc (Obj.cells #[.string ⟨#[110,111,100,101]⟩,.string ⟨#[98,117,100,103,101,116]⟩,.string ⟨#[105,110,112,117,116]⟩,.string ⟨#[112,101,114,105,111,100]⟩,.string ⟨#[112,104,97,115,101]⟩,.string ⟨#[102,108,111,119]⟩,.string ⟨#[102,98,121]⟩,.string ⟨#[116,97,105,108]⟩,.string ⟨#[111,117,116,112,117,116]⟩,.string ⟨#[100,101,97,100,108,105,110,101]⟩] 9):=by
 go_enter func188,ntmps188;go_wp2;go_ret;exact⟨rfl,rfl⟩
