/-
  Parts of the proof: Ref4a, Ref4b, Gath1.
-/
import Derived.Deep.AppendLies
import Derived.Laws.OwnMore
import Derived.Maps.AppendAt
import Derived.Test.YtgigilkpndhddaaGreatDoorQ10
import Derived.Test.YtgigilkpndhddaaGreatDoorQ11
namespace Go.Proofs.YtgigilkpndhddaaGreatDoor.syn
set_option linter.unusedVariables false
set_option linter.unusedSimpArgs false
set_option linter.unnecessarySimpa false
set_option maxRecDepth 100000
set_option maxHeartbeats 16000000
open Go.RowKit
theorem E6 {k:IntKind} {a b:Int} (h:a=b):Ending.returned (.int k a)=.returned (.int k b):=by rw[h]
def inB (n lo hi:Int):Bool:=decide (lo≤n)&&decide (n≤hi)
theorem Xs (n lo hi:Int) (w:World):Calls Tryz.prog 39 #[.int .i64 n,.int .i64 lo,.int .i64 hi] w fun e w'=>e=.returned (.bool (inB n lo hi))∧w=w':=by
 unfold inB
 by_cases h1:lo≤n
 ·by_cases h2:n≤hi
  ·have E:=hid (show(decide (lo≤n)&&decide (n≤hi))=true by simp;omega)
   go_enter Tryz.func39,Tryz.ntmps39
   go_wp2
   go_ret
   exact⟨Yv (by rw[E.out]),rfl⟩
  have E:=hid (show(decide (lo≤n)&&decide (n≤hi))=false by simp;omega)
  have h2':hi<n:=oq
  have h3:decide (n≤hi)=false:=by simpa using h2'
  clear h2
  go_enter Tryz.func39,Tryz.ntmps39
  go_wp2
  go_ret
  exact⟨Yv (by rw[E.out]),rfl⟩
 have E:=hid (show(decide (lo≤n)&&decide (n≤hi))=false by simp;omega)
 have h1':n<lo:=oq
 have h3:decide (lo≤n)=false:=by simpa using h1'
 clear h1
 go_enter Tryz.func39,Tryz.ntmps39
 go_wp2
 go_ret
 exact⟨Yv (by rw[E.out]),rfl⟩
def szL:PL→Int→Int→Int
 | .nil,n,_=>n
 | .cons _ _ _ _ args _ tl,n,most=>if n≤most then szL tl (n+szL args 1 (most-n)) most else n
theorem KM:∀(l:PL) (n most:Int),1≤n→n≤most+1→n≤szL l n most∧szL l n most≤most+1:=by
 intro l
 induction l with
 | nil=>intro n most h1 h2;exact⟨Int.le_refl _,h2⟩
 | cons k nm n' d args a tl ih1 ih2 =>
  intro n most h1 h2
  rw[szL]
  split
  ·rename_i h
   have h3:=ih1 1 (most-n) oq oq
   have h4:=ih2 (n+szL args 1 (most-n)) most oq oq
   omega
  omega
def ev (e:PE) (ad:Option Addr) (cap:Nat):Value:=.agg #[.int .i64 e.k,.string e.nm,.int .i64 e.n,.int .i64 e.d,.slice ad e.args.len cap,.int .i64 e.a]
def Ub (e:PE):Prop:=∀(w:World) (ad:Option Addr) (cap:Nat) (most:Int),AE w e ad cap→0≤most→most≤1000 →
 Calls Tryz.prog 40 #[ev e ad cap,.int .i64 most] w fun x w'=>x=.returned (.int .i64 (szL e.args 1 most))∧Below w.heap.size w w'
def Rest (wr:World) (ad:Option Addr) (l rest:PL) (i:Nat):Prop :=
 i+rest.len=l.len∧rest.sz≤l.sz∧(rest=.nil∨∃b o,ad=some ⟨b,o,none⟩∧b<wr.heap.size∧AC wr rest b (o+i*6))
theorem Rest.start {w:World} {ad:Option Addr} {l:PL} (h:AS w l ad):Rest w ad l l 0:=by
 refine⟨oq,Zc _,?_⟩
 rcases h with h|⟨b,o,e,hb,h⟩
 ·exact .inl h
 exact .inr ⟨b,o,e,hb,by simpa using h⟩
theorem Rest.below {w w':World} {ad:Option Addr} {l rest:PL} {i:Nat} (h:Rest w ad l rest i) (hb:Below w.heap.size w w'):Rest w' ad l rest i:=by
 obtain⟨h1,h2,h3⟩:=h
 refine⟨h1,h2,?_⟩
 rcases h3 with h3|⟨b,o,e,hlt,h3⟩
 ·exact .inl h3
 exact .inr ⟨b,o,e,Zd hlt hb.size,h3.below hb _ _ _ hlt⟩
theorem Rest.tail {w:World} {ad:Option Addr} {l tl args:PL} {k n d a:Int} {nm:ByteArray} {i:Nat} (h:Rest w ad l (.cons k nm n d args a tl) i):Rest w ad l tl (i+1):=by
 obtain⟨h1,h2,h3⟩:=h
 refine⟨by simp only[PL.len] at h1;omega,by simp only[PL.sz] at h2;omega,?_⟩
 rcases h3 with h3|⟨b,o,e,hlt,h3⟩
 ·cases h3
 obtain⟨_,_,_,_,_,_,_,ht⟩:=h3
 exact .inr ⟨b,o,e,hlt,by rw[show o+(i+1)*6=o+i*6+6 by omega];exact ht⟩
def ZcO (w:World) (e:PE) (ad:Option Addr) (cap:Nat) (most:Int) (v5 v6:Value) (wr:World):Prop :=
 ∃(i:Nat) (n:Int) (rest:PL),v6=.int .i64 (i:Int)∧v5=.int .i64 n∧Rest wr ad e.args rest i∧1≤n∧n≤most+1∧szL rest n most=szL e.args 1 most ∧
  wr.heap[w.heap.size]?=some (.cells #[.int .i64 e.k,.string e.nm,.int .i64 e.n,.int .i64 e.d,.slice ad e.args.len cap,.int .i64 e.a] 88 (0,0))∧Below w.heap.size w wr
theorem vW (e:PE) (ih:∀e':PE,e'.args.sz<e.args.sz→Ub e'):Ub e:=by
 intro w ad cap most hae hm1 hm2
 obtain⟨k,nm,n,d,args,a⟩:=e
 have hlen:=hae.len
 simp only at hlen
 have HAE:=hid hae
 have HIH:=hid ih
 clear hae ih
 unfold ev
 simp only
 obtain⟨fin,hfin⟩:∃fin,szL args 1 most=fin:=⟨_,rfl⟩
 rw[hfin]
 have HF:=hid hfin
 clear hfin
 go_enter Tryz.func40,Tryz.ntmps40
 go_wp2
 go_loopw [5,6] (fun v5 v6 wr=>Hid (ZcO w ⟨k,nm,n,d,args,a⟩ ad cap most v5 v6 wr)) (fun _ i _=>args.len-(intOf i).toNat)
 case atStart=>exact⟨0,1,args,rfl,rfl,(Rest.start HAE.out.args).below bq,oq,oq,rfl,Yp w _,bq⟩
 obtain⟨i,c,rest,rfl,rfl,hrest,hc1,hc2,hsz,hbox,hbel⟩:=hrel.out
 clear hrel
 obtain⟨⟨x0,x1,x2,x3,x4,x5⟩,xf⟩:=YZ hbox
 have HBOX:=hid hbox
 have HBEL:=hid hbel
 have hil:=hrest.1
 simp only at hil
 have hbl:=Zb hbox
 have HR:=hid hrest
 have HSZ:=hid hsz
 clear hbox hbel hrest hsz
 cases rest with
 | nil =>
  have hil':(i:Int)=(args.len:Int):=by simp only[PL.len] at hil;omega
  go_wp2
  go_ret
  exact⟨E6 (by rw[←HF.out,←HSZ.out];rfl),HBEL.out⟩
 | cons k1 nm1 n1 d1 args1 a1 tl =>
  have hil':(i:Int)<(args.len:Int):=by simp only[PL.len] at hil;omega
  by_cases hcm:c≤most
  ·obtain⟨b,o,rfl,hb,h0,h1,h2,h3,h5,hn,⟨ad1,cap1,h4,hcap1,hcm1,hd1⟩,ht⟩:=HR.out.2.2.resolve_left (by intro h;cases h)
   have hsub:=HR.out.2.1
   simp only[PL.sz] at hsub
   have HC:=hid (HIH.out ⟨k1,nm1,n1,d1,args1,a1⟩ (by show args1.sz<args.sz;omega) wr ad1 cap1 (most-c) ⟨hn,⟨hcap1,hcm1⟩,hd1⟩ oq oq)
   have hbd:=KM args1 1 (most-c) oq oq
   have hs2:=HSZ.out
   rw[szL,Z2 hcm] at hs2
   have HS2:=hid hs2
   obtain⟨m2,hm2'⟩:∃m2,szL args1 1 (most-c)=m2:=⟨_,rfl⟩
   unfold ev at HC
   simp only[hm2'] at HC
   rw[hm2'] at hbd
   have HM2:=hid hm2'
   clear hs2 hm2' ht hn hd1
   go_wp2_with (go_at_call 40;refine HC.out.mono ?_;rintro e w2 ⟨rfl,hb2⟩)
   go_roundw
   case rel =>
    refine⟨i+1,c+m2,tl,by go_num,rfl,HR.out.tail.below hb2,oq,oq,by rw[←HM2.out];exact HS2.out,?_,bq⟩
    exact(hb2.block _ hbl).trans HBOX.out
   simp[intOf];omega
  have hcm':most<c:=oq
  have hcd:decide (c≤most)=false:=by simpa using hcm'
  go_wp2
  go_ret
  exact⟨E6 (by rw[←HF.out,←HSZ.out,szL,Z1 oq]),HBEL.out⟩
theorem xg (e:PE):Ub e:=by
 suffices h:∀(N:Nat) (e:PE),e.args.sz<N→Ub e from h _ e (ZW _)
 intro N
 induction N with
 | zero=>intro e h;omega
 | succ N ih=>intro e h;exact vW e (fun e' h'=>ih e' oq)
def dpR:PL→Nat→Int→Int
 | .nil,_,acc=>acc
 | .cons _ _ _ _ args _ tl,m,acc=>dpR tl m (max acc (match m with|0=>0|m+1=>dpR args m 0+1))
def dpE (e:PE) (most:Nat):Int:=match most with|0=>0|m+1=>dpR e.args m 0+1
theorem gG:∀(l:PL) (m:Nat) (acc:Int),0≤acc→acc≤m→0≤dpR l m acc∧dpR l m acc≤m:=by
 intro l
 induction l with
 | nil=>intro m acc h1 h2;exact⟨h1,h2⟩
 | cons k nm n d args a tl ih1 ih2 =>
  intro m acc h1 h2
  match m with
  | 0 =>
   rw[dpR]
   exact ih2 0 _ oq oq
  | m+1 =>
   have h3:=ih1 m 0 oq oq
   rw[dpR]
   exact ih2 (m+1) _ oq oq
theorem qt (e:PE) (m:Nat):0≤dpE e m∧dpE e m≤m:=by
 match m with
 | 0=>simp[dpE]
 | m+1=>have:=gG e.args m 0 oq oq;simp only[dpE];omega
def Ko (e:PE):Prop:=∀(w:World) (ad:Option Addr) (cap:Nat) (most:Nat),AE w e ad cap→most≤1000 →
 Calls Tryz.prog 41 #[ev e ad cap,.int .i64 (most:Int)] w fun x w'=>x=.returned (.int .i64 (dpE e most))∧Below w.heap.size w w'
def ZcZ (w:World) (e:PE) (ad:Option Addr) (cap:Nat) (m:Nat) (v5 v6:Value) (wr:World):Prop :=
 ∃(i:Nat) (n:Int) (rest:PL),v6=.int .i64 (i:Int)∧v5=.int .i64 n∧Rest wr ad e.args rest i∧0≤n∧n≤m∧dpR rest m n=dpR e.args m 0 ∧
  wr.heap[w.heap.size]?=some (.cells #[.int .i64 e.k,.string e.nm,.int .i64 e.n,.int .i64 e.d,.slice ad e.args.len cap,.int .i64 e.a] 88 (0,0))∧Below w.heap.size w wr
theorem kR (e:PE) (ih:∀e':PE,e'.args.sz<e.args.sz→Ko e'):Ko e:=by
 intro w ad cap most hae hm
 obtain⟨k,nm,n,d,args,a⟩:=e
 have hlen:=hae.len
 simp only at hlen
 have HAE:=hid hae
 have HIH:=hid ih
 clear hae ih
 unfold ev
 simp only
 match most,hm with
 | 0,_ =>
  show Calls _ _ #[_,.int .i64 0] _ _
  go_enter Tryz.func41,Tryz.ntmps41
  go_wp2
  go_ret
  exact⟨rfl,bq⟩
 | m+1,hm =>
  obtain⟨fin,hfin⟩:∃fin,dpR args m 0=fin:=⟨_,rfl⟩
  have hfb:=gG args m 0 oq oq
  rw[hfin] at hfb
  have HG:=hid (show dpE ⟨k,nm,n,d,args,a⟩ (m+1)=fin+1 by rw[←hfin];rfl)
  have HF:=hid hfin
  have hm0:(((m+1:Nat):Int) == 0)=false:=by rw[ZY];omega
  have hm1:(((m+1:Nat):Int))=(m:Int)+1:=oq
  rw[hm1] at hm0
  rw[hm1]
  clear hfin
  go_enter Tryz.func41,Tryz.ntmps41
  go_wp2
  go_loopw [5,6] (fun v5 v6 wr=>Hid (ZcZ w ⟨k,nm,n,d,args,a⟩ ad cap m v5 v6 wr)) (fun _ i _=>args.len-(intOf i).toNat)
  case atStart=>exact⟨0,0,args,rfl,rfl,(Rest.start HAE.out.args).below bq,oq,oq,rfl,Yp w _,bq⟩
  obtain⟨i,c,rest,rfl,rfl,hrest,hc1,hc2,hsz,hbox,hbel⟩:=hrel.out
  clear hrel
  obtain⟨⟨x0,x1,x2,x3,x4,x5⟩,xf⟩:=YZ hbox
  have HBOX:=hid hbox
  have HBEL:=hid hbel
  have hil:=hrest.1
  simp only at hil
  have hbl:=Zb hbox
  have HR:=hid hrest
  have HSZ:=hid hsz
  clear hbox hbel hrest hsz
  cases rest with
  | nil =>
   have hil':(i:Int)=(args.len:Int):=by simp only[PL.len] at hil;omega
   go_wp2
   go_ret
   exact⟨E6 (by rw[HG.out,←HF.out,←HSZ.out];rfl),HBEL.out⟩
  | cons k1 nm1 n1 d1 args1 a1 tl =>
   have hil':(i:Int)<(args.len:Int):=by simp only[PL.len] at hil;omega
   obtain⟨b,o,rfl,hb,h0,h1,h2,h3,h5,hn,⟨ad1,cap1,h4,hcap1,hcm1,hd1⟩,ht⟩:=HR.out.2.2.resolve_left (by intro h;cases h)
   have hsub:=HR.out.2.1
   simp only[PL.sz] at hsub
   have HC:=hid (HIH.out ⟨k1,nm1,n1,d1,args1,a1⟩ (by show args1.sz<args.sz;omega) wr ad1 cap1 m ⟨hn,⟨hcap1,hcm1⟩,hd1⟩ oq)
   have hbd:=qt ⟨k1,nm1,n1,d1,args1,a1⟩ m
   obtain⟨m2,hm2'⟩:∃m2,dpE ⟨k1,nm1,n1,d1,args1,a1⟩ m=m2:=⟨_,rfl⟩
   unfold ev at HC
   simp only[hm2'] at HC
   rw[hm2'] at hbd
   have HS2:=hid (show dpR tl m (max c m2)=dpR args m 0 from by rw[←hm2'];exact HSZ.out)
   clear hm2' ht hn hd1
   go_wp2_with (go_at_call 41;refine HC.out.mono ?_;rintro e w2 ⟨rfl,hb2⟩)
   go_roundw
   case rel =>
    refine⟨i+1,max c m2,tl,by go_num,(by first|rfl|(refine Z3 (Value.int IntKind.i64) ?_;split<;>omega)),HR.out.tail.below hb2,oq,oq,HS2.out,?_,bq⟩
    exact(hb2.block _ hbl).trans HBOX.out
   simp[intOf];omega
theorem vc (e:PE):Ko e:=by
 suffices h:∀(N:Nat) (e:PE),e.args.sz<N→Ko e from h _ e (ZW _)
 intro N
 induction N with
 | zero=>intro e h;omega
 | succ N ih=>intro e h;exact kR e (fun e' h'=>ih e' oq)
def Ef:List ByteArray:=[⟨#[43]⟩,⟨#[45]⟩,⟨#[42]⟩,⟨#[47]⟩,⟨#[37]⟩,⟨#[60]⟩,⟨#[61,61]⟩]
def kg:ByteArray:=⟨#[63]⟩
theorem Zcu {s:ByteArray} (h:s≠kg):(s.toList == [63])=false:=by
 have:=QW s kg
 rw[ZZ h,Lib.toList_data kg] at this
 exact this
def bdE (k n d:Int) (nm:ByteArray) (len:Nat):Bool :=
 if d≠0 then false
 else if k=11 then Xu nm&&decide (len=0)&&decide (n=0)
 else if k=12 then decide (nm=⟨#[]⟩)&&decide (len=0)&&inB n 0 1000000000
 else if k≠13∨n≠0 then false
 else if nm=kg then decide (len=3)
 else if Lib.containsS Ef nm=true then decide (len=2) else false
def bdR:PL→Bool
 | .nil=>true
 | .cons k nm n d args _ tl=>(bdR args&&bdE k n d nm args.len)&&bdR tl
def Vm (e:PE):Bool:=bdR e.args&&bdE e.k e.n e.d e.nm e.args.len
def Us (e:PE):Prop:=∀(w:World) (ad:Option Addr) (cap:Nat),AE w e ad cap →
 Calls Tryz.prog 42 #[ev e ad cap] w fun x w'=>x=.returned (.bool (Vm e))∧Below w.heap.size w w'
def ZcL (w:World) (e:PE) (ad:Option Addr) (cap:Nat) (v3:Value) (wr:World):Prop :=
 ∃(i:Nat) (rest:PL),v3=.int .i64 (i:Int)∧Rest wr ad e.args rest i∧bdR rest=bdR e.args ∧
  wr.heap[w.heap.size]?=some (.cells #[.int .i64 e.k,.string e.nm,.int .i64 e.n,.int .i64 e.d,.slice ad e.args.len cap,.int .i64 e.a] 88 (0,0))∧Below w.heap.size w wr
theorem ZcY (w:World) (j:Nat) (hj:j<7):(w.alloc (Obj.cells #[.string ⟨#[43]⟩,.string ⟨#[45]⟩,.string ⟨#[42]⟩,.string ⟨#[47]⟩,.string ⟨#[37]⟩,.string ⟨#[60]⟩,.string ⟨#[61,61]⟩] 9)).cell? ⟨w.heap.size,j,none⟩=some (.string (Ef.getD j ByteArray.empty)):=by
 have hb':=Yp w (Obj.cells #[.string ⟨#[43]⟩,.string ⟨#[45]⟩,.string ⟨#[42]⟩,.string ⟨#[47]⟩,.string ⟨#[37]⟩,.string ⟨#[60]⟩,.string ⟨#[61,61]⟩] 9)
 have hcw:=fun o=>Z7 _ w.heap.size o _ _ _ hb'
 rw[hcw]
 match j,hj with
 | 0,_=>rfl
 | 1,_=>rfl
 | 2,_=>rfl
 | 3,_=>rfl
 | 4,_=>rfl
 | 5,_=>rfl
 | 6,_=>rfl
 | j+7,h=>omega
theorem ZaU {s:ByteArray} {k:Nat} (hk:k<7) (h:Ef.getD k ByteArray.empty=s):Lib.containsS Ef s=true:=by
 refine(Lib.containsS_iff _ _).2 ?_
 rw[←h,Zf,Ze (show k<Ef.length from hk),Z9]
 exact Zi _
theorem ZbU {s:ByteArray} (h:∀j,j<7→Ef.getD j ByteArray.empty≠s):Lib.containsS Ef s=false:=by
 cases hb:Lib.containsS Ef s with
 | false=>rfl
 | true =>
  obtain⟨j,hj,he⟩:=Yl ((Lib.containsS_iff _ _).1 hb)
  refine(h j hj ?_).elim
  rw[Zf,Ze hj,Z9];exact he
def ZcU (W:World) (nm:ByteArray) (v5:Value) (wr:World):Prop :=
 ∃j:Nat,j≤7∧v5=.int .i64 (j:Int)∧(∀i,i<j→Ef.getD i ByteArray.empty≠nm)∧Below W.heap.size W wr
theorem uf (e:PE) (ih:∀e':PE,e'.args.sz<e.args.sz→Us e'):Us e:=by
 intro w ad cap hae
 obtain⟨k,nm,n,d,args,a⟩:=e
 have hlen:=hae.len
 have hnm:=hae.nums.2.2.2.2
 simp only at hlen hnm
 have HAE:=hid hae
 have HIH:=hid ih
 clear hae ih
 unfold ev
 simp only
 obtain⟨fin,hfin⟩:∃fin,Vm ⟨k,nm,n,d,args,a⟩=fin:=⟨_,rfl⟩
 rw[hfin]
 have HF:=hid (show(bdR args&&bdE k n d nm args.len)=fin from hfin)
 clear hfin
 go_enter Tryz.func42,Tryz.ntmps42
 go_wp2
 go_loopw [3] (fun v3 wr=>Hid (ZcL w ⟨k,nm,n,d,args,a⟩ ad cap v3 wr)) (fun i _=>args.len-(intOf i).toNat)
 case atStart=>exact⟨0,args,rfl,(Rest.start HAE.out.args).below bq,rfl,Yp w _,bq⟩
 obtain⟨i,rest,rfl,hrest,hsz,hbox,hbel⟩:=hrel.out
 clear hrel
 obtain⟨⟨x0,x1,x2,x3,x4,x5⟩,xf⟩:=YZ hbox
 have HBOX:=hid hbox
 have HBEL:=hid hbel
 have hil:=hrest.1
 simp only at hil
 have hbl:=Zb hbox
 have hsB:=hbel.size
 have HR:=hid hrest
 clear hbox hbel hrest
 cases rest with
 | cons k1 nm1 n1 d1 args1 a1 tl =>
  have HSZ:=hid hsz
  clear hsz
  have hil':(i:Int)<(args.len:Int):=by simp only[PL.len] at hil;omega
  obtain⟨b,o,rfl,hb,h0,h1,h2,h3,h5,hn,⟨ad1,cap1,h4,hcap1,hcm1,hd1⟩,ht⟩:=HR.out.2.2.resolve_left (by intro h;cases h)
  have hsub:=HR.out.2.1
  simp only[PL.sz] at hsub
  have HC:=hid (HIH.out ⟨k1,nm1,n1,d1,args1,a1⟩ (by show args1.sz<args.sz;omega) wr ad1 cap1 ⟨hn,⟨hcap1,hcm1⟩,hd1⟩)
  unfold ev at HC
  simp only at HC
  cases hbb:Vm ⟨k1,nm1,n1,d1,args1,a1⟩ with
  | true =>
   rw[hbb] at HC
   have HS2:=hid (show bdR tl=bdR args from by
    have h:=HSZ.out
    rw[bdR,show(bdR args1&&bdE k1 n1 d1 nm1 args1.len)=true from hbb,Bool.true_and] at h
    exact h)
   clear hbb ht hn hd1
   go_wp2_with (go_at_call 42;refine HC.out.mono ?_;rintro e w2 ⟨rfl,hb2⟩)
   go_roundw
   case rel=>exact⟨i+1,tl,by go_num,HR.out.tail.below hb2,HS2.out,(hb2.block _ hbl).trans HBOX.out,bq⟩
   simp[intOf];omega
  | false =>
   rw[hbb] at HC
   have HS2:=hid (show bdR args=false from by
    have h:=HSZ.out
    rw[bdR,show(bdR args1&&bdE k1 n1 d1 nm1 args1.len)=false from hbb,Bool.false_and] at h
    exact h.symm)
   clear hbb ht hn hd1
   go_wp2_with (go_at_call 42;refine HC.out.mono ?_;rintro e w2 ⟨rfl,hb2⟩)
   go_ret
   exact⟨Yv (by rw[←HF.out,HS2.out];rfl),bq⟩
 | nil =>
  have hil':(i:Int)=(args.len:Int):=by simp only[PL.len] at hil;omega
  have HSZ:=hid (show true=bdR args from hsz)
  have HRI:=hid (fun w=>XN nm w hnm)
  have HNU:=hid (fun w=>Xs n 0 1000000000 w)
  clear hsz hil
  by_cases hd:d=0
  ·subst hd
   by_cases hk1:k=11
   ·subst hk1
    cases hno:Xu nm with
    | false =>
     rw[hno] at HRI
     go_wp2_with (first|(go_at_call 38;refine(HRI.out _).mono ?_;rintro e w2 ⟨rfl,hb2⟩;obtain⟨hc2,hf2⟩:=Yu hb2)|(go_at_call 39;refine(HNU.out _).mono ?_;rintro e w2 ⟨rfl,rfl⟩))
     all_goals (go_ret;exact⟨Yv (by rw[←HF.out,←HSZ.out];simp[bdE,hno]),bq⟩)
    | true =>
     rw[hno] at HRI
     by_cases hl0:args.len=0
     ·have hl1:((args.len:Int) == 0)=true:=by rw[beq_iff_eq];omega
      have HL:=hid hl0
      clear hl0
      by_cases hn0:n=0
      ·subst hn0
       go_wp2_with (first|(go_at_call 38;refine(HRI.out _).mono ?_;rintro e w2 ⟨rfl,hb2⟩;obtain⟨hc2,hf2⟩:=Yu hb2)|(go_at_call 39;refine(HNU.out _).mono ?_;rintro e w2 ⟨rfl,rfl⟩))
       all_goals (go_ret;exact⟨Yv (by rw[←HF.out,←HSZ.out];simp[bdE,hno,HL.out]),bq⟩)
      have hn1:(n == 0)=false:=ZY.2 hn0
      go_wp2_with (first|(go_at_call 38;refine(HRI.out _).mono ?_;rintro e w2 ⟨rfl,hb2⟩;obtain⟨hc2,hf2⟩:=Yu hb2)|(go_at_call 39;refine(HNU.out _).mono ?_;rintro e w2 ⟨rfl,rfl⟩))
      all_goals (go_ret;exact⟨Yv (by rw[←HF.out,←HSZ.out];simp[bdE,hno,hn0]),bq⟩)
     have hl1:((args.len:Int) == 0)=false:=by rw[ZY];omega
     have HL:=hid hl0
     clear hl0
     go_wp2_with (first|(go_at_call 38;refine(HRI.out _).mono ?_;rintro e w2 ⟨rfl,hb2⟩;obtain⟨hc2,hf2⟩:=Yu hb2)|(go_at_call 39;refine(HNU.out _).mono ?_;rintro e w2 ⟨rfl,rfl⟩))
     all_goals (go_ret;exact⟨Yv (by rw[←HF.out,←HSZ.out];simp[bdE,hno,HL.out]),bq⟩)
   have hk1':(k == 11)=false:=ZY.2 hk1
   by_cases hk2:k=12
   ·subst hk2
    by_cases he:nm=⟨#[]⟩
    ·subst he
     by_cases hl0:args.len=0
     ·have hl1:((args.len:Int) == 0)=true:=by rw[beq_iff_eq];omega
      have HL:=hid hl0
      clear hl0
      go_wp2_with (first|(go_at_call 38;refine(HRI.out _).mono ?_;rintro e w2 ⟨rfl,hb2⟩;obtain⟨hc2,hf2⟩:=Yu hb2)|(go_at_call 39;refine(HNU.out _).mono ?_;rintro e w2 ⟨rfl,rfl⟩))
      all_goals (go_ret;exact⟨Yv (by rw[←HF.out,←HSZ.out];simp[bdE,HL.out]),bq⟩)
     have hl1:((args.len:Int) == 0)=false:=by rw[ZY];omega
     have HL:=hid hl0
     clear hl0
     go_wp2_with (first|(go_at_call 38;refine(HRI.out _).mono ?_;rintro e w2 ⟨rfl,hb2⟩;obtain⟨hc2,hf2⟩:=Yu hb2)|(go_at_call 39;refine(HNU.out _).mono ?_;rintro e w2 ⟨rfl,rfl⟩))
     all_goals (go_ret;exact⟨Yv (by rw[←HF.out,←HSZ.out];simp[bdE,HL.out]),bq⟩)
    have he0:nm.data.toList≠[]:=by
     intro h;apply he
     obtain⟨⟨l⟩⟩:=nm
     simp at h;subst h;rfl
    have he1:nm.toList.isEmpty=false:=by rw[Lib.toList_data];simpa using he0
    have he2:¬nm.toList=[]:=by rw[Lib.toList_data];exact he0
    have HE:=hid he
    clear he he0
    go_wp2_with (first|(go_at_call 38;refine(HRI.out _).mono ?_;rintro e w2 ⟨rfl,hb2⟩;obtain⟨hc2,hf2⟩:=Yu hb2)|(go_at_call 39;refine(HNU.out _).mono ?_;rintro e w2 ⟨rfl,rfl⟩))
    all_goals (go_ret;exact⟨Yv (by rw[←HF.out,←HSZ.out];simp[bdE,HE.out]),bq⟩)
   have hk2':(k == 12)=false:=ZY.2 hk2
   by_cases hk3:k=13
   ·subst hk3
    clear hk1 hk2 hk1' hk2'
    by_cases hn0:n=0
    ·subst hn0
     by_cases hq:nm=kg
     ·subst hq
      have hq':(kg.toList == [63])=true:=by rw[Lib.toList_data];rfl
      by_cases hl3:args.len=3
      ·have hl1:((args.len:Int) == 3)=true:=by rw[beq_iff_eq];omega
       have HL:=hid hl3
       clear hl3
       go_wp2_with (first|(go_at_call 38;refine(HRI.out _).mono ?_;rintro e w2 ⟨rfl,hb2⟩;obtain⟨hc2,hf2⟩:=Yu hb2)|(go_at_call 39;refine(HNU.out _).mono ?_;rintro e w2 ⟨rfl,rfl⟩))
       all_goals (go_ret;exact⟨Yv (by rw[←HF.out,←HSZ.out];simp[bdE,HL.out]),bq⟩)
      have hl1:((args.len:Int) == 3)=false:=by rw[ZY];omega
      have HL:=hid hl3
      clear hl3
      go_wp2_with (first|(go_at_call 38;refine(HRI.out _).mono ?_;rintro e w2 ⟨rfl,hb2⟩;obtain⟨hc2,hf2⟩:=Yu hb2)|(go_at_call 39;refine(HNU.out _).mono ?_;rintro e w2 ⟨rfl,rfl⟩))
      all_goals (go_ret;exact⟨Yv (by rw[←HF.out,←HSZ.out];simp[bdE,HL.out]),bq⟩)
     have hq':(nm.toList == [63])=false:=Zcu hq
     have HQ:=hid hq
     clear hq
     obtain⟨wo,rfl⟩:∃wo:World,wo=wr:=⟨_,rfl⟩
     go_wp2
     go_loopw [5] (fun v5 wr2=>Hid (ZcU (wo.alloc (Obj.cells #[.string ⟨#[43]⟩,.string ⟨#[45]⟩,.string ⟨#[42]⟩,.string ⟨#[47]⟩,.string ⟨#[37]⟩,.string ⟨#[60]⟩,.string ⟨#[61,61]⟩] 9)) nm v5 wr2)) (fun i _=>7-(intOf i).toNat)
     case atStart=>exact⟨0,oq,rfl,fun j hj=>oq,bq⟩
     obtain⟨j,hj,rfl,hno,hb3⟩:=hrel.out
     clear hrel
     have HNO:=hid hno
     have HB3:=hid hb3
     have l3:wo.heap.size+1≤wr.heap.size:=by have:=hb3.size;simpa using this
     clear hno
     by_cases hj7:j<7
     ·have hop:=ZcY wo j hj7
      obtain⟨x,hx⟩:∃x,Ef.getD j ByteArray.empty=x:=⟨_,rfl⟩
      rw[hx] at hop
      have c0:=(hb3.cell (p:=⟨wo.heap.size,j,none⟩) (by simp)).trans hop
      have c1:=(hb3.cell (p:=⟨w.heap.size,1,none⟩) (by simp;omega)).trans ((Zn (w:=wo) (a:=⟨w.heap.size,1,none⟩) (Z5 _ _ hbl)).trans x1)
      have c4:=(hb3.cell (p:=⟨w.heap.size,4,none⟩) (by simp;omega)).trans ((Zn (w:=wo) (a:=⟨w.heap.size,4,none⟩) (Z5 _ _ hbl)).trans x4)
      have hb:=QW x nm
      have HX:=hid hx
      clear hx hop hb3
      by_cases he:x=nm
      ·rw[Z0 he] at hb
       have HE:=hid he
       clear he
       go_wp2
       go_region
       go_wp2
       go_ret
       have hbel:=HBEL.out
       have hb3:=HB3.out
       have e1:((args.len:Int) == 2)=decide (args.len=2):=by rw[Bool.eq_iff_iff];simp;omega
       exact⟨Yv (by rw[←HF.out,←HSZ.out];refine Eq.trans e1 ?_;simp[bdE,HQ.out,ZaU hj7 (HX.out.trans HE.out)]),bq⟩
      rw[ZZ he] at hb
      have HE:=hid he
      clear he
      go_wp2
      go_region
      go_wp2
      refine⟨?_,by simp[intOf];omega⟩
      exact⟨j+1,oq,by go_num,fun i hi=>by by_cases h:i<j;(· exact HNO.out i h);(· obtain rfl:i=j:=oq;rw[HX.out];exact HE.out),bq⟩
     clear hb3
     go_wp2
     go_ret
     have hbel:=HBEL.out
     have hb3:=HB3.out
     exact⟨Yv (by rw[←HF.out,←HSZ.out];simp[bdE,HQ.out,ZbU (fun j' h=>HNO.out j' oq)]),bq⟩
    have hn1:(n == 0)=false:=ZY.2 hn0
    go_wp2_with (first|(go_at_call 38;refine(HRI.out _).mono ?_;rintro e w2 ⟨rfl,hb2⟩;obtain⟨hc2,hf2⟩:=Yu hb2)|(go_at_call 39;refine(HNU.out _).mono ?_;rintro e w2 ⟨rfl,rfl⟩))
    all_goals (go_ret;exact⟨Yv (by rw[←HF.out,←HSZ.out];simp[bdE,hn0]),bq⟩)
   have hk3':(k == 13)=false:=ZY.2 hk3
   go_wp2_with (first|(go_at_call 38;refine(HRI.out _).mono ?_;rintro e w2 ⟨rfl,hb2⟩;obtain⟨hc2,hf2⟩:=Yu hb2)|(go_at_call 39;refine(HNU.out _).mono ?_;rintro e w2 ⟨rfl,rfl⟩))
   all_goals (go_ret;exact⟨Yv (by rw[←HF.out,←HSZ.out];simp[bdE,hk1,hk2,hk3]),bq⟩)
  have hd1:(d == 0)=false:=ZY.2 hd
  go_wp2_with (first|(go_at_call 38;refine(HRI.out _).mono ?_;rintro e w2 ⟨rfl,hb2⟩;obtain⟨hc2,hf2⟩:=Yu hb2)|(go_at_call 39;refine(HNU.out _).mono ?_;rintro e w2 ⟨rfl,rfl⟩))
  all_goals (go_ret;exact⟨Yv (by rw[←HF.out,←HSZ.out];simp[bdE,hd]),bq⟩)
theorem gh (e:PE):Us e:=by
 suffices h:∀(N:Nat) (e:PE),e.args.sz<N→Us e from h _ e (ZW _)
 intro N
 induction N with
 | zero=>intro e h;omega
 | succ N ih=>intro e h;exact uf e (fun e' h'=>ih e' oq)
def T3:Nat→Nat
 | 0=>3
 | 1=>4
 | 2=>5
 | p+3=>2*T3 p
theorem E1:∀p,T3 p+1≤T3 (p+1)
 | 0=>by decide
 | 1=>by decide
 | 2=>by decide
 | p+3=>by have:=E1 p;show 2*T3 p+1≤2*T3 (p+1);omega
theorem Kh {p q:Nat} (h:p≤q):T3 p≤T3 q:=by
 induction h with
 | refl=>exact Zc _
 | step _ ih=>exact Zm ih (Nat.le_of_succ_le (E1 _))
theorem Zb4 {p:Nat} (h:p≤101):T3 p≤60000000000:=Zm (Kh h) (by decide)
def PL.at:PL→Nat→Option PE
 | .nil,_=>none
 | .cons k nm n d args a _,0=>some ⟨k,nm,n,d,args,a⟩
 | .cons _ _ _ _ _ _ tl,i+1=>tl.at i
def PL.szFrom:PL→Nat→Nat
 | .nil,_=>0
 | .cons _ _ _ _ args _ tl,0=>args.sz+1+tl.sz
 | .cons _ _ _ _ _ _ tl,i+1=>tl.szFrom i
theorem PL.szFrom0:∀l:PL,l.szFrom 0=l.sz
 | .nil=>rfl
 | .cons _ _ _ _ _ _ _=>rfl
theorem PL.at_some:∀(l:PL) (i:Nat),i<l.len→∃e,l.at i=some e∧l.szFrom i=e.sz+l.szFrom (i+1)
 | .nil,i,h=>absurd h (Yk _)
 | .cons k nm n d args a tl,0,_=>⟨⟨k,nm,n,d,args,a⟩,rfl,by show args.sz+1+tl.sz=(args.sz+1)+tl.szFrom 0;rw[PL.szFrom0]⟩
 | .cons _ _ _ _ _ _ tl,i+1,h=>tl.at_some i (Nat.lt_of_succ_lt_succ h)
def Ar2:PL→Prop
 | .nil=>True
 | .cons _ _ _ _ args _ tl=>(args=.nil∨2≤args.len)∧Ar2 args∧Ar2 tl
def Uc (e:PE):Prop:=(e.args=.nil∨2≤e.args.len)∧Ar2 e.args
theorem Ar2.at:∀(l:PL) (i:Nat) (e:PE),Ar2 l→l.at i=some e→Uc e
 | .cons k nm n d args a tl,0,e,h,he=>by injection he with he;subst he;exact⟨h.1,h.2.1⟩
 | .cons _ _ _ _ _ _ tl,i+1,e,h,he=>Ar2.at tl i e h.2.2 he
theorem Qt:∀l:PL,l.len≤l.sz
 | .nil=>Zc _
 | .cons _ _ _ _ args _ tl=>by have:=Qt tl;simp only[PL.len,PL.sz];omega
theorem ZbM {l:PL} (h:l.len=0):l=.nil:=by cases l with|nil=>rfl|cons _ _ _ _ _ _ _=>simp[PL.len] at h
theorem Uc.three {e:PE} (h:Uc e) (hn:e.args.len≠0):3≤e.sz:=by
 rcases h.1 with h|h
 ·rw[h] at hn;exact absurd rfl hn
 have:=Qt e.args;unfold PE.sz;omega
theorem Zac {k n d:Int} {nm:ByteArray} {len:Nat} (h:bdE k n d nm len=true):len=0∨2≤len:=by
 unfold bdE at h
 split at h
 ·cases h
 split at h
 ·simp at h;omega
 split at h
 ·simp at h;omega
 split at h
 ·cases h
 split at h
 ·simp at h;omega
 split at h
 ·simp at h;omega
 cases h
theorem EW:∀l:PL,bdR l=true→Ar2 l
 | .nil,_=>trivial
 | .cons k nm n d args a tl,h=>by
  rw[bdR,ZB,ZB] at h
  refine⟨?_,EW args h.1.1,EW tl h.2⟩
  rcases Zac h.1.2 with h|h
  ·exact .inl (ZbM h)
  exact .inr h
theorem ua {e:PE} (h:Vm e=true):Uc e:=by
 unfold Vm at h
 rw[ZB] at h
 refine⟨?_,EW _ h.1⟩
 rcases Zac h.2 with h|h
 ·exact .inl (ZbM h)
 exact .inr h
structure Jl (W:World) (b o:Nat) (e:PE):Prop where
 lt:b<W.heap.size
 fz:W.frozen? ⟨b,o,none⟩=false
 c0:W.cell? ⟨b,o,none⟩=some (.int .i64 e.k)
 c1:W.cell? ⟨b,o+1,none⟩=some (.string e.nm)
 c2:W.cell? ⟨b,o+2,none⟩=some (.int .i64 e.n)
 c3:W.cell? ⟨b,o+3,none⟩=some (.int .i64 e.d)
 c5:W.cell? ⟨b,o+5,none⟩=some (.int .i64 e.a)
 c4:∃ad cap,W.cell? ⟨b,o+4,none⟩=some (.slice ad e.args.len cap)∧(e.args=.nil∨∃b' o',ad=some ⟨b',o',none⟩∧b'<W.heap.size∧AC W e.args b' o'∧NF W e.args b' o')
 len:e.args.len≤9223372036854775807
theorem Jl.ptr {W w:World} {b o:Nat} {e:PE} (h:Jl W b o e) (hb:Below W.heap.size W w):XP w (.pointer (some ⟨b,o,none⟩)):=by
 have hc:=h.c0
 unfold World.cell? at hc
 cases hh:W.heap[b]? with
 | none=>simp[hh] at hc
 | some ob =>
  cases ob with
  | cells cs t fr=>exact⟨b,o,cs,t,fr,rfl,(hb.block b h.lt).trans hh,(hb.frozen (p:=⟨b,o,none⟩) h.lt).trans h.fz⟩
  | _=>simp[hh] at hc
theorem Jl.child:∀(l:PL) {W:World} {b o:Nat},b<W.heap.size→AC W l b o→NF W l b o→∀i e,l.at i=some e→Jl W b (o+i*6) e
 | .cons k nm n d args a tl,W,b,o,hlt,hac,hnf,0,e,he=>by
  injection he with he
  subst he
  obtain⟨h0,h1,h2,h3,h5,hn,⟨ad,cap,h4,hcap,hm,hd⟩,ht⟩:=hac
  rw[Nat.zero_mul,Nat.add_zero]
  refine⟨hlt,hnf.1,h0,h1,h2,h3,h5,⟨ad,cap,h4,?_⟩,Zm hcap hm⟩
  rcases hd with hd|⟨b',o',rfl,hb',hd⟩
  ·exact .inl hd
  exact .inr ⟨b',o',rfl,hb',hd,hnf.2.1 b' o' cap h4⟩
 | .cons _ _ _ _ _ _ tl,W,b,o,hlt,hac,hnf,i+1,e,he=>by
  have:=Jl.child tl hlt hac.2.2.2.2.2.2.2 hnf.2.2 i e he
  rw[show o+(i+1)*6=o+6+i*6 by omega]
  exact this
structure SE where
 b:Nat
 o:Nat
 next:Nat
 fr:Nat
 e:PE
def SE.v (s:SE):List Value:=[.pointer (some ⟨s.b,s.o,none⟩),.int .i64 s.next,.int .i64 s.fr]
def VH (stk:List SE):List Value:=stk.flatMap SE.v
def QP:List SE→Nat
 | []=>0
 | s::l=>s.e.args.szFrom s.next+QP l
theorem Ji (a b:List SE):QP (a++b)=QP a+QP b:=by
 induction a with
 | nil=>simp[QP]
 | cons s l ih=>simp only[ZC,QP,ih];omega
theorem QA (a b:List SE):VH (a++b)=VH a++VH b:=by simp[VH]
theorem Q7:∀l:List SE,(VH l).length=l.length*3:=by
 intro l
 induction l with
 | nil=>rfl
 | cons s l ih=>show(s.v++VH l).length=_;rw[Zx,ih,Zp];show 3+_=_;omega
def PcV (nn:Nat) (v:Value):Prop:=∃f t:Nat,v=.agg #[.int .i64 f,.int .i64 t]∧f≤t∧t≤nn
theorem PcV.mono {n m:Nat} (h:n≤m) {v:Value} (hv:PcV n v):PcV m v:=by obtain⟨f,t,rfl,h1,h2⟩:=hv;exact⟨f,t,rfl,h1,oq⟩
def NmR (xs:List Value) (nn:Nat):Prop:=(∀u∈xs,u.oneCell'=true)∧∀j,j<nn→∃(k:Int) (nm:ByteArray) (n d a:Int),xs[j*6]?=some (.int .i64 k)∧xs[j*6+1]?=some (.string nm)∧xs[j*6+2]?=some (.int .i64 n)∧xs[j*6+3]?=some (.int .i64 d) ∧
 xs[j*6+4]?=some (.slice none 0 0)∧xs[j*6+5]?=some (.int .i64 a)
def Gc (W1:World) (v:Value):Prop:=∃b o e,v=.pointer (some ⟨b,o,none⟩)∧Jl W1 b o e
theorem Gc.ptr {W1 w:World} (hb:Below W1.heap.size W1 w) (v:Value) (h:Gc W1 v):XP w v:=by obtain⟨b,o,e,rfl,h⟩:=h;exact h.ptr hb
def Xk (vn vo:Value) (mb:Nat):Obj:=.cells #[vn,vo,.map (some mb)] 276 (0,0)
structure GW (W1:World) (gb mb nn:Nat) (stk:List SE) (w:World):Prop where
 low:Below W1.heap.size W1 w
 hgb:W1.heap.size≤gb
 hmb:W1.heap.size≤mb
 sta:∃vn vo xs,w.heap[gb]?=some (Xk vn vo mb)∧w.ownsRow W1.heap.size 88 6 vn nn xs∧NmR xs nn∧w.ownsRow W1.heap.size 289 3 vo stk.length (VH stk)
 map:J4 w mb (Gc W1) (PcV nn)
 stk:∀s∈stk,Jl W1 s.b s.o s.e∧s.next≤s.e.args.len∧s.fr≤nn∧Uc s.e
theorem NmR.nil:NmR [] 0:=⟨fun u h=>(by cases h),fun j h=>absurd h (Yk _)⟩
theorem NmR.snoc {xs ys:List Value} {n m:Nat} (hx:xs.length=n*6) (h:NmR xs n) (k:NmR ys m):NmR (xs++ys) (n+m):=by
 refine⟨fun u hu=>?_,fun j hj=>?_⟩
 ·rcases List.mem_append.1 hu with hu|hu
  ·exact h.1 u hu
  exact k.1 u hu
 by_cases hjn:j<n
 ·obtain⟨k,nm,a,b,c,h0,h1,h2,h3,h4,h5⟩:=h.2 j hjn
  refine⟨k,nm,a,b,c,?_,?_,?_,?_,?_,?_⟩
  all_goals (rw[List.getElem?_append_left oq];assumption)
 obtain⟨k,nm,a,b,c,h0,h1,h2,h3,h4,h5⟩:=k.2 (j-n) oq
 have e:∀i,i<6→(xs++ys)[j*6+i]?=ys[(j-n)*6+i]?:=fun i hi=>by rw[List.getElem?_append_right oq];congr 1;omega
 exact⟨k,nm,a,b,c,(e 0 oq).trans h0,(e 1 oq).trans h1,(e 2 oq).trans h2,(e 3 oq).trans h3,(e 4 oq).trans h4,(e 5 oq).trans h5⟩
theorem NmR.part {xs:List Value} {n f t:Nat} (hx:xs.length=n*6) (h:NmR xs n) (hft:f≤t) (htn:t≤n):NmR ((xs.drop (f*6)).take ((t-f)*6)) (t-f):=by
 refine⟨fun u hu=>h.1 u (List.mem_of_mem_drop (List.mem_of_mem_take hu)),fun j hj=>?_⟩
 obtain⟨k,nm,a,b,c,h0,h1,h2,h3,h4,h5⟩:=h.2 (f+j) oq
 have e:∀i,i<6→((xs.drop (f*6)).take ((t-f)*6))[j*6+i]?=xs[(f+j)*6+i]?:=fun i hi=>by rw[Yn oq,List.getElem?_drop];congr 1;omega
 exact⟨k,nm,a,b,c,(e 0 oq).trans h0,(e 1 oq).trans h1,(e 2 oq).trans h2,(e 3 oq).trans h3,(e 4 oq).trans h4,(e 5 oq).trans h5⟩
structure Chg (S:Nat→Prop) (w w':World):Prop where
 os:w'.os=w.os
 tape:w'.tape=w.tape
 output:w'.output=w.output
 size:w.heap.size≤w'.heap.size
 block:∀k,k<w.heap.size→¬S k→w'.heap[k]?=w.heap[k]?
theorem Vy {w:World} {base:Nat} {e:TypeId} {size:Nat} {v:Value} {n:Nat} {xs:List Value} (h:w.ownsRow base e size v n xs) {b:Nat} (hb:∀cur,w.heap[b]?≠some (.cells cur e (0,0))):v.ownBlock≠some b:=by
 intro he
 rcases h.2 with ⟨h1,_⟩|⟨g,cap,cur,h1,_,hg,_⟩
 ·rw[h1] at he;cases he
 rw[h1] at he
 injection he with he
 have he:g=b:=he
 subst he
 exact hb cur hg
theorem YW {w w':World} {base:Nat} {e:TypeId} {size:Nat} {v:Value} {n:Nat} {xs:List Value} (h:w.ownsRow base e size v n xs) (hb:∀k,v.ownBlock=some k→w'.heap[k]?=w.heap[k]?):w'.ownsRow base e size v n xs:=by
 refine⟨h.1,?_⟩
 rcases h.2 with h1|⟨g,cap,cur,h1,h2,hg,h3⟩
 ·exact .inl h1
 exact .inr ⟨g,cap,cur,h1,h2,(hb g (by rw[h1];rfl)).trans hg,h3⟩
theorem GW.names {W1 w w':World} {gb mb nn nn':Nat} {stk:List SE} (h:GW W1 gb mb nn stk w) {vn vo v':Value} {xs xs':List Value} (hgb:w.heap[gb]?=some (Xk vn vo mb)) (hon:w.ownsRow W1.heap.size 88 6 vn nn xs)
  (hc:Chg (fun k=>k=gb∨vn.ownBlock=some k) w w') (hg':w'.heap[gb]?=some (Xk v' vo mb)) (hon':w'.ownsRow W1.heap.size 88 6 v' nn' xs') (hnm:NmR xs' nn') (hle:nn≤nn'):GW W1 gb mb nn' stk w':=by
 obtain⟨vn2,vo2,xs2,hgb2,hon2,hnm2,hoo⟩:=h.sta
 have e:=hgb.symm.trans hgb2
 simp only[Xk,Option.some.injEq,Obj.cells.injEq,Array.mk.injEq,List.cons.injEq,and_true,true_and] at e
 obtain⟨rfl,rfl⟩:=e
 have hml:=h.map.lt
 have hlow:=h.low.size
 have hmo:¬(mb=gb∨vn.ownBlock=some mb):=by
  obtain⟨arr,clock,hm,_⟩:=h.map
  rintro (e|e)
  ·rw[e,hgb] at hm;cases hm
  exact Vy hon (b:=mb) (fun cur e2=>by rw[hm] at e2;cases e2) e
 refine⟨⟨hc.os.trans h.low.os,hc.tape.trans h.low.tape,hc.output.trans h.low.output,Zm h.low.size hc.size,fun k hk=>?_⟩,h.hgb,h.hmb,⟨v',vo,xs',hg',hon',hnm,?_⟩,h.map.keep (hc.block mb hml hmo) (fun v hv=>hv.mono hle),fun s hs=>?_⟩
 ·have hkb:¬(k=gb∨vn.ownBlock=some k):=by
   have:=h.hgb
   rintro (e|e)
   ·omega
   have:=(hon.lt k e).1;omega
  exact(hc.block k oq hkb).trans (h.low.block k hk)
 ·refine YW hoo fun k hk=>hc.block k (hoo.lt k hk).2 ?_
  rintro (e|e)
  ·rw[e] at hk
   exact Vy hoo (b:=gb) (fun cur e2=>by rw[hgb] at e2;injection e2 with e2;injection e2 with _ e2 _;exact absurd e2 (by decide)) hk
  rcases hon.2 with ⟨h1,_⟩|⟨g,cap,cur,h1,_,hg,_⟩
  ·rw[h1] at e;cases e
  rw[h1] at e
  injection e with e
  have e:g=k:=e
  subst e
  exact Vy hoo (b:=g) (fun cur2 e2=>by rw[hg] at e2;injection e2 with e2;injection e2 with _ e2 _;exact absurd e2 (by decide)) hk
 obtain⟨h1,h2,h3,h4⟩:=h.stk s hs
 exact⟨h1,h2,Zm h3 hle,h4⟩
end Go.Proofs.YtgigilkpndhddaaGreatDoor.syn
