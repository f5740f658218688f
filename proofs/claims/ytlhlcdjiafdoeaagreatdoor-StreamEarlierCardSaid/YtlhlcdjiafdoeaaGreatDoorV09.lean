/- Parts of the proof. -/
import Derived.Deep.CutBlock
import Derived.Deep.DeepCutAuto
import Derived.Test.YtlhlcdjiafdoeaaGreatDoorV04
set_option linter.all false
set_option maxRecDepth 100000
set_option maxHeartbeats 16000000
namespace Go.Proofs.YtlhlcdjiafdoeaaGreatDoor.syn
open Go.RowKit
def exE (k n d:Int) (nm:ByteArray) (len:Nat):Bool :=
 if k=1 then Xp nm&&decide (len=0)&&decide (n=0)&&decide (d=0)
 else if k=2 then Xp nm&&decide (1≤len)&&decide (len≤6)&&decide (n=0)&&decide (d=0)
 else if len≠1∨nm≠⟨#[]⟩∨(d≠0∧k≠5) then false
 else if k=3∨k=4 then inB n 1 100
 else if k=5 then inB n 0 100&&inB d 1 100
 else if k=6∨k=8 then inB n (-1000000000) 1000000000
 else decide (k=7)&&decide (n=0)
def exR:PL→Bool
 | .nil=>true
 | .cons k nm n d args _ tl=>(exR args&&exE k n d nm args.len)&&exR tl
def YF (e:PE):Bool:=exR e.args&&exE e.k e.n e.d e.nm e.args.len
def VL (e:PE):Prop:=∀(w:World) (ad:Option Addr) (cap:Nat),AE w e ad cap →
 Calls Tryz.prog 35 #[ev e ad cap] w fun x w'=>x=.returned (.bool (YF e))∧Below w.heap.size w w'
def Zca (w:World) (e:PE) (ad:Option Addr) (cap:Nat) (v3:Value) (wr:World):Prop :=
 ∃(i:Nat) (rest:PL),v3=.int .i64 (i:Int)∧Rest wr ad e.args rest i∧exR rest=exR e.args ∧
  wr.heap[w.heap.size]?=some (.cells #[.int .i64 e.k,.string e.nm,.int .i64 e.n,.int .i64 e.d,.slice ad e.args.len cap,.int .i64 e.a] 92 (0,0))∧Below w.heap.size w wr
theorem Zad {nm:ByteArray} (he:nm≠⟨#[]⟩):nm.data.toList≠[]:=by
 intro h;apply he
 obtain⟨⟨l⟩⟩:=nm
 simp at h;subst h;rfl
theorem eU {k n d:Int} {nm:ByteArray} {len:Nat} (h1:k≠1) (h2:k≠2) (h:len≠1):exE k n d nm len=false:=by
 unfold exE;rw[ZZ h1,ZZ h2,Z0 (Or.inl h)]
theorem Zbn {k n d:Int} {nm:ByteArray} {len:Nat} (h1:k≠1) (h2:k≠2) (h:nm≠⟨#[]⟩):exE k n d nm len=false:=by
 unfold exE;rw[ZZ h1,ZZ h2,Z0 (Or.inr (Or.inl h))]
theorem vi (e:PE) (ih:∀e':PE,e'.args.sz<e.args.sz→VL e'):VL e:=by
 intro w ad cap hae
 obtain⟨k,nm,n,d,args,a⟩:=e
 have hlen:=hae.len
 have hnm:=hae.nums.2.2.2.2
 simp only at hlen hnm
 have HAE:=hid hae
 have HIH:=hid ih
 clear hae ih
 unfold ev
 simp only
 obtain⟨fin,hfin⟩:∃fin,YF ⟨k,nm,n,d,args,a⟩=fin:=⟨_,rfl⟩
 rw[hfin]
 have HF:=hid (show(exR args&&exE k n d nm args.len)=fin from hfin)
 clear hfin
 go_enter Tryz.func35,Tryz.ntmps35
 go_wp2
 go_loopw [3] (fun v3 wr=>Hid (Zca w ⟨k,nm,n,d,args,a⟩ ad cap v3 wr)) (fun i _=>args.len-(intOf i).toNat)
 case atStart=>exact⟨0,args,rfl,(Rest.start HAE.out.args).below bq,rfl,Yt w _,bq⟩
 obtain⟨i,rest,rfl,hrest,hsz,hbox,hbel⟩:=hrel.out
 clear hrel
 obtain⟨⟨x0,x1,x2,x3,x4,x5⟩,xf⟩:=Y0 hbox
 have HBOX:=hid hbox
 have HBEL:=hid hbel
 have hil:=hrest.1
 simp only at hil
 have hbl:=Zb hbox
 have hsB:=hbel.size
 have HR:=hid hrest
 clear hbox hbel hrest
 cases rest with
 | cons k1 nm1 n1 d1 args1 a1 tl =>
  have HSZ:=hid hsz
  clear hsz
  have hil':(i:Int)<(args.len:Int):=by simp only[PL.len] at hil;omega
  obtain⟨b,o,rfl,hb,h0,h1,h2,h3,h5,hn,⟨ad1,cap1,h4,hcap1,hcm1,hd1⟩,ht⟩:=HR.out.2.2.resolve_left (by intro h;cases h)
  have hsub:=HR.out.2.1
  simp only[PL.sz] at hsub
  have HC:=hid (HIH.out ⟨k1,nm1,n1,d1,args1,a1⟩ (by show args1.sz<args.sz;omega) wr ad1 cap1 ⟨hn,⟨hcap1,hcm1⟩,hd1⟩)
  unfold ev at HC
  simp only at HC
  cases hbb:YF ⟨k1,nm1,n1,d1,args1,a1⟩ with
  | true =>
   rw[hbb] at HC
   have HS2:=hid (show exR tl=exR args from by
    have h:=HSZ.out
    rw[exR,show(exR args1&&exE k1 n1 d1 nm1 args1.len)=true from hbb,Bool.true_and] at h
    exact h)
   clear hbb ht hn hd1
   go_wp2_with (go_at_call 35;refine HC.out.mono ?_;rintro e w2 ⟨rfl,hb2⟩)
   go_roundw
   case rel=>exact⟨i+1,tl,by go_num,HR.out.tail.below hb2,HS2.out,(hb2.block _ hbl).trans HBOX.out,bq⟩
   simp[intOf];omega
  | false =>
   rw[hbb] at HC
   have HS2:=hid (show exR args=false from by
    have h:=HSZ.out
    rw[exR,show(exR args1&&exE k1 n1 d1 nm1 args1.len)=false from hbb,Bool.false_and] at h
    exact h.symm)
   clear hbb ht hn hd1
   go_wp2_with (go_at_call 35;refine HC.out.mono ?_;rintro e w2 ⟨rfl,hb2⟩)
   go_ret
   exact⟨Yz (by rw[←HF.out,HS2.out];rfl),bq⟩
 | nil =>
  obtain rfl:i=args.len:=by simp only[PL.len] at hil;omega
  have HSZ:=hid (show true=exR args from hsz)
  have HRI:=hid (fun w=>XJ nm w hnm)
  have HN1:=hid (fun w=>Xq n 1 100 w)
  have HN2:=hid (fun w=>Xq n 0 100 w)
  have HN3:=hid (fun w=>Xq n (-1000000000) 1000000000 w)
  have HD1:=hid (fun w=>Xq d 1 100 w)
  clear hsz hil
  obtain⟨wo,rfl⟩:∃wo:World,wo=wr:=⟨_,rfl⟩
  obtain⟨pl,hpl⟩:∃pl,decide (n=0∧d=0)=pl:=⟨_,rfl⟩
  go_upto_region 6 with fail
  go_cut [4] (fun s4 W=>Hid (s4=.bool pl∧W=wo))
  case first =>
   by_cases hn0:n=0
   ·by_cases hd0:d=0
    ·obtain rfl:pl=true:=hpl.symm.trans (ZY ⟨hn0,hd0⟩)
     subst hn0
     subst hd0
     go_wp2_with fail
     go_meet
     exact hid ⟨rfl,rfl⟩
    obtain rfl:pl=false:=hpl.symm.trans (ZX (fun h=>hd0 h.2))
    have hd1:(d == 0)=false:=ZW.2 hd0
    subst hn0
    go_wp2_with fail
    go_meet
    exact hid ⟨rfl,rfl⟩
   obtain rfl:pl=false:=hpl.symm.trans (ZX (fun h=>hn0 h.1))
   have hn1:(n == 0)=false:=ZW.2 hn0
   go_wp2_with fail
   go_meet
   exact hid ⟨rfl,rfl⟩
  obtain⟨rfl,rfl⟩:=hcut.out
  clear hcut
  have HPL:=hid hpl
  clear hpl
  by_cases hk1:k=1
  ·subst hk1
   cases hno:Xp nm<;>by_cases hl0:args.len=0
   all_goals (rw[hno] at HRI;first|have hl1:((args.len:Int) == 0)=true:=(by rw[beq_iff_eq];omega)|have hl1:((args.len:Int) == 0)=false:=(by rw[ZW];omega))
   all_goals (have HL:=hid hl0;clear hl0;go_wp2_with (first|(go_at_call 30;refine(HRI.out _).mono ?_;rintro e w2 ⟨rfl,hb2⟩;obtain⟨hc2,hf2⟩:=Yx hb2;have HB2:=hid hb2;clear hb2)|(go_at_call 31;(with_reducible refine(HN2.out _).mono ?_);rintro e w2 ⟨rfl,rfl⟩)|(go_at_call 31;(with_reducible refine(HN3.out _).mono ?_);rintro e w2 ⟨rfl,rfl⟩)|(go_at_call 31;(with_reducible refine(HN1.out _).mono ?_);rintro e w2 ⟨rfl,rfl⟩)|(go_at_call 31;(with_reducible refine(HD1.out _).mono ?_);rintro e w2 ⟨rfl,rfl⟩));all_goals (first|(exfalso;have hl_:=HL.out;omega)|(go_ret;exact⟨Yz (by rw[←HF.out,←HSZ.out];first|(rw[←HPL.out];simp[exE,hno,HL.out];done)|simp[exE,hno,HL.out]),bq⟩)))
  have hk1':(k == 1)=false:=ZW.2 hk1
  by_cases hk2:k=2
  ·subst hk2
   cases hno:Xp nm<;>by_cases hl0:1≤args.len<;>by_cases hl6:args.len≤6
   all_goals (rw[hno] at HRI;have HL:=hid (Zh hl0 hl6);first|(have hl1:(1:Int)≤(args.len:Int):=oq)|(have hl1:(args.len:Int)<1:=oq;have hl3:decide ((1:Int)≤(args.len:Int))=false:=(by simpa using hl1)))
   all_goals (first|(have hl2:(args.len:Int)≤6:=oq)|(have hl2:(6:Int)<(args.len:Int):=oq;have hl4:decide ((args.len:Int)≤6)=false:=(by simpa using hl2)))
   all_goals (clear hl0 hl6;go_wp2_with (first|(go_at_call 30;refine(HRI.out _).mono ?_;rintro e w2 ⟨rfl,hb2⟩;obtain⟨hc2,hf2⟩:=Yx hb2;have HB2:=hid hb2;clear hb2)|(go_at_call 31;(with_reducible refine(HN2.out _).mono ?_);rintro e w2 ⟨rfl,rfl⟩)|(go_at_call 31;(with_reducible refine(HN3.out _).mono ?_);rintro e w2 ⟨rfl,rfl⟩)|(go_at_call 31;(with_reducible refine(HN1.out _).mono ?_);rintro e w2 ⟨rfl,rfl⟩)|(go_at_call 31;(with_reducible refine(HD1.out _).mono ?_);rintro e w2 ⟨rfl,rfl⟩));all_goals (first|(exfalso;have hl_:=HL.out;omega)|(go_ret;exact⟨Yz (by rw[←HF.out,←HSZ.out];first|(rw[←HPL.out];simp[exE,hno,HL.out.1,HL.out.2];done)|simp[exE,hno,HL.out.1,HL.out.2]),bq⟩)))
  have hk2':(k == 2)=false:=ZW.2 hk2
  by_cases hl0:args.len=1
  ·have hl1:((args.len:Int) == 1)=true:=by rw[beq_iff_eq];omega
   have HL:=hid hl0
   clear hl0
   by_cases he:nm=⟨#[]⟩
   ·subst he
    have fin1:∀b:Bool,(if k=3∨k=4 then inB n 1 100 else if k=5 then inB n 0 100&&inB d 1 100 else if k=6∨k=8 then inB n (-1000000000) 1000000000 else decide (k=7)&&decide (n=0))=b→¬(d≠0∧k≠5)→b=fin:=fun b hb hd=>by
     have hc:¬(args.len≠1∨(⟨#[]⟩:ByteArray)≠⟨#[]⟩∨(d≠0∧k≠5)):=fun h=>by
      rcases h with h|h|h
      ·exact h HL.out
      ·exact h rfl
      exact hd h
     rw[←HF.out,←HSZ.out,Bool.true_and]
     unfold exE
     rw[ZZ hk1,ZZ hk2,ZZ hc]
     exact hb.symm
    have FIN:=hid fin1
    clear fin1
    by_cases hk5:k=5
    ·subst hk5
     cases hib:inB n 0 100<;>by_cases hd0:d=0
     all_goals (rw[hib] at HN2;first|have hd1:(d == 0)=false:=ZW.2 hd0|subst hd0)
     all_goals (go_wp2_with (first|(go_at_call 30;refine(HRI.out _).mono ?_;rintro e w2 ⟨rfl,hb2⟩;obtain⟨hc2,hf2⟩:=Yx hb2;have HB2:=hid hb2;clear hb2)|(go_at_call 31;(with_reducible refine(HN2.out _).mono ?_);rintro e w2 ⟨rfl,rfl⟩)|(go_at_call 31;(with_reducible refine(HN3.out _).mono ?_);rintro e w2 ⟨rfl,rfl⟩)|(go_at_call 31;(with_reducible refine(HN1.out _).mono ?_);rintro e w2 ⟨rfl,rfl⟩)|(go_at_call 31;(with_reducible refine(HD1.out _).mono ?_);rintro e w2 ⟨rfl,rfl⟩));all_goals (first|(exfalso;have hl_:=HL.out;omega)|(go_ret;exact⟨Yz (FIN.out _ (by simp[hib]) (by simp)),bq⟩)))
    have hk5':(k == 5)=false:=ZW.2 hk5
    by_cases hd0:d=0
    ·subst hd0
     by_cases hk3:k=3
     ·subst hk3
      go_wp2_with (first|(go_at_call 30;refine(HRI.out _).mono ?_;rintro e w2 ⟨rfl,hb2⟩;obtain⟨hc2,hf2⟩:=Yx hb2;have HB2:=hid hb2;clear hb2)|(go_at_call 31;(with_reducible refine(HN2.out _).mono ?_);rintro e w2 ⟨rfl,rfl⟩)|(go_at_call 31;(with_reducible refine(HN3.out _).mono ?_);rintro e w2 ⟨rfl,rfl⟩)|(go_at_call 31;(with_reducible refine(HN1.out _).mono ?_);rintro e w2 ⟨rfl,rfl⟩)|(go_at_call 31;(with_reducible refine(HD1.out _).mono ?_);rintro e w2 ⟨rfl,rfl⟩))
      all_goals (first|(exfalso;have hl_:=HL.out;omega)|(go_ret;exact⟨Yz (FIN.out _ (by simp) (by simp)),bq⟩))
     have hk3':(k == 3)=false:=ZW.2 hk3
     by_cases hk4:k=4
     ·subst hk4
      go_wp2_with (first|(go_at_call 30;refine(HRI.out _).mono ?_;rintro e w2 ⟨rfl,hb2⟩;obtain⟨hc2,hf2⟩:=Yx hb2;have HB2:=hid hb2;clear hb2)|(go_at_call 31;(with_reducible refine(HN2.out _).mono ?_);rintro e w2 ⟨rfl,rfl⟩)|(go_at_call 31;(with_reducible refine(HN3.out _).mono ?_);rintro e w2 ⟨rfl,rfl⟩)|(go_at_call 31;(with_reducible refine(HN1.out _).mono ?_);rintro e w2 ⟨rfl,rfl⟩)|(go_at_call 31;(with_reducible refine(HD1.out _).mono ?_);rintro e w2 ⟨rfl,rfl⟩))
      all_goals (first|(exfalso;have hl_:=HL.out;omega)|(go_ret;exact⟨Yz (FIN.out _ (by simp) (by simp)),bq⟩))
     have hk4':(k == 4)=false:=ZW.2 hk4
     by_cases hk6:k=6
     ·subst hk6
      go_wp2_with (first|(go_at_call 30;refine(HRI.out _).mono ?_;rintro e w2 ⟨rfl,hb2⟩;obtain⟨hc2,hf2⟩:=Yx hb2;have HB2:=hid hb2;clear hb2)|(go_at_call 31;(with_reducible refine(HN2.out _).mono ?_);rintro e w2 ⟨rfl,rfl⟩)|(go_at_call 31;(with_reducible refine(HN3.out _).mono ?_);rintro e w2 ⟨rfl,rfl⟩)|(go_at_call 31;(with_reducible refine(HN1.out _).mono ?_);rintro e w2 ⟨rfl,rfl⟩)|(go_at_call 31;(with_reducible refine(HD1.out _).mono ?_);rintro e w2 ⟨rfl,rfl⟩))
      all_goals (first|(exfalso;have hl_:=HL.out;omega)|(go_ret;exact⟨Yz (FIN.out _ (by simp) (by simp)),bq⟩))
     have hk6':(k == 6)=false:=ZW.2 hk6
     by_cases hk8:k=8
     ·subst hk8
      go_wp2_with (first|(go_at_call 30;refine(HRI.out _).mono ?_;rintro e w2 ⟨rfl,hb2⟩;obtain⟨hc2,hf2⟩:=Yx hb2;have HB2:=hid hb2;clear hb2)|(go_at_call 31;(with_reducible refine(HN2.out _).mono ?_);rintro e w2 ⟨rfl,rfl⟩)|(go_at_call 31;(with_reducible refine(HN3.out _).mono ?_);rintro e w2 ⟨rfl,rfl⟩)|(go_at_call 31;(with_reducible refine(HN1.out _).mono ?_);rintro e w2 ⟨rfl,rfl⟩)|(go_at_call 31;(with_reducible refine(HD1.out _).mono ?_);rintro e w2 ⟨rfl,rfl⟩))
      all_goals (first|(exfalso;have hl_:=HL.out;omega)|(go_ret;exact⟨Yz (FIN.out _ (by simp) (by simp)),bq⟩))
     have hk8':(k == 8)=false:=ZW.2 hk8
     by_cases hk7:k=7<;>by_cases hn0:n=0
     all_goals (first|have hk7':(k == 7)=false:=ZW.2 hk7|subst hk7)
     all_goals (first|have hn1:(n == 0)=false:=ZW.2 hn0|subst hn0)
     all_goals (go_wp2_with (first|(go_at_call 30;refine(HRI.out _).mono ?_;rintro e w2 ⟨rfl,hb2⟩;obtain⟨hc2,hf2⟩:=Yx hb2;have HB2:=hid hb2;clear hb2)|(go_at_call 31;(with_reducible refine(HN2.out _).mono ?_);rintro e w2 ⟨rfl,rfl⟩)|(go_at_call 31;(with_reducible refine(HN3.out _).mono ?_);rintro e w2 ⟨rfl,rfl⟩)|(go_at_call 31;(with_reducible refine(HN1.out _).mono ?_);rintro e w2 ⟨rfl,rfl⟩)|(go_at_call 31;(with_reducible refine(HD1.out _).mono ?_);rintro e w2 ⟨rfl,rfl⟩));all_goals (first|(exfalso;have hl_:=HL.out;omega)|(exfalso;rename_i hx;have hx_:=eq_of_beq hx;omega)|(go_ret;exact⟨Yz (FIN.out _ (by simp[*]) (by simp)),bq⟩)))
    have hd1:(d == 0)=false:=ZW.2 hd0
    have hd2:(d != 0)=true:=bne_iff_ne.2 hd0
    have hk52:(k != 5)=true:=bne_iff_ne.2 hk5
    go_wp2_with (first|(go_at_call 30;refine(HRI.out _).mono ?_;rintro e w2 ⟨rfl,hb2⟩;obtain⟨hc2,hf2⟩:=Yx hb2;have HB2:=hid hb2;clear hb2)|(go_at_call 31;(with_reducible refine(HN2.out _).mono ?_);rintro e w2 ⟨rfl,rfl⟩)|(go_at_call 31;(with_reducible refine(HN3.out _).mono ?_);rintro e w2 ⟨rfl,rfl⟩)|(go_at_call 31;(with_reducible refine(HN1.out _).mono ?_);rintro e w2 ⟨rfl,rfl⟩)|(go_at_call 31;(with_reducible refine(HD1.out _).mono ?_);rintro e w2 ⟨rfl,rfl⟩))
    all_goals (first|(exfalso;have hl_:=HL.out;omega)|(go_ret;exact⟨Yz (by rw[←HF.out,←HSZ.out];simp[exE,hk1,hk2,hd0,hk5]),bq⟩))
   have he0:nm.data.toList≠[]:=Zad he
   have he1:nm.toList.isEmpty=false:=by rw[Lib.toList_data];simpa using he0
   have he2:¬nm.toList=[]:=by rw[Lib.toList_data];exact he0
   have HE:=hid he
   clear he he0
   go_wp2_with (first|(go_at_call 30;refine(HRI.out _).mono ?_;rintro e w2 ⟨rfl,hb2⟩;obtain⟨hc2,hf2⟩:=Yx hb2;have HB2:=hid hb2;clear hb2)|(go_at_call 31;(with_reducible refine(HN2.out _).mono ?_);rintro e w2 ⟨rfl,rfl⟩)|(go_at_call 31;(with_reducible refine(HN3.out _).mono ?_);rintro e w2 ⟨rfl,rfl⟩)|(go_at_call 31;(with_reducible refine(HN1.out _).mono ?_);rintro e w2 ⟨rfl,rfl⟩)|(go_at_call 31;(with_reducible refine(HD1.out _).mono ?_);rintro e w2 ⟨rfl,rfl⟩))
   all_goals (first|(exfalso;have hl_:=HL.out;omega)|(go_ret;exact⟨Yz (by rw[←HF.out,←HSZ.out];rw[Zbn hk1 hk2 HE.out];rfl),bq⟩))
  have hl1:((args.len:Int) == 1)=false:=by rw[ZW];omega
  have HL:=hid hl0
  clear hl0
  go_wp2_with (first|(go_at_call 30;refine(HRI.out _).mono ?_;rintro e w2 ⟨rfl,hb2⟩;obtain⟨hc2,hf2⟩:=Yx hb2;have HB2:=hid hb2;clear hb2)|(go_at_call 31;(with_reducible refine(HN2.out _).mono ?_);rintro e w2 ⟨rfl,rfl⟩)|(go_at_call 31;(with_reducible refine(HN3.out _).mono ?_);rintro e w2 ⟨rfl,rfl⟩)|(go_at_call 31;(with_reducible refine(HN1.out _).mono ?_);rintro e w2 ⟨rfl,rfl⟩)|(go_at_call 31;(with_reducible refine(HD1.out _).mono ?_);rintro e w2 ⟨rfl,rfl⟩))
  all_goals (first|(exfalso;have hl_:=HL.out;omega)|(go_ret;exact⟨Yz (by rw[←HF.out,←HSZ.out];rw[eU hk1 hk2 HL.out];rfl),bq⟩))
theorem kp (e:PE):VL e:=by
 suffices h:∀(N:Nat) (e:PE),e.args.sz<N→VL e from h _ e (ZU _)
 intro N
 induction N with
 | zero=>intro e h;omega
 | succ N ih=>intro e h;exact vi e (fun e' h'=>ih e' oq)
end Go.Proofs.YtlhlcdjiafdoeaaGreatDoor.syn
