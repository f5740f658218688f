/-
  Parts of the proof: Rgt4, Dts, DlQ, Dl4.
-/
import Derived.StillTailTactics
import Derived.Test.YtgigilkpndhddaaGreatDoorQ03
import Derived.Test.YtgigilkpndhddaaGreatDoorQ06
import Derived.Test.YtgigilkpndhddaaGreatDoorQ09
import Derived.Test.YtgigilkpndhddaaGreatDoorQ28
namespace Go.Proofs.YtgigilkpndhddaaGreatDoor.syn
set_option linter.unusedVariables false
set_option linter.unusedSimpArgs false
set_option linter.unnecessarySimpa false
set_option maxRecDepth 100000
set_option maxHeartbeats 16000000
open Go.RowKit Go.Shelf
def JV (n:Int):Bool:=decide (1≤n∧n≤1000)
def Ke (f:FD) (t:LD):Bool:=JV t.dl&&X0 f t.arg t.per t.ph
def Xj (f:FD):Bool:=f.ins.all (fun c=>clock.Yz c.1 c.2)&&(f.nods.all (fun n=>JV n.bud)&&(f.tasks.all (Jk f)&&(f.tells.all (Ke f)&&decide (f.tasks.length≤30))))
theorem ZbP {f:FD} (h:f.ins.all (fun c=>clock.Yz c.1 c.2)=false):Xj f=false:=by unfold Xj;rw[h];rfl
theorem Zay {f:FD} (h:f.nods.all (fun n=>JV n.bud)=false):Xj f=false:=by unfold Xj;rw[h,Bool.false_and,Bool.and_false]
theorem Zaf {f:FD} (h:f.tasks.all (Jk f)=false):Xj f=false:=by unfold Xj;rw[h,Bool.false_and,Bool.and_false,Bool.and_false]
theorem xe {f:FD} (h:f.tells.all (Ke f)=false):Xj f=false:=by unfold Xj;rw[h,Bool.false_and,Bool.and_false,Bool.and_false,Bool.and_false]
theorem Zcy {f:FD} (h1:f.ins.all (fun c=>clock.Yz c.1 c.2)=true) (h2:f.nods.all (fun n=>JV n.bud)=true) (h3:f.tasks.all (Jk f)=true) (h4:f.tells.all (Ke f)=true):Xj f=decide (f.tasks.length≤30):=by
 unfold Xj;rw[h1,h2,h3,h4,Bool.true_and,Bool.true_and,Bool.true_and,Bool.true_and]
theorem GR {α:Type} {p:α→Bool} {l:List α} {i:Nat} (hi:i<l.length) {x:α} (hx:l[i]=x) (h:p x=false):l.all p=false:=by
 refine Bool.eq_false_iff.2 (fun h2=>?_)
 have:=List.all_eq_true.1 h2 _ (Zi hi)
 rw[hx,h] at this
 cases this
theorem VT {α:Type} {p:α→Bool} {l:List α} {i:Nat} (hi:i<l.length) {x:α} (hx:l[i]=x) (h:p x=true) (ht:(l.take i).all p=true):(l.take (i+1)).all p=true:=by
 rw[EK hi,ht,hx,h];rfl
theorem zv (p q:Int) (w:World):Calls Tryz.prog 58 #[.agg #[.int .i64 p,.int .i64 q]] w fun e w'=>e=.returned (.bool (clock.Yz p q))∧Below w.heap.size w w':=by
 by_cases h:1≤p∧p≤2000∧0≤q∧q≤2000
 ·rw[clock.XL h];exact clock.Y4 p q w h
 rw[clock.V2 h];exact clock.QL p q w h
theorem Vn {w:World} (f:FD) (ai an aT al:Option Addr) (ci cn ct cl:Nat) (hf:FAP w f ai an aT al) :
  Calls Tryz.prog 21 #[fv f ai an aT al ci cn ct cl] w fun x w'=>x=.returned (.bool (Xj f))∧Below w.heap.size w w':=by
 have hlens:=hf.lens
 have HCO:=hid (fun(w':World) (hb:Below w.heap.size w w') (a:AD) ad2 cap2 cp cf (hra:Row OpR 3 w' a.ops ad2) (h1:a.ops.length≤1000∧I64 a.src)=>EH (w:=w') f ai an aT al ci cn ct cl (hf.below hb) a ad2 cap2 cp cf h1.2 hra h1.1)
 have HRT:=hid (fun(w':World) (hb:Below w.heap.size w w') (t:TD) ad2 cap2 (hr:Row qb 2 w' t.args ad2) (ha:t.args.length≤1000∧∀a∈t.args,a.ops.length≤1000∧I64 a.src)=>GZ (w:=w') f ai an aT al ci cn ct cl (hf.below hb) t ad2 cap2 hr ha.1 ha.2)
 have HF:=hid hf
 obtain⟨ans,hans⟩:∃ans,Xj f=ans:=⟨_,rfl⟩
 rw[hans]
 have HANS:=hid hans
 clear hf hans
 unfold fv at *
 go_enter Tryz.func21,Tryz.ntmps21
 go_upto_region 1 with fail
 obtain⟨W1,hW1⟩:∃W1,w.alloc (.cells #[.slice ai f.ins.length ci,.slice an f.nods.length cn,.slice aT f.tasks.length ct,.slice al f.tells.length cl] 34)=W1:=⟨_,rfl⟩
 rw[hW1]
 have hB:Below w.heap.size w W1:=by rw[←hW1];exact bq
 have hq0:W1.heap[w.heap.size]?=some (.cells #[.slice ai f.ins.length ci,.slice an f.nods.length cn,.slice aT f.tasks.length ct,.slice al f.tells.length cl] 34 (0,0)):=by rw[←hW1];exact Yp w _
 have hl0:=Zb hq0
 obtain⟨⟨x0,x1,x2,x3⟩,xf⟩:=Yq hq0
 have HB:=hid hB
 have HQ0:=hid hq0
 clear hW1 hB hq0
 have HST:=hid (Zg W1.heap.size W1)
 go_wp2
 go_loopw [14] (fun s wr=>Hid (∃i:Nat,s=.int .i64 (i:Int)∧i≤f.ins.length∧(f.ins.take i).all (fun c=>clock.Yz c.1 c.2)=true∧Below W1.heap.size W1 wr)) (fun s _=>f.ins.length-(intOf s).toNat)
 case atStart=>exact⟨0,rfl,Zk _,by simp,HST.out⟩
 obtain⟨i,rfl,hi1,hall,hbw⟩:=hrel.out
 clear hrel x0 x1 x2 x3 xf
 have hzw:=hbw.size
 have HBW:=hid hbw
 have HALL:=hid hall
 have HWW:=hid (HB.out.trans (hbw.mono oq))
 obtain⟨⟨x0,x1,x2,x3⟩,xf⟩:=Yq ((hbw.block _ hl0).trans HQ0.out)
 have hj0:w.heap.size<wr.heap.size:=oq
 clear hall hbw
 by_cases hlt:i<f.ins.length
 ·have hil:(i:Int)<(f.ins.length:Int):=oq
  have hi0:(0:Int)≤(i:Int):=oq
  obtain⟨bb,oo,rfl,hbb0,g0,g1⟩:=HF.out.ins.at hlt
  obtain⟨⟨cp,cf⟩,hai⟩:∃a,f.ins[i]=a:=⟨_,rfl⟩
  rw[hai] at g0 g1
  simp only at g0 g1
  have y0:=(HWW.out.cell (p:=⟨bb,oo+i*2,none⟩) hbb0).trans g0
  have y1:=(HWW.out.cell (p:=⟨bb,oo+i*2+1,none⟩) hbb0).trans g1
  have HAI:=hid hai
  have HC:=hid (fun w'=>zv cp cf w')
  cases hfit:clock.Yz cp cf with
  | true =>
   rw[hfit] at HC
   have HK:=hid (VT (p:=(fun c=>clock.Yz c.1 c.2)) hlt hai hfit HALL.out)
   clear g0 g1 hai hfit
   go_wp2_with (go_at_call 58;refine(HC.out _).mono ?_;rintro x w6 ⟨rfl,hb6⟩)
   exact⟨hid ⟨i+1,by go_num,hlt,HK.out,bq⟩,by simp[intOf];omega⟩
  | false =>
   rw[hfit] at HC
   obtain rfl:ans=false:=HANS.out.symm.trans (ZbP (GR (p:=(fun c=>clock.Yz c.1 c.2)) hlt hai hfit))
   clear g0 g1 hai hfit HANS
   go_wp2_with (go_at_call 58;refine(HC.out _).mono ?_;rintro x w6 ⟨rfl,hb6⟩)
   exact Zl (v:=.bool false) (by simp only[results,Tryz.results21];go_simp) rfl ⟨rfl,bq⟩
 have hil:¬(i:Int)<(f.ins.length:Int):=oq
 have HE1:=hid (show f.ins.all (fun c=>clock.Yz c.1 c.2)=true by rw[←HALL.out,List.take_of_length_le oq])
 obtain⟨W2,rfl⟩:∃W2:World,W2=wr:=⟨_,rfl⟩
 have HST1:=hid HBW.out
 clear HBW HALL HWW
 go_wp2
 go_loopw [25] (fun s wr=>Hid (∃i:Nat,s=.int .i64 (i:Int)∧i≤f.nods.length∧(f.nods.take i).all (fun n=>JV n.bud)=true∧Below W1.heap.size W1 wr)) (fun s _=>f.nods.length-(intOf s).toNat)
 case atStart=>exact⟨0,rfl,Zk _,by simp,HST1.out⟩
 obtain⟨i,rfl,hi2,hall,hbw⟩:=hrel.out
 clear hrel x0 x1 x2 x3 xf
 have hzw:=hbw.size
 have HBW:=hid hbw
 have HALL:=hid hall
 have HWW:=hid (HB.out.trans (hbw.mono oq))
 obtain⟨⟨x0,x1,x2,x3⟩,xf⟩:=Yq ((hbw.block _ hl0).trans HQ0.out)
 have hj0:w.heap.size<wr.heap.size:=oq
 clear hall hbw
 by_cases hlt:i<f.nods.length
 ·have hil:(i:Int)<(f.nods.length:Int):=oq
  have hi0:(0:Int)≤(i:Int):=oq
  obtain⟨bb,oo,rfl,hbb0,nm,pa,pc,k9,nm2,n2,d2,ea,el,ec,a2,a9,g0,g1,g2,g3,g4,g5,g6,g7,g8,g9⟩:=HF.out.nods.at hlt
  obtain⟨⟨bud,np⟩,hai⟩:∃a,f.nods[i]=a:=⟨_,rfl⟩
  rw[hai] at g1 g2
  simp only at g1 g2
  have y0:=(HWW.out.cell (p:=⟨bb,oo+i*10,none⟩) hbb0).trans g0
  have y1:=(HWW.out.cell (p:=⟨bb,oo+i*10+1,none⟩) hbb0).trans g1
  have y2:=(HWW.out.cell (p:=⟨bb,oo+i*10+2,none⟩) hbb0).trans g2
  have y3:=(HWW.out.cell (p:=⟨bb,oo+i*10+3,none⟩) hbb0).trans g3
  have y4:=(HWW.out.cell (p:=⟨bb,oo+i*10+4,none⟩) hbb0).trans g4
  have y5:=(HWW.out.cell (p:=⟨bb,oo+i*10+5,none⟩) hbb0).trans g5
  have y6:=(HWW.out.cell (p:=⟨bb,oo+i*10+6,none⟩) hbb0).trans g6
  have y7:=(HWW.out.cell (p:=⟨bb,oo+i*10+7,none⟩) hbb0).trans g7
  have y8:=(HWW.out.cell (p:=⟨bb,oo+i*10+8,none⟩) hbb0).trans g8
  have y9:=(HWW.out.cell (p:=⟨bb,oo+i*10+9,none⟩) hbb0).trans g9
  have HAI:=hid hai
  have HC:=hid (fun w'=>Er (w:=w') bud)
  cases hfit:JV bud with
  | true =>
   rw[show decide (1≤bud∧bud≤1000)=true from hfit] at HC
   have HK:=hid (VT (p:=(fun n=>JV n.bud)) hlt hai hfit HALL.out)
   clear g0 g1 g2 g3 g4 g5 g6 g7 g8 g9 hai hfit
   go_wp2_with (go_at_call 59;refine(HC.out _).mono ?_;rintro x w6 ⟨rfl,rfl⟩)
   exact⟨hid ⟨i+1,by go_num,hlt,HK.out,bq⟩,by simp[intOf];omega⟩
  | false =>
   rw[show decide (1≤bud∧bud≤1000)=false from hfit] at HC
   obtain rfl:ans=false:=HANS.out.symm.trans (Zay (GR (p:=(fun n=>JV n.bud)) hlt hai hfit))
   clear g0 g1 g2 g3 g4 g5 g6 g7 g8 g9 hai hfit HANS
   go_wp2_with (go_at_call 59;refine(HC.out _).mono ?_;rintro x w6 ⟨rfl,rfl⟩)
   exact Zl (v:=.bool false) (by simp only[results,Tryz.results21];go_simp) rfl ⟨rfl,bq⟩
 have hil:¬(i:Int)<(f.nods.length:Int):=oq
 have HE2:=hid (show f.nods.all (fun n=>JV n.bud)=true by rw[←HALL.out,List.take_of_length_le oq])
 obtain⟨W3,rfl⟩:∃W3:World,W3=wr:=⟨_,rfl⟩
 have HST2:=hid HBW.out
 clear HBW HALL HWW
 go_wp2
 go_loopw [37] (fun s wr=>Hid (∃i:Nat,s=.int .i64 (i:Int)∧i≤f.tasks.length∧(f.tasks.take i).all (Jk f)=true∧Below W1.heap.size W1 wr)) (fun s _=>f.tasks.length-(intOf s).toNat)
 case atStart=>exact⟨0,rfl,Zk _,by simp,HST2.out⟩
 obtain⟨i,rfl,hi3,hall,hbw⟩:=hrel.out
 clear hrel x0 x1 x2 x3 xf
 have hzw:=hbw.size
 have HBW:=hid hbw
 have HALL:=hid hall
 have HWW:=hid (HB.out.trans (hbw.mono oq))
 obtain⟨⟨x0,x1,x2,x3⟩,xf⟩:=Yq ((hbw.block _ hl0).trans HQ0.out)
 have hj0:w.heap.size<wr.heap.size:=oq
 clear hall hbw
 by_cases hlt:i<f.tasks.length
 ·have hil:(i:Int)<(f.tasks.length:Int):=oq
  have hi0:(0:Int)≤(i:Int):=oq
  obtain⟨bb,oo,rfl,hbb0,g0,g1,g2,ad2,cap2,g3,hro⟩:=HF.out.tasks.at hlt
  have hA:=HF.out.args _ (Zi hlt)
  obtain⟨⟨nd,per,ph,args⟩,hai⟩:∃a,f.tasks[i]=a:=⟨_,rfl⟩
  rw[hai] at g0 g1 g2 g3 hro hA
  simp only at g0 g1 g2 g3 hro hA
  have y0:=(HWW.out.cell (p:=⟨bb,oo+i*4,none⟩) hbb0).trans g0
  have y1:=(HWW.out.cell (p:=⟨bb,oo+i*4+1,none⟩) hbb0).trans g1
  have y2:=(HWW.out.cell (p:=⟨bb,oo+i*4+2,none⟩) hbb0).trans g2
  have y3:=(HWW.out.cell (p:=⟨bb,oo+i*4+3,none⟩) hbb0).trans g3
  have HAI:=hid hai
  have hHC:=fun(w':World) (hb:Below w.heap.size w w')=>HRT.out w' hb ⟨nd,per,ph,args⟩ ad2 cap2 (hro.below jf hb) hA
  cases hfit:Jk f ⟨nd,per,ph,args⟩ with
  | true =>
   rw[hfit] at hHC
   have HC:=hid hHC
   have HK:=hid (VT (p:=(Jk f)) hlt hai hfit HALL.out)
   clear g0 g1 g2 g3 hro hA hai hfit hHC
   go_wp2_with (go_at_call 60;refine(HC.out _ bq).mono ?_;rintro x w6 ⟨rfl,hb6⟩)
   exact⟨hid ⟨i+1,by go_num,hlt,HK.out,bq⟩,by simp[intOf];omega⟩
  | false =>
   rw[hfit] at hHC
   have HC:=hid hHC
   obtain rfl:ans=false:=HANS.out.symm.trans (Zaf (GR (p:=(Jk f)) hlt hai hfit))
   clear g0 g1 g2 g3 hro hA hai hfit hHC HANS
   go_wp2_with (go_at_call 60;refine(HC.out _ bq).mono ?_;rintro x w6 ⟨rfl,hb6⟩)
   exact Zl (v:=.bool false) (by simp only[results,Tryz.results21];go_simp) rfl ⟨rfl,bq⟩
 have hil:¬(i:Int)<(f.tasks.length:Int):=oq
 have HE3:=hid (show f.tasks.all (Jk f)=true by rw[←HALL.out,List.take_of_length_le oq])
 obtain⟨W4,rfl⟩:∃W4:World,W4=wr:=⟨_,rfl⟩
 have HST3:=hid HBW.out
 clear HBW HALL HWW
 go_wp2
 go_loopw [49] (fun s wr=>Hid (∃i:Nat,s=.int .i64 (i:Int)∧i≤f.tells.length∧(f.tells.take i).all (Ke f)=true∧Below W1.heap.size W1 wr)) (fun s _=>f.tells.length-(intOf s).toNat)
 case atStart=>exact⟨0,rfl,Zk _,by simp,HST3.out⟩
 obtain⟨i,rfl,hi4,hall,hbw⟩:=hrel.out
 clear hrel x0 x1 x2 x3 xf
 have hzw:=hbw.size
 have HBW:=hid hbw
 have HALL:=hid hall
 have HWW:=hid (HB.out.trans (hbw.mono oq))
 obtain⟨⟨x0,x1,x2,x3⟩,xf⟩:=Yq ((hbw.block _ hl0).trans HQ0.out)
 have hj0:w.heap.size<wr.heap.size:=oq
 clear hall hbw
 by_cases hlt:i<f.tells.length
 ·have hil:(i:Int)<(f.tells.length:Int):=oq
  have hi0:(0:Int)≤(i:Int):=oq
  obtain⟨bb,oo,rfl,hbb0,g0,g1,g2,g4,ad2,cap2,g3,hro⟩:=HF.out.tells.at hlt
  have hA:=HF.out.tops _ (Zi hlt)
  obtain⟨⟨per,ph,⟨src,ops⟩,dl⟩,hai⟩:∃a,f.tells[i]=a:=⟨_,rfl⟩
  rw[hai] at g0 g1 g2 g3 g4 hro hA
  simp only at g0 g1 g2 g3 g4 hro hA
  have y0:=(HWW.out.cell (p:=⟨bb,oo+i*5,none⟩) hbb0).trans g0
  have y1:=(HWW.out.cell (p:=⟨bb,oo+i*5+1,none⟩) hbb0).trans g1
  have y2:=(HWW.out.cell (p:=⟨bb,oo+i*5+2,none⟩) hbb0).trans g2
  have y3:=(HWW.out.cell (p:=⟨bb,oo+i*5+3,none⟩) hbb0).trans g3
  have y4:=(HWW.out.cell (p:=⟨bb,oo+i*5+4,none⟩) hbb0).trans g4
  have HAI:=hid hai
  have hHC:=fun(w':World) (hb:Below w.heap.size w w')=>HCO.out w' hb ⟨src,ops⟩ ad2 cap2 per ph (hro.below Uf hb) hA
  have HT:=hid (fun w'=>Er (w:=w') dl)
  cases htk:JV dl with
  | false =>
   rw[show decide (1≤dl∧dl≤1000)=false from htk] at HT
   obtain rfl:ans=false:=HANS.out.symm.trans (xe (GR (p:=(Ke f)) hlt hai (by unfold Ke;rw[htk];rfl)))
   clear g0 g1 g2 g3 g4 hro hA hai htk hHC HANS
   go_wp2_with (go_at_call 59;refine(HT.out _).mono ?_;rintro x w5 ⟨rfl,rfl⟩)
   exact Zl (v:=.bool false) (by simp only[results,Tryz.results21];go_simp) rfl ⟨rfl,bq⟩
  | true =>
   rw[show decide (1≤dl∧dl≤1000)=true from htk] at HT
   cases hfit:X0 f ⟨src,ops⟩ per ph with
   | true =>
    rw[hfit] at hHC
    have HC:=hid hHC
    have HK:=hid (VT (p:=(Ke f)) hlt hai (by unfold Ke;rw[htk];exact hfit) HALL.out)
    clear g0 g1 g2 g3 g4 hro hA hai htk hHC hfit
    go_wp2_with (first|(go_at_call 59;refine(HT.out _).mono ?_;rintro x w5 ⟨rfl,rfl⟩)|(go_at_call 61;refine(HC.out _ bq).mono ?_;rintro x w6 ⟨rfl,hb6⟩))
    exact⟨hid ⟨i+1,by go_num,hlt,HK.out,bq⟩,by simp[intOf];omega⟩
   | false =>
    rw[hfit] at hHC
    have HC:=hid hHC
    obtain rfl:ans=false:=HANS.out.symm.trans (xe (GR (p:=(Ke f)) hlt hai (by unfold Ke;rw[htk];exact hfit)))
    clear g0 g1 g2 g3 g4 hro hA hai htk hHC hfit HANS
    go_wp2_with (first|(go_at_call 59;refine(HT.out _).mono ?_;rintro x w5 ⟨rfl,rfl⟩)|(go_at_call 61;refine(HC.out _ bq).mono ?_;rintro x w6 ⟨rfl,hb6⟩))
    exact Zl (v:=.bool false) (by simp only[results,Tryz.results21];go_simp) rfl ⟨rfl,bq⟩
 have hil:¬(i:Int)<(f.tells.length:Int):=oq
 have HE4:=hid (show f.tells.all (Ke f)=true by rw[←HALL.out,List.take_of_length_le oq])
 have hend:=HANS.out.symm.trans (Zcy HE1.out HE2.out HE3.out HE4.out)
 by_cases h30:f.tasks.length≤30
 ·have h30d:(f.tasks.length:Int)≤30:=oq
  obtain rfl:ans=true:=by rw[hend,Z0 h30]
  clear hend HANS
  go_wp2
  exact Zl (v:=.bool true) (by simp only[results,Tryz.results21];go_simp) rfl ⟨rfl,bq⟩
 have h30d:¬(f.tasks.length:Int)≤30:=oq
 obtain rfl:ans=false:=by rw[hend,ZZ h30]
 clear hend HANS
 go_wp2
 exact Zl (v:=.bool false) (by simp only[results,Tryz.results21];go_simp) rfl ⟨rfl,bq⟩
open Go.RowKit index clock
theorem em:∀(l:List Op3) (n:Int),l.any Y5=false→0≤n→n≤1099511627776→(∃m,Xp l n=.ok m∧0≤m∧m≤1099511627776)∨(∃N,Xp l n=.error (0,N,2))∨Xp l n=.error (0,0,0):=by
 intro l
 induction l with
 | nil=>intro n _ h0 h1;exact .inl ⟨n,rfl,h0,h1⟩
 | cons o l ih =>
  intro n hw h0 h1
  rw[List.any_cons,Bool.or_eq_false_iff] at hw
  rw[Xp]
  by_cases hb:n=0∧XD o=true
  ·have:Xq o n=.error (0,o.2.1,2):=by unfold Xq;exact Z2 hb
   rw[this];exact .inr (.inl ⟨_,rfl⟩)
  cases hs:XF o n with
  | none =>
   have:Xq o n=.error (0,0,0):=by unfold Xq;rw[Z1 hb,hs]
   rw[this];exact .inr (.inr rfl)
  | some t =>
   have:Xq o n=.ok t:=by unfold Xq;rw[Z1 hb,hs]
   rw[this]
   have ht:=KN hw.1 h0 h1 hb hs
   exact ih t hw.2 ht.1 ht.2
theorem uW:∀(p q:List Op3) (n:Int),Xp (p++q) n=match Xp p n with|.ok t=>Xp q t|.error e=>.error e:=by
 intro p
 induction p with
 | nil=>intro q n;rfl
 | cons x p ih =>
  intro q n
  simp only[ZC,Xp]
  cases Xq x n with
  | ok t=>exact ih q t
  | error e=>rfl
theorem JJ {p f k n d p1 f1:Int} (h:Yx p f k n d=(p1,f1,0)):Yz p f=true∧Yz p1 f1=true∧Jd k n d=true∧3≤k∧k≤8:=by
 unfold Yx at h
 split at h
 ·simp only[Z4] at h;omega
 rename_i h0
 have hR:Yz p f=true:=by cases hr:Yz p f with|true=>rfl|false=>exact absurd (Or.inl hr) h0
 have hk:3≤k∧k≤8:=by
  constructor
  ·exact Int.not_lt.1 (fun hc=>h0 (Or.inr (Or.inl hc)))
  exact Int.not_lt.1 (fun hc=>h0 (Or.inr (Or.inr hc)))
 split at h
 ·simp only[Z4] at h;omega
 rename_i hf
 have hF:Jd k n d=true:=by cases hr:Jd k n d with|true=>rfl|false=>exact absurd hr hf
 refine⟨hR,?_,hF,hk.1,hk.2⟩
 have hr:=Xd.1 hR
 have hfa:=Yi (show decide _=true from hF)
 refine Xd.2 ?_
 split at h
 ·rename_i h3
  split at h
  ·rename_i hz
   simp only[Z4] at h
   obtain⟨rfl,rfl,_⟩:=h
   have hn:=hfa.1 (Or.inl h3)
   have e:=Int.ediv_mul_cancel (Int.dvd_of_emod_eq_zero hz)
   have hq:1≤p/n:=by
    apply Yh;intro hc
    have:=Int.mul_le_mul_of_nonneg_right (show p/n≤0 by omega) (show 0≤n by omega)
    omega
   have hq2:p/n≤p:=Int.ediv_le_self n oq
   omega
  simp only[Z4] at h;omega
 split at h
 ·rename_i h4
  split at h
  ·rename_i hz
   simp only[Z4] at h
   obtain⟨rfl,rfl,_⟩:=h
   have hn:=hfa.1 (Or.inr h4)
   have:p*1≤p*n:=Int.mul_le_mul_of_nonneg_left hn.1 oq
   omega
  simp only[Z4] at h;omega
 split at h
 ·rename_i h5
  split at h
  ·unfold fin at h
   have hn:=hfa.2 h5
   have:=Int.ediv_nonneg (Int.mul_nonneg (show 0≤p by omega) hn.2.2.1) (show 0≤d by omega)
   split at h<;>(simp only[Z4] at h;omega)
  simp only[Z4] at h;omega
 split at h
 ·simp only[Z4] at h;omega
 split at h
 ·unfold fin at h
  split at h<;>(simp only[Z4] at h;omega)
 split at h<;>(simp only[Z4] at h;omega)
theorem ui {p f k N d p1 f1 t i:Int} (h:Yx p f k N d=(p1,f1,0)) (hs:Xq (k,N,d) t=.ok i) :
  f+i*p≤f1+t*p1∧(YR (k,N,d)=true→f+i*p<f1+t*p1):=by
 obtain⟨hR,hR1,hF,hk3,hk8⟩:=JJ h
 have hr:=Xd.1 hR
 have hfa:=Yi (show decide _=true from hF)
 have hst:XF (k,N,d) t=some i:=by
  unfold Xq at hs
  split at hs
  ·cases hs
  cases hx:XF (k,N,d) t with
  | none=>rw[hx] at hs;cases hs
  | some x=>rw[hx] at hs;injection hs with hs;rw[hs]
 unfold Yx at h
 rw[Z1 (by rw[hR];simp;omega),Z1 (by rw[hF];simp)] at h
 unfold XF at hst
 simp only at hst
 have kk:k=3∨k=4∨k=5∨k=6∨k=7∨k=8:=oq
 rcases kk with rfl|rfl|rfl|rfl|rfl|rfl
 ·simp only[Z2] at h hst
  injection hst with hst
  subst hst
  split at h
  ·rename_i hz
   simp only[Z4] at h
   obtain⟨rfl,rfl,_⟩:=h
   have hn:=hfa.1 (Or.inl rfl)
   have e:=Int.ediv_mul_cancel (Int.dvd_of_emod_eq_zero hz)
   have q0:0≤p/N:=Int.ediv_nonneg oq oq
   have i1:t/N*N≤t:=Int.ediv_mul_le t oq
   have:t/N*N*(p/N)≤t*(p/N):=Int.mul_le_mul_of_nonneg_right i1 q0
   have e2:t/N*p=t/N*N*(p/N):=by rw[Int.mul_assoc,Int.mul_comm N,e]
   refine⟨oq,fun hd=>?_⟩
   simp[YR] at hd
  simp only[Z4] at h;omega
 ·simp only[Z2,Z1 (show ¬(4:Int)=3 by decide)] at h hst
  split at h
  ·rename_i hz
   split at hst
   ·injection hst with hst
    subst hst
    simp only[Z4] at h
    obtain⟨rfl,rfl,_⟩:=h
    have e:t*N*p=t*(p*N):=by rw[Int.mul_assoc,Int.mul_comm N]
    refine⟨oq,fun hd=>?_⟩
    simp[YR] at hd
   cases hst
  simp only[Z4] at h;omega
 ·simp at h hst
  subst hst
  split at h
  ·rename_i hz
   have hn:=hfa.2 rfl
   have q0:=Int.ediv_nonneg (Int.mul_nonneg (show 0≤p by omega) hn.2.2.1) (show 0≤d by omega)
   unfold fin at h
   split at h
   ·simp only[Z4] at h
    obtain⟨rfl,rfl,_⟩:=h
    refine⟨oq,fun hd=>?_⟩
    simp[YR] at hd
    have n1:1≤N:=oq
    have pn:p*1≤p*N:=Int.mul_le_mul_of_nonneg_left n1 oq
    have e:=Int.ediv_mul_cancel (Int.dvd_of_emod_eq_zero hz)
    have hq:1≤p*N/d:=by
     apply Yh;intro hc
     have:=Int.mul_le_mul_of_nonneg_right (show p*N/d≤0 by omega) (show 0≤d by omega)
     omega
    omega
   simp only[Z4] at h;omega
  simp only[Z4] at h;omega
 ·simp at h hst
  subst hst
  obtain⟨rfl,rfl⟩:=h
  have e:(t-1)*p=t*p-p:=by rw[Int.sub_mul,Int.one_mul]
  exact⟨oq,fun _=>oq⟩
 ·simp at h hst
  obtain⟨_,rfl⟩:=hst
  unfold fin at h
  split at h
  ·simp only[Z4] at h
   obtain⟨rfl,rfl,_⟩:=h
   have e:(t+1)*p=t*p+p:=by rw[Int.add_mul,Int.one_mul]
   refine⟨oq,fun hd=>?_⟩
   simp[YR] at hd
  simp only[Z4] at h;omega
 simp at h hst
 subst hst
 split at h
 ·simp only[Z4] at h
  obtain⟨rfl,rfl,_⟩:=h
  have e:(t-1)*p=t*p-p:=by rw[Int.sub_mul,Int.one_mul]
  refine⟨oq,fun hd=>?_⟩
  simp[YR] at hd
 simp only[Z4] at h;omega
theorem vx:∀(l:List Op3) (p f p' f' n i:Int),Yz p f=true→YU p f l=(p',f',0)→Xp l.reverse n=.ok i →
  Yz p' f'=true∧f+i*p≤f'+n*p'∧(l.any YR=true→f+i*p<f'+n*p'):=by
 intro l
 induction l with
 | nil =>
  intro p f p' f' n i hr h hb
  simp only[YU,Z4] at h
  obtain⟨rfl,rfl,_⟩:=h
  simp only[List.reverse_nil,Xp] at hb
  injection hb with hb
  subst hb
  exact⟨hr,Int.le_refl _,fun h=>by simp at h⟩
 | cons o r ih =>
  intro p f p' f' n i hr h hb
  obtain⟨k,N,d⟩:=o
  rw[List.reverse_cons,uW] at hb
  rw[YU] at h
  rcases ha:Yx p f k N d with ⟨p1,f1,e1⟩
  simp only[ha] at h
  split at h
  ·rename_i he
   subst he
   cases hx:Xp r.reverse n with
   | error e=>rw[hx] at hb;cases hb
   | ok t =>
    rw[hx] at hb
    simp only[Xp] at hb
    cases hs:Xq (k,N,d) t with
    | error e=>rw[hs] at hb;cases hb
    | ok i' =>
     rw[hs] at hb
     injection hb with hb
     subst hb
     have h1:=ui ha hs
     have h2:=ih p1 f1 p' f' n t (JJ ha).2.1 h hx
     refine⟨h2.1,oq,fun hd=>?_⟩
     rw[List.any_cons,Bool.or_eq_true] at hd
     rcases hd with hd|hd
     ·have:=h1.2 hd;omega
     have:=h2.2.2 hd;omega
  rename_i he
  simp only[Z4] at h
  exact absurd h.2.2 he
theorem uG {l:List Op3} {n m:Int} {x:Int} (h:Qk l n=(m,x,1)):Xp l.reverse n=.ok m∧0≤m∧m≤1099511627776:=by
 unfold Qk at h
 split at h
 ·cases h
 rename_i hc
 have hw:l.reverse.any Y5=false:=by
  rw[List.any_reverse]
  cases hw:l.any Y5 with
  | false=>rfl
  | true=>exact absurd (Or.inr (Or.inr hw)) hc
 rcases em l.reverse n hw oq oq with ⟨t,h1,h2,h3⟩|⟨N,h1⟩|h1
 ·rw[h1] at h ⊢
  simp only[kC,Z4] at h
  obtain⟨rfl,_,_⟩:=h
  exact⟨rfl,h2,h3⟩
 ·rw[h1] at h
  simp only[kC,Z4] at h
  omega
 rw[h1] at h
 simp only[kC,Z4] at h
 omega
theorem qI {f:FD} {a:AD} {cp cf n m x:Int} (h:X0 f a cp cf=true) (hb:Qk a.ops n=(m,x,1)) :
  0≤m∧∃sp sf,JB f a.src=some (sp,sf)∧Yz sp sf=true∧Yz cp cf=true∧sf+m*sp≤cf+n*cp∧(a.ops.any Gn=true→sf+m*sp<cf+n*cp):=by
 unfold X0 at h
 cases hs:JB f a.src with
 | none=>rw[hs] at h;cases h
 | some s =>
  obtain⟨sp,sf⟩:=s
  rw[hs] at h
  simp only[ZB,Yj] at h
  obtain⟨_,h0,h1,h2⟩:=h
  obtain⟨b1,b2,_⟩:=uG hb
  unfold xz at h0 h1 h2
  by_cases hr:Yz sp sf=true
  ·rw[Z2 hr] at h0 h1 h2
   have:=vx a.ops sp sf cp cf n m hr (by rw[←h0,←h1,←h2]) b1
   exact⟨b2,sp,sf,rfl,hr,this.1,this.2.1,this.2.2⟩
  rw[Z1 hr] at h0
  simp at h0
open Go.RowKit
def Qa (f:FD) (B:List (Nat × Nat)) (a:AD) (n:Int):Option Int :=
 if a.src-(f.ins.length:Int)<0 then none
 else if (index.Qk a.ops n).2.2=1 then some ((plP B B.length (a.src-(f.ins.length:Int)).toNat).getD (index.Qk a.ops n).1.toNat 0) else none
theorem ko {l:List Int} {y:Int} {i:Nat} (h:y∈l.take i):l.idxOf y<i:=by
 obtain⟨j,hj,e⟩:=Yl h
 rw[Yb] at hj
 rw[List.getElem_take] at e
 have h1:l.idxOf y≤j:=by
  apply Yh
  intro hc
  have:=List.not_of_lt_findIdx (p:=(· == y)) (xs:=l) (i:=j) (by unfold List.idxOf at hc;omega)
  simp[e] at this
 omega
theorem gq {l:List Int} (hn:l.Nodup) {x:Int} (h:x∈l):l[l.idxOf x]?=some x:=by
 have h1:=List.idxOf_lt_length_iff.2 h
 rw[Ze h1]
 have:=List.findIdx_getElem (p:=(· == x)) (xs:=l) (w:=h1)
 exact Z3 some (eq_of_beq this)
theorem zu {f:FD} {order:List Int} {u:Int} {B:List (Nat × Nat)} (h:Xv f order u B) (ho:YN f order) {a:AD} {cp cf:Int} (hft:X0 f a cp cf=true) {n:Int} (hdt:cf+n*cp<u) {x:Int} (hx:Qa f B a n=some x) :
  ∃p s k:Nat,x=(p:Int)∧B[p]?=some (s,k)∧s<f.tasks.length∧k<Qg f u s∧a.src=(f.ins.length:Int)+(s:Int)∧(index.Qk a.ops n).1=(k:Int)∧(plP B B.length s)[k]?=some x∧(index.Qk a.ops n).2.2=1 ∧
   Ql f (s,k)≤cf+n*cp∧(a.ops.any Gn=true→Ql f (s,k)<cf+n*cp):=by
 unfold Qa at hx
 split at hx
 ·cases hx
 rename_i h0
 split at hx
 ·rename_i h1
  injection hx with hx
  rcases hb:index.Qk a.ops n with ⟨m,y,z⟩
  rw[hb] at h1 hx
  simp only at h1 hx
  subst h1
  obtain⟨hm,sp,sf,hsrc,hrs,hrt,hd1,hd2⟩:=qI hft hb
  obtain⟨s,hs⟩:∃s:Nat,a.src=(f.ins.length:Int)+(s:Int):=⟨(a.src-(f.ins.length:Int)).toNat,oq⟩
  have hsl:s<f.tasks.length:=by
   have:=Gt (i:=a.src) (f:=f) (by rw[hsrc];rfl) oq
   omega
  have hst:=KQ hsl
  rw[hs,hst] at hsrc
  rw[VL hsl] at hsrc
  injection hsrc with hsrc
  injection hsrc with e1 e2
  subst e1
  subst e2
  obtain⟨k,rfl⟩:∃k:Nat,m=(k:Int):=⟨m.toNat,oq⟩
  have hps:=(clock.Xd.1 hrs).1
  have hk:k<Qg f u s:=(Qz hps k).2 oq
  obtain⟨h3,h4⟩:=h.place ho hsl hps
  obtain⟨p,h5,h6⟩:=h4 k hk
  have ets:(a.src-(f.ins.length:Int)).toNat=s:=oq
  rw[ets,ZQ,Zf,h5] at hx
  exact⟨p,s,k,hx.symm,h6,hsl,hk,hs,rfl,by rw[h5];exact Z3 some hx,rfl,hd1,hd2⟩
 cases hx
theorem Zcr {f:FD} {order:List Int} {u:Int} {B:List (Nat × Nat)} (h:Xv f order u B) (ho:YN f order) (hr:∀t,t<f.tasks.length→∀a∈(tkO f t).args,X0 f a (tkO f t).per (tkO f t).ph=true)
  {t n:Nat} (ht:t<f.tasks.length) (hp:1≤(tkO f t).per) (hn:n<Qg f u t) {a:AD} (ha:a∈(tkO f t).args) {x:Int} (hx:Qa f B a (n:Int)=some x) :
  ∃p s k:Nat,x=(p:Int)∧B[p]?=some (s,k)∧RJ f order (s,k) (t,n):=by
 have hft:=hr t ht a ha
 obtain⟨p,s,k,rfl,h6,hsl,hk,hs,_,_,_,hd1,hd2⟩:=zu h ho hft ((Qz hp n).1 hn) hx
 refine⟨p,s,k,rfl,h6,?_⟩
 unfold RJ
 by_cases hdl:a.ops.any Gn=true
 ·exact .inl (hd2 hdl)
 by_cases hlt:Ql f (s,k)<Ql f (t,n)
 ·exact .inl hlt
 refine .inr ⟨by have:Ql f (t,n)=(tkO f t).ph+(n:Int)*(tkO f t).per:=rfl;omega,?_⟩
 have hh:(s:Int)∈Y1 f t:=by
  rw[EG (Ze ht)]
  unfold YP
  refine yL (List.mem_mergeSort.2 (List.mem_filterMap.2 ⟨a,by rw[VL ht];exact ha,?_⟩))
  unfold QT
  rw[Z1 hdl,hs]
  unfold yx
  rw[KQ hsl,Z2 ⟨rfl,oq⟩]
  congr 1
  omega
 have htm:=ho.all t ht
 have h8:=ho.top _ (t:Int) (gq ho.nd htm) (s:Int) (by rw[ZQ];exact hh)
 exact ko h8
def Uz (w:World) (b o:Nat) (x:Int):Prop:=w.cell? ⟨b,o,none⟩=some (.int .i64 x)
theorem zI:Sta Uz:=fun w w' b o x hb hlt h=>(hb.cell (p:=⟨b,_,none⟩) hlt).trans h
def PlM (W:World) (pb:Nat) (Pl:Nat→List Int) (T:Nat):Prop:=pb<W.heap.size∧∀s,s<T→∃a c,W.cell? ⟨pb,s,none⟩=some (.slice a (Pl s).length c)∧Row Uz 1 W (Pl s) a
theorem PlM.below {W W':World} {pb:Nat} {Pl:Nat→List Int} {T:Nat} (h:PlM W pb Pl T) (hb:Below W.heap.size W W'):PlM W' pb Pl T:=by
 refine⟨Zd h.1 hb.size,fun s hs=>?_⟩
 obtain⟨a,c,h1,h2⟩:=h.2 s hs
 exact⟨a,c,(hb.cell (p:=⟨pb,s,none⟩) h.1).trans h1,h2.below zI hb⟩
def yP (o:Option Int):Value:=.tuple #[.int .i64 (o.getD 0),.bool o.isSome]
theorem GG {W:World} (f:FD) (B:List (Nat × Nat)) (wb pb ci cp:Nat) (ai:Option Addr) (hI:f.ins.length≤1000) (hT:f.tasks.length≤30) (hwb:wb<W.heap.size) (c0:W.cell? ⟨wb,0,none⟩=some (.slice ai f.ins.length ci)) (c6:W.cell? ⟨wb,6,none⟩=some (.slice (some ⟨pb,0,none⟩) f.tasks.length cp))
  (hP:PlM W pb (plP B B.length) f.tasks.length) (a:AD) (ad:Option Addr) (cap:Nat) (hr:Row OpR 3 W a.ops ad) (hl:a.ops.length≤1000) (hs0:0≤a.src∧a.src≤100000) (n:Int)
  (hin:∀x,Qa f B a n=some x→∃s k:Nat,s<f.tasks.length∧a.src=(f.ins.length:Int)+(s:Int)∧(index.Qk a.ops n).1=(k:Int)∧(plP B B.length s)[k]?=some x) :
  Calls Tryz.prog 69 #[.pointer (some ⟨wb,0,none⟩),.agg #[.int .i64 a.src,.slice ad a.ops.length cap],.int .i64 n] W fun e w'=>e=.returned (yP (Qa f B a n))∧Below W.heap.size W w':=by
 obtain⟨src,ops⟩:=a
 simp only at hr hl hs0 hin ⊢
 have HBK:=hid (fun(w1:World) (hb:Below W.heap.size W w1)=>index.gT ops ad cap n w1 oq (j3 (hr.below Uf hb)))
 have HIN:=hid hin
 have HP:=hid hP
 obtain⟨nI,hnI⟩:∃nI,f.ins.length=nI:=⟨_,rfl⟩
 obtain⟨T,hTT⟩:∃T,f.tasks.length=T:=⟨_,rfl⟩
 rw[hnI] at c0 hI HIN
 rw[hTT] at c6 hT HIN HP
 obtain⟨W1,hW1⟩:∃W1,W.alloc (.cells #[.int .i64 src,.slice ad ops.length cap] 69)=W1:=⟨_,rfl⟩
 have hb1:Below W.heap.size W W1:=by rw[←hW1];exact bq
 have hx1:W1.heap[W.heap.size]?=some (.cells #[.int .i64 src,.slice ad ops.length cap] 69 (0,0)):=by rw[←hW1];exact Yp W _
 obtain⟨⟨z0,z1⟩,zf⟩:=YB hx1
 have c0':=(hb1.cell (p:=⟨wb,0,none⟩) hwb).trans c0
 have hl1:=Zb hx1
 have v1:IntKind.i64.wrap (src-(nI:Int))=src-(nI:Int):=ZK _ oq
 have HB1:=hid hb1
 have HC6:=hid c6
 have HX1:=hid hx1
 obtain⟨q,hq⟩:∃q,src-(nI:Int)=q:=⟨_,rfl⟩
 rw[hq] at v1
 have HQ:=hid hq
 clear hr hin hP c0 c6 hb1 hx1
 by_cases h0:q<0
 ·have hO:Qa f B ⟨src,ops⟩ n=none:=by unfold Qa;rw[hnI];exact Z2 (by rw[HQ.out];exact h0)
  rw[hO]
  clear hO hnI hTT
  go_enter Tryz.func69,Tryz.ntmps69
  go_upto_region 1 with fail
  first|rw[hW1]|skip
  clear hW1
  go_still kq
  change Exit.then _ _ Exit.normal _ W1.drew
  go_wp2
  refine Zl (v:=yP none) (by simp only[results,Tryz.results69];go_simp;rfl) rfl ⟨rfl,HB1.out.drew⟩
 have h0':decide (q<0)=false:=ZZ h0
 obtain⟨s,hs⟩:∃s:Nat,q=(s:Int):=⟨q.toNat,oq⟩
 obtain⟨⟨m,y,kd⟩,hbk⟩:∃r,index.Qk ops n=r:=⟨_,rfl⟩
 rw[hbk] at HBK HIN
 unfold index.T3i at HBK
 simp only at HBK HIN
 by_cases hk:kd=1
 ·subst hk
  have hO:Qa f B ⟨src,ops⟩ n=some ((plP B B.length s).getD m.toNat 0):=by
   unfold Qa
   rw[hnI,Z1 (by rw[HQ.out];exact h0),HQ.out,hs,ZQ]
   simp only[hbk]
   rw[Z2 trivial]
  obtain⟨s',k,hsT,hsrc,hmk,hpl⟩:=HIN.out _ hO
  have hq0:=HQ.out
  obtain rfl:s'=s:=oq
  subst hmk
  rw[ZQ] at hO
  obtain⟨x,hx⟩:∃x,(plP B B.length s').getD k 0=x:=⟨_,rfl⟩
  rw[ZQ,hx] at hpl
  rw[hO,hx]
  obtain⟨pa,pc,g1,g2⟩:=HP.out.2 s' hsT
  have hkl:=(ZA.1 hpl).1
  obtain⟨b,o,rfl,hbl,hcell⟩:=g2.at hkl
  unfold Uz at hcell
  rw[Z8,(ZA.1 hpl).2] at hcell
  obtain⟨L,hL⟩:∃L,(plP B B.length s').length=L:=⟨_,rfl⟩
  rw[hL] at g1 hkl
  have G:=hid (Zh g1 (Zh hcell (Zh hbl HP.out.1)))
  have s0:(0:Int)≤(s':Int):=oq
  have s1:(s':Int)<(T:Int):=oq
  have k0:(0:Int)≤(k:Int):=oq
  have k1:(k:Int)<(L:Int):=oq
  clear hsrc hq0
  subst hs
  clear hO hnI hTT hbk hpl hx g1 g2 hcell hL HIN
  go_enter Tryz.func69,Tryz.ntmps69
  go_upto_region 1 with fail
  first|rw[hW1]|skip
  clear hW1
  go_still kq
  change Exit.then _ _ Exit.normal _ W1.drew
  go_wp2_with (go_at_call 112;refine(HBK.out _ HB1.out.drew).mono ?_;rintro e w2 ⟨rfl,hb2⟩;have HB2:=hid (HB1.out.drew.trans (hb2.mono (by have:=HB1.out.size;show W.heap.size≤W1.heap.size;exact this)));have c6:=(HB2.out.cell (p:=⟨wb,6,none⟩) hwb).trans HC6.out;have cp1:=(HB2.out.cell (p:=⟨pb,s',none⟩) G.out.2.2.2).trans G.out.1;have cp2:=(HB2.out.cell (p:=⟨b,o+k,none⟩) G.out.2.2.1).trans G.out.2.1;clear hb2)
  refine Zl (v:=yP (some x)) (by simp only[results,Tryz.results69];go_simp;rfl) rfl ⟨rfl,HB2.out⟩
 have hO:Qa f B ⟨src,ops⟩ n=none:=by
  unfold Qa
  rw[hnI,Z1 (by rw[HQ.out];exact h0)]
  simp only[hbk]
  rw[Z1 hk]
 rw[hO]
 have hk1:(kd == 1)=false:=ZY.2 hk
 have hk2:(kd != 1)=true:=by simp[hk]
 clear hO hnI hTT hs hbk HIN hk
 go_enter Tryz.func69,Tryz.ntmps69
 go_upto_region 1 with fail
 first|rw[hW1]|skip
 clear hW1
 go_still kq
 change Exit.then _ _ Exit.normal _ W1.drew
 go_wp2_with (go_at_call 112;refine(HBK.out _ HB1.out.drew).mono ?_;rintro e w2 ⟨rfl,hb2⟩;have HB2:=hid (HB1.out.drew.trans (hb2.mono (by have:=HB1.out.size;show W.heap.size≤W1.heap.size;exact this)));clear hb2)
 refine Zl (v:=yP none) (by simp only[results,Tryz.results69];go_simp;rfl) rfl ⟨rfl,HB2.out⟩
end Go.Proofs.YtgigilkpndhddaaGreatDoor.syn
