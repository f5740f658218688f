/- Parts of the proof. -/
import Derived.Test.YtlhlcdjiafdoeaaGreatDoorV20
set_option linter.all false
set_option maxRecDepth 100000
set_option maxHeartbeats 16000000
namespace Go.Proofs.YtlhlcdjiafdoeaaGreatDoor.syn
open Go.RowKit Go.Shelf
theorem Eo {w:World} (n:Int):Calls Tryz.prog 86 #[.int .i64 n] w fun x w'=>x=.returned (.bool (decide (1≤n∧n≤1000)))∧w=w':=by
 by_cases h1:1≤n
 ·by_cases h2:n≤1000
  ·rw[ZY (Zh h1 h2)]
   go_enter Tryz.func86,Tryz.ntmps86
   go_wp2
   go_ret
   exact⟨rfl,rfl⟩
  rw[ZX (fun h=>h2 h.2)]
  go_enter Tryz.func86,Tryz.ntmps86
  go_wp2
  go_ret
  exact⟨rfl,rfl⟩
 rw[ZX (fun h=>h1 h.1)]
 go_enter Tryz.func86,Tryz.ntmps86
 go_wp2
 go_ret
 exact⟨rfl,rfl⟩
theorem gh {w:World} {l:List Op3} {ad:Option Addr} (h:Row OpR 3 w l ad):∀k,k<l.length→∃b off,ad=some ⟨b,off,none⟩∧b<w.heap.size∧w.cell? ⟨b,off+k*3,none⟩=some (.int .i64 (l.getD k (0,0,0)).1)∧w.cell? ⟨b,off+k*3+1,none⟩=some (.int .i64 (l.getD k (0,0,0)).2.1)∧w.cell? ⟨b,off+k*3+2,none⟩=some (.int .i64 (l.getD k (0,0,0)).2.2):=by
 intro k hk
 obtain⟨b,o,e,hb,h0,h1,h2⟩:=h.at hk
 have hg:l.getD k (0,0,0)=l[k]:=by rw[Zf,Ze hk];rfl
 rw[hg]
 exact⟨b,o,e,hb,h0,h1,h2⟩
theorem uP {w:World} (p f:Int) (l:List Op3) (ad:Option Addr) (cap:Nat) (h:Row OpR 3 w l ad) (hl:l.length≤1000) :
  Calls Tryz.prog 125 #[.agg #[.int .i64 p,.int .i64 f],.slice ad l.length cap] w fun x w'=>x=.returned (clock.zy (clock.zw p f l))∧Below w.heap.size w w':=by
 unfold clock.zw
 by_cases hr:1≤p∧p≤2000∧0≤f∧f≤2000
 ·rw[Z0 (clock.XL hr)]
  exact clock.eF p f ad cap l w hr oq (gh h)
 rw[ZZ (by rw[clock.JX hr];simp)]
 exact clock.jR p f _ w hr
def X4 (f:FD) (a:AD) (cp cf:Int):Bool:=match Q2 f a.src with
 | none=>false
 | some s=>decide (a.ops.length≤20)&&(decide ((clock.zw s.1 s.2 a.ops).2.2=0)&&(decide ((clock.zw s.1 s.2 a.ops).1=cp)&&decide ((clock.zw s.1 s.2 a.ops).2.1=cf)))
theorem GT {w:World} (f:FD) (ai an aT al:Option Addr) (ci cn ct cl:Nat) (hf:FAP w f ai an aT al) (a:AD) (ad:Option Addr) (cap:Nat) (cp cf:Int) (h64:I64 a.src) (hr:Row OpR 3 w a.ops ad) (hl:a.ops.length≤1000) :
  Calls Tryz.prog 88 #[fv f ai an aT al ci cn ct cl,.agg #[.int .i64 a.src,.slice ad a.ops.length cap],.agg #[.int .i64 cp,.int .i64 cf]] w fun x w'=>x=.returned (.bool (X4 f a cp cf))∧Below w.heap.size w w':=by
 have HS:=hid (fun(w':World) (hb:Below w.heap.size w w')=>Gs (w:=w') f ai an aT al ci cn ct cl (hf.below hb) a.src h64)
 have HA:=hid (fun(w':World) (hb:Below w.heap.size w w') p q=>uP (w:=w') p q a.ops ad cap (hr.below Ed hb) hl)
 obtain⟨ans,hans⟩:∃ans,X4 f a cp cf=ans:=⟨_,rfl⟩
 rw[hans]
 unfold X4 at hans
 clear hf hr h64
 unfold fv at *
 go_enter Tryz.func88,Tryz.ntmps88
 go_upto_region 1 with fail
 obtain⟨W2,hW2⟩:∃W2,((w.alloc (.cells #[.slice ai f.ins.length ci,.slice an f.nods.length cn,.slice aT f.tasks.length ct,.slice al f.tells.length cl] 35)).alloc (.cells #[.int .i64 a.src,.slice ad a.ops.length cap] 75)).alloc (.cells #[.int .i64 cp,.int .i64 cf] 50)=W2:=⟨_,rfl⟩
 rw[hW2]
 have hB:Below w.heap.size w W2:=by rw[←hW2];exact bq
 have hs2:w.heap.size+1+1<W2.heap.size:=by rw[←hW2];simp
 have hq0:W2.heap[w.heap.size]?=some (.cells #[.slice ai f.ins.length ci,.slice an f.nods.length cn,.slice aT f.tasks.length ct,.slice al f.tells.length cl] 35 (0,0)):=by rw[←hW2];exact(Za _ _ _ (by simp;omega)).trans ((Za _ _ _ (by simp)).trans (Yt w _))
 have hq1:W2.heap[w.heap.size+1]?=some (.cells #[.int .i64 a.src,.slice ad a.ops.length cap] 75 (0,0)):=by rw[←hW2];have:=(Za _ (.cells #[.int .i64 cp,.int .i64 cf] 50) _ (by simp)).trans (Yt (w.alloc (.cells #[.slice ai f.ins.length ci,.slice an f.nods.length cn,.slice aT f.tasks.length ct,.slice al f.tells.length cl] 35)) (.cells #[.int .i64 a.src,.slice ad a.ops.length cap] 75));simpa using this
 have hq2:W2.heap[w.heap.size+1+1]?=some (.cells #[.int .i64 cp,.int .i64 cf] 50 (0,0)):=by rw[←hW2];have:=Yt ((w.alloc (.cells #[.slice ai f.ins.length ci,.slice an f.nods.length cn,.slice aT f.tasks.length ct,.slice al f.tells.length cl] 35)).alloc (.cells #[.int .i64 a.src,.slice ad a.ops.length cap] 75)) (.cells #[.int .i64 cp,.int .i64 cf] 50);simpa using this
 obtain⟨⟨x0,x1,x2,x3⟩,xf⟩:=Yu hq0
 obtain⟨⟨q0,q1⟩,qf⟩:=YG hq1
 have HB:=hid hB
 have HQ1:=hid hq1
 have HQ2:=hid hq2
 have hl1:w.heap.size+1<W2.heap.size:=oq
 clear hW2 hB hq0 hq1 hq2
 cases hs:Q2 f a.src with
 | none =>
  rw[hs] at HS hans
  simp only at hans
  subst hans
  unfold UC at HS
  simp only[Option.getD_none,Option.isSome_none] at HS
  go_wp2_with (go_at_call 124;refine(HS.out _ HB.out).mono ?_;rintro x w3 ⟨rfl,hb3⟩;have hz3:W2.heap.size≤w3.heap.size:=hb3.size)
  exact Zl (v:=.bool false) (by simp only[results,Tryz.results88];go_simp) rfl ⟨rfl,bq⟩
 | some s =>
  obtain⟨sp,sf⟩:=s
  rw[hs] at HS hans
  simp only at hans
  unfold UC at HS
  simp only[Z7,Option.isSome_some] at HS
  by_cases h20:a.ops.length≤20
  ·have h20d:¬(a.ops.length:Int) > 20:=oq
   obtain⟨⟨rp,rf,re⟩,hra⟩:∃r,clock.zw sp sf a.ops=r:=⟨_,rfl⟩
   have HA2:=hid (fun(w':World) (hb:Below w.heap.size w w')=>HA.out w' hb sp sf)
   rw[hra] at HA2 hans
   unfold clock.zy clock.UW at HA2
   simp only at HA2 hans
   rw[ZY h20,Bool.true_and] at hans
   clear HA hra hs
   by_cases hre:re=0
   ·subst hre
    rw[ZY rfl,Bool.true_and] at hans
    by_cases h1:rp=cp
    ·subst h1
     rw[ZY rfl,Bool.true_and] at hans
     by_cases h2:rf=cf
     ·subst h2
      rw[ZY rfl] at hans
      subst hans
      go_wp2_with (first|(go_at_call 124;refine(HS.out _ HB.out).mono ?_;rintro x w3 ⟨rfl,hb3⟩;have hz3:W2.heap.size≤w3.heap.size:=hb3.size;obtain⟨⟨r0,r1⟩,rf3⟩:=YG ((hb3.block _ hl1).trans HQ1.out);have k3:w.heap.size+1<w3.heap.size:=oq;have k3n:¬w.heap.size+1=w3.heap.size:=oq;have HB3:=hid hb3)|(go_at_call 125;refine(HA2.out _ bq).mono ?_;rintro x w4 ⟨rfl,hb4⟩;have hz4:w3.heap.size<w4.heap.size:=(by have h:=hb4.size;simp at h;omega);have HC4:=hid ((hb4.block (w.heap.size+1+1) (by simp;omega)).trans ((Za _ _ _ oq).trans ((HB3.out.block _ hs2).trans HQ2.out)));obtain⟨⟨t0,t1⟩,tf⟩:=YG HC4.out;have k4:w.heap.size+1+1<w4.heap.size:=oq;have k4n:¬w.heap.size+1+1=w4.heap.size:=oq))
      exact Zl (v:=.bool true) (by simp only[results,Tryz.results88];go_simp) rfl ⟨rfl,bq⟩
     rw[ZX h2] at hans
     subst hans
     have h2d:(rf == cf)=false:=ZW.2 h2
     go_wp2_with (first|(go_at_call 124;refine(HS.out _ HB.out).mono ?_;rintro x w3 ⟨rfl,hb3⟩;have hz3:W2.heap.size≤w3.heap.size:=hb3.size;obtain⟨⟨r0,r1⟩,rf3⟩:=YG ((hb3.block _ hl1).trans HQ1.out);have k3:w.heap.size+1<w3.heap.size:=oq;have k3n:¬w.heap.size+1=w3.heap.size:=oq;have HB3:=hid hb3)|(go_at_call 125;refine(HA2.out _ bq).mono ?_;rintro x w4 ⟨rfl,hb4⟩;have hz4:w3.heap.size<w4.heap.size:=(by have h:=hb4.size;simp at h;omega);have HC4:=hid ((hb4.block (w.heap.size+1+1) (by simp;omega)).trans ((Za _ _ _ oq).trans ((HB3.out.block _ hs2).trans HQ2.out)));obtain⟨⟨t0,t1⟩,tf⟩:=YG HC4.out;have k4:w.heap.size+1+1<w4.heap.size:=oq;have k4n:¬w.heap.size+1+1=w4.heap.size:=oq))
     exact Zl (v:=.bool false) (by simp only[results,Tryz.results88];go_simp) rfl ⟨rfl,bq⟩
    rw[ZX h1,Bool.false_and] at hans
    subst hans
    have h1d:(rp == cp)=false:=ZW.2 h1
    go_wp2_with (first|(go_at_call 124;refine(HS.out _ HB.out).mono ?_;rintro x w3 ⟨rfl,hb3⟩;have hz3:W2.heap.size≤w3.heap.size:=hb3.size;obtain⟨⟨r0,r1⟩,rf3⟩:=YG ((hb3.block _ hl1).trans HQ1.out);have k3:w.heap.size+1<w3.heap.size:=oq;have k3n:¬w.heap.size+1=w3.heap.size:=oq;have HB3:=hid hb3)|(go_at_call 125;refine(HA2.out _ bq).mono ?_;rintro x w4 ⟨rfl,hb4⟩;have hz4:w3.heap.size<w4.heap.size:=(by have h:=hb4.size;simp at h;omega);have HC4:=hid ((hb4.block (w.heap.size+1+1) (by simp;omega)).trans ((Za _ _ _ oq).trans ((HB3.out.block _ hs2).trans HQ2.out)));obtain⟨⟨t0,t1⟩,tf⟩:=YG HC4.out;have k4:w.heap.size+1+1<w4.heap.size:=oq;have k4n:¬w.heap.size+1+1=w4.heap.size:=oq))
    exact Zl (v:=.bool false) (by simp only[results,Tryz.results88];go_simp) rfl ⟨rfl,bq⟩
   rw[ZX hre,Bool.false_and] at hans
   subst hans
   have hred:(re == 0)=false:=ZW.2 hre
   go_wp2_with (first|(go_at_call 124;refine(HS.out _ HB.out).mono ?_;rintro x w3 ⟨rfl,hb3⟩;have hz3:W2.heap.size≤w3.heap.size:=hb3.size;obtain⟨⟨r0,r1⟩,rf3⟩:=YG ((hb3.block _ hl1).trans HQ1.out);have k3:w.heap.size+1<w3.heap.size:=oq;have k3n:¬w.heap.size+1=w3.heap.size:=oq;have HB3:=hid hb3)|(go_at_call 125;refine(HA2.out _ bq).mono ?_;rintro x w4 ⟨rfl,hb4⟩;have hz4:w3.heap.size<w4.heap.size:=(by have h:=hb4.size;simp at h;omega);have HC4:=hid ((hb4.block (w.heap.size+1+1) (by simp;omega)).trans ((Za _ _ _ oq).trans ((HB3.out.block _ hs2).trans HQ2.out)));obtain⟨⟨t0,t1⟩,tf⟩:=YG HC4.out;have k4:w.heap.size+1+1<w4.heap.size:=oq;have k4n:¬w.heap.size+1+1=w4.heap.size:=oq))
   exact Zl (v:=.bool false) (by simp only[results,Tryz.results88];go_simp) rfl ⟨rfl,bq⟩
  have h20d:(a.ops.length:Int) > 20:=oq
  rw[ZX h20,Bool.false_and] at hans
  subst hans
  go_wp2_with (go_at_call 124;refine(HS.out _ HB.out).mono ?_;rintro x w3 ⟨rfl,hb3⟩;have hz3:W2.heap.size≤w3.heap.size:=hb3.size;obtain⟨⟨r0,r1⟩,rf3⟩:=YG ((hb3.block _ hl1).trans HQ1.out);have k3:w.heap.size+1<w3.heap.size:=oq;have k3n:¬w.heap.size+1=w3.heap.size:=oq)
  exact Zl (v:=.bool false) (by simp only[results,Tryz.results88];go_simp) rfl ⟨rfl,bq⟩
def Q9 (f:FD) (t:TD):Bool:=match (if t.node<0 then none else f.nods[t.node.toNat]?) with
 | none=>false
 | some n=>decide (t.args.length≠0)&&(decide (t.args.length=n.nps)&&t.args.all (fun a=>X4 f a t.per t.ph))
theorem GL {α:Type} {f:α→Bool} {l:List α} {j:Nat} (h:j<l.length):(l.take (j+1)).all f=((l.take j).all f&&f l[j]):=by
 rw[Zu h,List.all_append]
 simp only[List.all_cons,List.all_nil,Bool.and_true]
theorem Ve {f:FD} {t:TD} (h:t.node<0∨(f.nods.length:Int)≤t.node):Q9 f t=false:=by
 unfold Q9
 rcases h with h|h
 ·rw[Z0 h]
 by_cases h0:t.node<0
 ·rw[Z0 h0]
 rw[ZZ h0,Ya oq]
theorem UF {f:FD} {t:TD} {k:Nat} (hk:k<f.nods.length) (h:t.node=(k:Int)):Q9 f t=(decide (t.args.length≠0)&&(decide (t.args.length=f.nods[k].nps)&&t.args.all (fun a=>X4 f a t.per t.ph))):=by
 unfold Q9
 rw[h,ZZ oq,ZP,Ze hk]
theorem GG {w:World} (f:FD) (ai an aT al:Option Addr) (ci cn ct cl:Nat) (hf:FAP w f ai an aT al) (t:TD) (ad:Option Addr) (cap:Nat) (hr:Row xw 2 w t.args ad) (hl:t.args.length≤1000) (ha:∀a∈t.args,a.ops.length≤1000∧I64 a.src) :
  Calls Tryz.prog 87 #[fv f ai an aT al ci cn ct cl,.agg #[.int .i64 t.node,.int .i64 t.per,.int .i64 t.ph,.slice ad t.args.length cap]] w fun x w'=>x=.returned (.bool (Q9 f t))∧Below w.heap.size w w':=by
 have hlens:=hf.lens
 have HCO:=hid (fun(w':World) (hb:Below w.heap.size w w') (a:AD) ad2 cap2 (hra:Row OpR 3 w' a.ops ad2) (h1:a.ops.length≤1000∧I64 a.src)=>GT (w:=w') f ai an aT al ci cn ct cl (hf.below hb) a ad2 cap2 t.per t.ph h1.2 hra h1.1)
 have HND:=hid hf.nods
 have HR:=hid hr
 have HA:=hid ha
 obtain⟨ans,hans⟩:∃ans,Q9 f t=ans:=⟨_,rfl⟩
 rw[hans]
 obtain⟨nd,hnd⟩:∃nd,t.node=nd:=⟨_,rfl⟩
 have HND2:=hid hnd
 rw[hnd]
 clear hf hr ha hnd
 unfold fv at *
 go_enter Tryz.func87,Tryz.ntmps87
 go_upto_region 1 with fail
 obtain⟨W2,hW2⟩:∃W2,(w.alloc (.cells #[.slice ai f.ins.length ci,.slice an f.nods.length cn,.slice aT f.tasks.length ct,.slice al f.tells.length cl] 35)).alloc (.cells #[.int .i64 nd,.int .i64 t.per,.int .i64 t.ph,.slice ad t.args.length cap] 53)=W2:=⟨_,rfl⟩
 rw[hW2]
 have hB:Below w.heap.size w W2:=by rw[←hW2];exact bq
 have hs2:w.heap.size+1<W2.heap.size:=by rw[←hW2];simp
 have hq0:W2.heap[w.heap.size]?=some (.cells #[.slice ai f.ins.length ci,.slice an f.nods.length cn,.slice aT f.tasks.length ct,.slice al f.tells.length cl] 35 (0,0)):=by rw[←hW2];exact(Za _ _ _ (by simp)).trans (Yt w _)
 have hq1:W2.heap[w.heap.size+1]?=some (.cells #[.int .i64 nd,.int .i64 t.per,.int .i64 t.ph,.slice ad t.args.length cap] 53 (0,0)):=by rw[←hW2];simpa using Yt (w.alloc (.cells #[.slice ai f.ins.length ci,.slice an f.nods.length cn,.slice aT f.tasks.length ct,.slice al f.tells.length cl] 35)) (.cells #[.int .i64 nd,.int .i64 t.per,.int .i64 t.ph,.slice ad t.args.length cap] 53)
 obtain⟨⟨x0,x1,x2,x3⟩,xf⟩:=Yu hq0
 obtain⟨⟨q0,q1,q2,q3⟩,qf⟩:=Yu hq1
 have HB:=hid hB
 have HQ0:=hid hq0
 have HQ1:=hid hq1
 have hl0:w.heap.size<W2.heap.size:=oq
 clear hW2 hB hq0 hq1
 by_cases h0:nd<0
 ·obtain rfl:ans=false:=hans.symm.trans (Ve (.inl (by rw[HND2.out];exact h0)))
  clear hans
  go_wp2
  exact Zl (v:=.bool false) (by simp only[results,Tryz.results87];go_simp) rfl ⟨rfl,bq⟩
 by_cases h1:(f.nods.length:Int)≤nd
 ·obtain rfl:ans=false:=hans.symm.trans (Ve (.inr (by rw[HND2.out];exact h1)))
  have h1d:nd≥(f.nods.length:Int):=h1
  clear hans
  go_wp2
  exact Zl (v:=.bool false) (by simp only[results,Tryz.results87];go_simp) rfl ⟨rfl,bq⟩
 have h1d:¬nd≥(f.nods.length:Int):=h1
 obtain⟨k,rfl⟩:∃k:Nat,nd=(k:Int):=⟨nd.toNat,oq⟩
 have hk:k<f.nods.length:=oq
 have hk0:(0:Int)≤(k:Int):=oq
 have hk1:(k:Int)<(f.nods.length:Int):=oq
 rw[UF hk HND2.out] at hans
 obtain⟨b,o,rfl,hb,nm,pa,pc,k9,nm2,n2,d2,ea,el,ec,a2,a9,_,y1,_⟩:=HND.out.at hk
 obtain⟨np,hnp⟩:∃np,f.nods[k].nps=np:=⟨_,rfl⟩
 rw[hnp] at y1 hans
 have y2:=(HB.out.cell (p:=⟨b,o+k*10+1,none⟩) hb).trans y1
 clear y1 hnp
 by_cases h2:t.args.length=0
 ·obtain rfl:ans=false:=by rw[←hans,ZX (fun h=>h h2),Bool.false_and]
  have h2d:((t.args.length:Int) == 0)=true:=by rw[h2];rfl
  have h2e:(t.args.length:Int)=0:=oq
  clear hans
  go_wp2
  go_quiet (fail)
  go_wp2
  exact Zl (v:=.bool false) (by simp only[results,Tryz.results87];go_simp) rfl ⟨rfl,bq⟩
 rw[ZY h2,Bool.true_and] at hans
 have h2d:((t.args.length:Int) == 0)=false:=ZW.2 oq
 have h2e:¬(t.args.length:Int)=0:=oq
 by_cases h3:t.args.length=np
 ·rw[ZY h3,Bool.true_and] at hans
  subst h3
  have h3d:((t.args.length:Int) != (t.args.length:Int))=false:=by simp
  have HANS:=hid hans
  clear hans
  go_wp2
  go_quiet (fail)
  go_wp2
  go_loopw [39] (fun s39 wr=>Hid (∃i:Nat,s39=.int .i64 (i:Int)∧i≤t.args.length∧(t.args.take i).all (fun a=>X4 f a t.per t.ph)=true∧Below W2.heap.size W2 wr)) (fun s39 _=>t.args.length-(intOf s39).toNat)
  case atStart=>exact⟨0,rfl,Zk _,by simp,bq⟩
  obtain⟨i,rfl,hi,hall,hbw⟩:=hrel.out
  clear hrel x0 x1 x2 x3 xf q0 q1 q2 q3 qf y2
  have hzw:=hbw.size
  have HBW:=hid hbw
  have HALL:=hid hall
  have HWW:=hid (HB.out.trans (hbw.mono oq))
  obtain⟨⟨x0,x1,x2,x3⟩,xf⟩:=Yu ((hbw.block _ hl0).trans HQ0.out)
  obtain⟨⟨q0,q1,q2,q3⟩,qf⟩:=Yu ((hbw.block _ hs2).trans HQ1.out)
  have hj0:w.heap.size<wr.heap.size:=oq
  have hj1:w.heap.size+1<wr.heap.size:=oq
  clear hall hbw
  by_cases hlt:i<t.args.length
  ·have hil:(i:Int)<(t.args.length:Int):=oq
   have hi0:(0:Int)≤(i:Int):=oq
   obtain⟨bb,oo,rfl,hbb0,g0,ad2,cap2,g1,hro⟩:=HR.out.at hlt
   have hA:=HA.out _ (Zi hlt)
   obtain⟨⟨src,ops⟩,hai⟩:∃a,t.args[i]=a:=⟨_,rfl⟩
   rw[hai] at g0 g1 hro hA
   simp only at g0 g1 hro hA
   have y0:=(HWW.out.cell (p:=⟨bb,oo+i*2,none⟩) hbb0).trans g0
   have y1:=(HWW.out.cell (p:=⟨bb,oo+i*2+1,none⟩) hbb0).trans g1
   have hHC:=fun(w':World) (hb:Below w.heap.size w w')=>HCO.out w' hb ⟨src,ops⟩ ad2 cap2 (hro.below Ed hb) hA
   have HAI:=hid hai
   have hkl:=GL (f:=fun a=>X4 f a t.per t.ph) hlt
   rw[hai,HALL.out,Bool.true_and] at hkl
   cases hfit:X4 f ⟨src,ops⟩ t.per t.ph with
   | true =>
    rw[hfit] at hHC hkl
    have HC:=hid hHC
    have HKL:=hid hkl
    clear g0 g1 hro hA hai hHC hfit hkl
    go_wp2_with (go_at_call 88;refine(HC.out _ bq).mono ?_;rintro x w6 ⟨rfl,hb6⟩)
    exact⟨hid ⟨i+1,by go_num,hlt,HKL.out,bq⟩,by simp[intOf];omega⟩
   | false =>
    rw[hfit] at hHC
    have HC:=hid hHC
    obtain rfl:ans=false:=by
     rw[←HANS.out]
     refine Bool.eq_false_iff.2 (fun h=>?_)
     have:=List.all_eq_true.1 h _ (Zi hlt)
     rw[hai,hfit] at this
     cases this
    clear g0 g1 hro hA hai hHC hfit hkl HANS
    go_wp2_with (go_at_call 88;refine(HC.out _ bq).mono ?_;rintro x w6 ⟨rfl,hb6⟩)
    exact Zl (v:=.bool false) (by simp only[results,Tryz.results87];go_simp) rfl ⟨rfl,bq⟩
  have hil:¬(i:Int)<(t.args.length:Int):=oq
  obtain rfl:ans=true:=by
   rw[←HANS.out,←HALL.out,List.take_of_length_le oq]
  clear HANS
  go_wp2
  exact Zl (v:=.bool true) (by simp only[results,Tryz.results87];go_simp) rfl ⟨rfl,bq⟩
 obtain rfl:ans=false:=by rw[←hans,ZX h3,Bool.false_and]
 have h3d:((t.args.length:Int) != (np:Int))=true:=bne_iff_ne.2 oq
 clear hans
 go_wp2
 go_quiet (fail)
 go_wp2
 exact Zl (v:=.bool false) (by simp only[results,Tryz.results87];go_simp) rfl ⟨rfl,bq⟩
def J0 (n:Int):Bool:=decide (1≤n∧n≤1000)
def U2 (f:FD) (t:LD):Bool:=J0 t.dl&&X4 f t.arg t.per t.ph
def YQ (f:FD):Bool:=f.ins.all (fun c=>clock.YA c.1 c.2)&&(f.nods.all (fun n=>J0 n.bud)&&(f.tasks.all (Q9 f)&&(f.tells.all (U2 f)&&decide (f.tasks.length≤30))))
theorem ZbQ {f:FD} (h:f.ins.all (fun c=>clock.YA c.1 c.2)=false):YQ f=false:=by unfold YQ;rw[h];rfl
theorem ZaC {f:FD} (h:f.nods.all (fun n=>J0 n.bud)=false):YQ f=false:=by unfold YQ;rw[h,Bool.false_and,Bool.and_false]
theorem gA {f:FD} (h:f.tasks.all (Q9 f)=false):YQ f=false:=by unfold YQ;rw[h,Bool.false_and,Bool.and_false,Bool.and_false]
theorem yX {f:FD} (h:f.tells.all (U2 f)=false):YQ f=false:=by unfold YQ;rw[h,Bool.false_and,Bool.and_false,Bool.and_false,Bool.and_false]
theorem ZbP {f:FD} (h1:f.ins.all (fun c=>clock.YA c.1 c.2)=true) (h2:f.nods.all (fun n=>J0 n.bud)=true) (h3:f.tasks.all (Q9 f)=true) (h4:f.tells.all (U2 f)=true):YQ f=decide (f.tasks.length≤30):=by
 unfold YQ;rw[h1,h2,h3,h4,Bool.true_and,Bool.true_and,Bool.true_and,Bool.true_and]
theorem Km {α:Type} {p:α→Bool} {l:List α} {i:Nat} (hi:i<l.length) {x:α} (hx:l[i]=x) (h:p x=false):l.all p=false:=by
 refine Bool.eq_false_iff.2 (fun h2=>?_)
 have:=List.all_eq_true.1 h2 _ (Zi hi)
 rw[hx,h] at this
 cases this
theorem VO {α:Type} {p:α→Bool} {l:List α} {i:Nat} (hi:i<l.length) {x:α} (hx:l[i]=x) (h:p x=true) (ht:(l.take i).all p=true):(l.take (i+1)).all p=true:=by
 rw[GL hi,ht,hx,h];rfl
theorem V2 (p q:Int) (w:World):Calls Tryz.prog 28 #[.agg #[.int .i64 p,.int .i64 q]] w fun e w'=>e=.returned (.bool (clock.YA p q))∧Below w.heap.size w w':=by
 by_cases h:1≤p∧p≤2000∧0≤q∧q≤2000
 ·rw[clock.XL h];exact clock.Y7 p q w h
 rw[clock.JX h];exact clock.X6 p q w h
theorem GC {w:World} (f:FD) (ai an aT al:Option Addr) (ci cn ct cl:Nat) (hf:FAP w f ai an aT al) :
  Calls Tryz.prog 50 #[fv f ai an aT al ci cn ct cl] w fun x w'=>x=.returned (.bool (YQ f))∧Below w.heap.size w w':=by
 have hlens:=hf.lens
 have HCO:=hid (fun(w':World) (hb:Below w.heap.size w w') (a:AD) ad2 cap2 cp cf (hra:Row OpR 3 w' a.ops ad2) (h1:a.ops.length≤1000∧I64 a.src)=>GT (w:=w') f ai an aT al ci cn ct cl (hf.below hb) a ad2 cap2 cp cf h1.2 hra h1.1)
 have HRT:=hid (fun(w':World) (hb:Below w.heap.size w w') (t:TD) ad2 cap2 (hr:Row xw 2 w' t.args ad2) (ha:t.args.length≤1000∧∀a∈t.args,a.ops.length≤1000∧I64 a.src)=>GG (w:=w') f ai an aT al ci cn ct cl (hf.below hb) t ad2 cap2 hr ha.1 ha.2)
 have HF:=hid hf
 obtain⟨ans,hans⟩:∃ans,YQ f=ans:=⟨_,rfl⟩
 rw[hans]
 have HANS:=hid hans
 clear hf hans
 unfold fv at *
 go_enter Tryz.func50,Tryz.ntmps50
 go_upto_region 1 with fail
 obtain⟨W1,hW1⟩:∃W1,w.alloc (.cells #[.slice ai f.ins.length ci,.slice an f.nods.length cn,.slice aT f.tasks.length ct,.slice al f.tells.length cl] 35)=W1:=⟨_,rfl⟩
 rw[hW1]
 have hB:Below w.heap.size w W1:=by rw[←hW1];exact bq
 have hq0:W1.heap[w.heap.size]?=some (.cells #[.slice ai f.ins.length ci,.slice an f.nods.length cn,.slice aT f.tasks.length ct,.slice al f.tells.length cl] 35 (0,0)):=by rw[←hW1];exact Yt w _
 have hl0:=Zb hq0
 obtain⟨⟨x0,x1,x2,x3⟩,xf⟩:=Yu hq0
 have HB:=hid hB
 have HQ0:=hid hq0
 clear hW1 hB hq0
 have HST:=hid (Zg W1.heap.size W1)
 go_wp2
 go_loopw [14] (fun s wr=>Hid (∃i:Nat,s=.int .i64 (i:Int)∧i≤f.ins.length∧(f.ins.take i).all (fun c=>clock.YA c.1 c.2)=true∧Below W1.heap.size W1 wr)) (fun s _=>f.ins.length-(intOf s).toNat)
 case atStart=>exact⟨0,rfl,Zk _,by simp,HST.out⟩
 obtain⟨i,rfl,hi1,hall,hbw⟩:=hrel.out
 clear hrel x0 x1 x2 x3 xf
 have hzw:=hbw.size
 have HBW:=hid hbw
 have HALL:=hid hall
 have HWW:=hid (HB.out.trans (hbw.mono oq))
 obtain⟨⟨x0,x1,x2,x3⟩,xf⟩:=Yu ((hbw.block _ hl0).trans HQ0.out)
 have hj0:w.heap.size<wr.heap.size:=oq
 clear hall hbw
 by_cases hlt:i<f.ins.length
 ·have hil:(i:Int)<(f.ins.length:Int):=oq
  have hi0:(0:Int)≤(i:Int):=oq
  obtain⟨bb,oo,rfl,hbb0,g0,g1⟩:=HF.out.ins.at hlt
  obtain⟨⟨cp,cf⟩,hai⟩:∃a,f.ins[i]=a:=⟨_,rfl⟩
  rw[hai] at g0 g1
  simp only at g0 g1
  have y0:=(HWW.out.cell (p:=⟨bb,oo+i*2,none⟩) hbb0).trans g0
  have y1:=(HWW.out.cell (p:=⟨bb,oo+i*2+1,none⟩) hbb0).trans g1
  have HAI:=hid hai
  have HC:=hid (fun w'=>V2 cp cf w')
  cases hfit:clock.YA cp cf with
  | true =>
   rw[hfit] at HC
   have HK:=hid (VO (p:=(fun c=>clock.YA c.1 c.2)) hlt hai hfit HALL.out)
   clear g0 g1 hai hfit
   go_wp2_with (go_at_call 28;refine(HC.out _).mono ?_;rintro x w6 ⟨rfl,hb6⟩)
   exact⟨hid ⟨i+1,by go_num,hlt,HK.out,bq⟩,by simp[intOf];omega⟩
  | false =>
   rw[hfit] at HC
   obtain rfl:ans=false:=HANS.out.symm.trans (ZbQ (Km (p:=(fun c=>clock.YA c.1 c.2)) hlt hai hfit))
   clear g0 g1 hai hfit HANS
   go_wp2_with (go_at_call 28;refine(HC.out _).mono ?_;rintro x w6 ⟨rfl,hb6⟩)
   exact Zl (v:=.bool false) (by simp only[results,Tryz.results50];go_simp) rfl ⟨rfl,bq⟩
 have hil:¬(i:Int)<(f.ins.length:Int):=oq
 have HE1:=hid (show f.ins.all (fun c=>clock.YA c.1 c.2)=true by rw[←HALL.out,List.take_of_length_le oq])
 obtain⟨W2,rfl⟩:∃W2:World,W2=wr:=⟨_,rfl⟩
 have HST1:=hid HBW.out
 clear HBW HALL HWW
 go_wp2
 go_loopw [25] (fun s wr=>Hid (∃i:Nat,s=.int .i64 (i:Int)∧i≤f.nods.length∧(f.nods.take i).all (fun n=>J0 n.bud)=true∧Below W1.heap.size W1 wr)) (fun s _=>f.nods.length-(intOf s).toNat)
 case atStart=>exact⟨0,rfl,Zk _,by simp,HST1.out⟩
 obtain⟨i,rfl,hi2,hall,hbw⟩:=hrel.out
 clear hrel x0 x1 x2 x3 xf
 have hzw:=hbw.size
 have HBW:=hid hbw
 have HALL:=hid hall
 have HWW:=hid (HB.out.trans (hbw.mono oq))
 obtain⟨⟨x0,x1,x2,x3⟩,xf⟩:=Yu ((hbw.block _ hl0).trans HQ0.out)
 have hj0:w.heap.size<wr.heap.size:=oq
 clear hall hbw
 by_cases hlt:i<f.nods.length
 ·have hil:(i:Int)<(f.nods.length:Int):=oq
  have hi0:(0:Int)≤(i:Int):=oq
  obtain⟨bb,oo,rfl,hbb0,nm,pa,pc,k9,nm2,n2,d2,ea,el,ec,a2,a9,g0,g1,g2,g3,g4,g5,g6,g7,g8,g9⟩:=HF.out.nods.at hlt
  obtain⟨⟨bud,np⟩,hai⟩:∃a,f.nods[i]=a:=⟨_,rfl⟩
  rw[hai] at g1 g2
  simp only at g1 g2
  have y0:=(HWW.out.cell (p:=⟨bb,oo+i*10,none⟩) hbb0).trans g0
  have y1:=(HWW.out.cell (p:=⟨bb,oo+i*10+1,none⟩) hbb0).trans g1
  have y2:=(HWW.out.cell (p:=⟨bb,oo+i*10+2,none⟩) hbb0).trans g2
  have y3:=(HWW.out.cell (p:=⟨bb,oo+i*10+3,none⟩) hbb0).trans g3
  have y4:=(HWW.out.cell (p:=⟨bb,oo+i*10+4,none⟩) hbb0).trans g4
  have y5:=(HWW.out.cell (p:=⟨bb,oo+i*10+5,none⟩) hbb0).trans g5
  have y6:=(HWW.out.cell (p:=⟨bb,oo+i*10+6,none⟩) hbb0).trans g6
  have y7:=(HWW.out.cell (p:=⟨bb,oo+i*10+7,none⟩) hbb0).trans g7
  have y8:=(HWW.out.cell (p:=⟨bb,oo+i*10+8,none⟩) hbb0).trans g8
  have y9:=(HWW.out.cell (p:=⟨bb,oo+i*10+9,none⟩) hbb0).trans g9
  have HAI:=hid hai
  have HC:=hid (fun w'=>Eo (w:=w') bud)
  cases hfit:J0 bud with
  | true =>
   rw[show decide (1≤bud∧bud≤1000)=true from hfit] at HC
   have HK:=hid (VO (p:=(fun n=>J0 n.bud)) hlt hai hfit HALL.out)
   clear g0 g1 g2 g3 g4 g5 g6 g7 g8 g9 hai hfit
   go_wp2_with (go_at_call 86;refine(HC.out _).mono ?_;rintro x w6 ⟨rfl,rfl⟩)
   exact⟨hid ⟨i+1,by go_num,hlt,HK.out,bq⟩,by simp[intOf];omega⟩
  | false =>
   rw[show decide (1≤bud∧bud≤1000)=false from hfit] at HC
   obtain rfl:ans=false:=HANS.out.symm.trans (ZaC (Km (p:=(fun n=>J0 n.bud)) hlt hai hfit))
   clear g0 g1 g2 g3 g4 g5 g6 g7 g8 g9 hai hfit HANS
   go_wp2_with (go_at_call 86;refine(HC.out _).mono ?_;rintro x w6 ⟨rfl,rfl⟩)
   exact Zl (v:=.bool false) (by simp only[results,Tryz.results50];go_simp) rfl ⟨rfl,bq⟩
 have hil:¬(i:Int)<(f.nods.length:Int):=oq
 have HE2:=hid (show f.nods.all (fun n=>J0 n.bud)=true by rw[←HALL.out,List.take_of_length_le oq])
 obtain⟨W3,rfl⟩:∃W3:World,W3=wr:=⟨_,rfl⟩
 have HST2:=hid HBW.out
 clear HBW HALL HWW
 go_wp2
 go_loopw [37] (fun s wr=>Hid (∃i:Nat,s=.int .i64 (i:Int)∧i≤f.tasks.length∧(f.tasks.take i).all (Q9 f)=true∧Below W1.heap.size W1 wr)) (fun s _=>f.tasks.length-(intOf s).toNat)
 case atStart=>exact⟨0,rfl,Zk _,by simp,HST2.out⟩
 obtain⟨i,rfl,hi3,hall,hbw⟩:=hrel.out
 clear hrel x0 x1 x2 x3 xf
 have hzw:=hbw.size
 have HBW:=hid hbw
 have HALL:=hid hall
 have HWW:=hid (HB.out.trans (hbw.mono oq))
 obtain⟨⟨x0,x1,x2,x3⟩,xf⟩:=Yu ((hbw.block _ hl0).trans HQ0.out)
 have hj0:w.heap.size<wr.heap.size:=oq
 clear hall hbw
 by_cases hlt:i<f.tasks.length
 ·have hil:(i:Int)<(f.tasks.length:Int):=oq
  have hi0:(0:Int)≤(i:Int):=oq
  obtain⟨bb,oo,rfl,hbb0,g0,g1,g2,ad2,cap2,g3,hro⟩:=HF.out.tasks.at hlt
  have hA:=HF.out.args _ (Zi hlt)
  obtain⟨⟨nd,per,ph,args⟩,hai⟩:∃a,f.tasks[i]=a:=⟨_,rfl⟩
  rw[hai] at g0 g1 g2 g3 hro hA
  simp only at g0 g1 g2 g3 hro hA
  have y0:=(HWW.out.cell (p:=⟨bb,oo+i*4,none⟩) hbb0).trans g0
  have y1:=(HWW.out.cell (p:=⟨bb,oo+i*4+1,none⟩) hbb0).trans g1
  have y2:=(HWW.out.cell (p:=⟨bb,oo+i*4+2,none⟩) hbb0).trans g2
  have y3:=(HWW.out.cell (p:=⟨bb,oo+i*4+3,none⟩) hbb0).trans g3
  have HAI:=hid hai
  have hHC:=fun(w':World) (hb:Below w.heap.size w w')=>HRT.out w' hb ⟨nd,per,ph,args⟩ ad2 cap2 (hro.below EB hb) hA
  cases hfit:Q9 f ⟨nd,per,ph,args⟩ with
  | true =>
   rw[hfit] at hHC
   have HC:=hid hHC
   have HK:=hid (VO (p:=(Q9 f)) hlt hai hfit HALL.out)
   clear g0 g1 g2 g3 hro hA hai hfit hHC
   go_wp2_with (go_at_call 87;refine(HC.out _ bq).mono ?_;rintro x w6 ⟨rfl,hb6⟩)
   exact⟨hid ⟨i+1,by go_num,hlt,HK.out,bq⟩,by simp[intOf];omega⟩
  | false =>
   rw[hfit] at hHC
   have HC:=hid hHC
   obtain rfl:ans=false:=HANS.out.symm.trans (gA (Km (p:=(Q9 f)) hlt hai hfit))
   clear g0 g1 g2 g3 hro hA hai hfit hHC HANS
   go_wp2_with (go_at_call 87;refine(HC.out _ bq).mono ?_;rintro x w6 ⟨rfl,hb6⟩)
   exact Zl (v:=.bool false) (by simp only[results,Tryz.results50];go_simp) rfl ⟨rfl,bq⟩
 have hil:¬(i:Int)<(f.tasks.length:Int):=oq
 have HE3:=hid (show f.tasks.all (Q9 f)=true by rw[←HALL.out,List.take_of_length_le oq])
 obtain⟨W4,rfl⟩:∃W4:World,W4=wr:=⟨_,rfl⟩
 have HST3:=hid HBW.out
 clear HBW HALL HWW
 go_wp2
 go_loopw [49] (fun s wr=>Hid (∃i:Nat,s=.int .i64 (i:Int)∧i≤f.tells.length∧(f.tells.take i).all (U2 f)=true∧Below W1.heap.size W1 wr)) (fun s _=>f.tells.length-(intOf s).toNat)
 case atStart=>exact⟨0,rfl,Zk _,by simp,HST3.out⟩
 obtain⟨i,rfl,hi4,hall,hbw⟩:=hrel.out
 clear hrel x0 x1 x2 x3 xf
 have hzw:=hbw.size
 have HBW:=hid hbw
 have HALL:=hid hall
 have HWW:=hid (HB.out.trans (hbw.mono oq))
 obtain⟨⟨x0,x1,x2,x3⟩,xf⟩:=Yu ((hbw.block _ hl0).trans HQ0.out)
 have hj0:w.heap.size<wr.heap.size:=oq
 clear hall hbw
 by_cases hlt:i<f.tells.length
 ·have hil:(i:Int)<(f.tells.length:Int):=oq
  have hi0:(0:Int)≤(i:Int):=oq
  obtain⟨bb,oo,rfl,hbb0,g0,g1,g2,g4,ad2,cap2,g3,hro⟩:=HF.out.tells.at hlt
  have hA:=HF.out.tops _ (Zi hlt)
  obtain⟨⟨per,ph,⟨src,ops⟩,dl⟩,hai⟩:∃a,f.tells[i]=a:=⟨_,rfl⟩
  rw[hai] at g0 g1 g2 g3 g4 hro hA
  simp only at g0 g1 g2 g3 g4 hro hA
  have y0:=(HWW.out.cell (p:=⟨bb,oo+i*5,none⟩) hbb0).trans g0
  have y1:=(HWW.out.cell (p:=⟨bb,oo+i*5+1,none⟩) hbb0).trans g1
  have y2:=(HWW.out.cell (p:=⟨bb,oo+i*5+2,none⟩) hbb0).trans g2
  have y3:=(HWW.out.cell (p:=⟨bb,oo+i*5+3,none⟩) hbb0).trans g3
  have y4:=(HWW.out.cell (p:=⟨bb,oo+i*5+4,none⟩) hbb0).trans g4
  have HAI:=hid hai
  have hHC:=fun(w':World) (hb:Below w.heap.size w w')=>HCO.out w' hb ⟨src,ops⟩ ad2 cap2 per ph (hro.below Ed hb) hA
  have HT:=hid (fun w'=>Eo (w:=w') dl)
  cases htk:J0 dl with
  | false =>
   rw[show decide (1≤dl∧dl≤1000)=false from htk] at HT
   obtain rfl:ans=false:=HANS.out.symm.trans (yX (Km (p:=(U2 f)) hlt hai (by unfold U2;rw[htk];rfl)))
   clear g0 g1 g2 g3 g4 hro hA hai htk hHC HANS
   go_wp2_with (go_at_call 86;refine(HT.out _).mono ?_;rintro x w5 ⟨rfl,rfl⟩)
   exact Zl (v:=.bool false) (by simp only[results,Tryz.results50];go_simp) rfl ⟨rfl,bq⟩
  | true =>
   rw[show decide (1≤dl∧dl≤1000)=true from htk] at HT
   cases hfit:X4 f ⟨src,ops⟩ per ph with
   | true =>
    rw[hfit] at hHC
    have HC:=hid hHC
    have HK:=hid (VO (p:=(U2 f)) hlt hai (by unfold U2;rw[htk];exact hfit) HALL.out)
    clear g0 g1 g2 g3 g4 hro hA hai htk hHC hfit
    go_wp2_with (first|(go_at_call 86;refine(HT.out _).mono ?_;rintro x w5 ⟨rfl,rfl⟩)|(go_at_call 88;refine(HC.out _ bq).mono ?_;rintro x w6 ⟨rfl,hb6⟩))
    exact⟨hid ⟨i+1,by go_num,hlt,HK.out,bq⟩,by simp[intOf];omega⟩
   | false =>
    rw[hfit] at hHC
    have HC:=hid hHC
    obtain rfl:ans=false:=HANS.out.symm.trans (yX (Km (p:=(U2 f)) hlt hai (by unfold U2;rw[htk];exact hfit)))
    clear g0 g1 g2 g3 g4 hro hA hai htk hHC hfit HANS
    go_wp2_with (first|(go_at_call 86;refine(HT.out _).mono ?_;rintro x w5 ⟨rfl,rfl⟩)|(go_at_call 88;refine(HC.out _ bq).mono ?_;rintro x w6 ⟨rfl,hb6⟩))
    exact Zl (v:=.bool false) (by simp only[results,Tryz.results50];go_simp) rfl ⟨rfl,bq⟩
 have hil:¬(i:Int)<(f.tells.length:Int):=oq
 have HE4:=hid (show f.tells.all (U2 f)=true by rw[←HALL.out,List.take_of_length_le oq])
 have hend:=HANS.out.symm.trans (ZbP HE1.out HE2.out HE3.out HE4.out)
 by_cases h30:f.tasks.length≤30
 ·have h30d:(f.tasks.length:Int)≤30:=oq
  obtain rfl:ans=true:=by rw[hend,ZY h30]
  clear hend HANS
  go_wp2
  exact Zl (v:=.bool true) (by simp only[results,Tryz.results50];go_simp) rfl ⟨rfl,bq⟩
 have h30d:¬(f.tasks.length:Int)≤30:=oq
 obtain rfl:ans=false:=by rw[hend,ZX h30]
 clear hend HANS
 go_wp2
 exact Zl (v:=.bool false) (by simp only[results,Tryz.results50];go_simp) rfl ⟨rfl,bq⟩
open Go.RowKit index clock
theorem uS:∀(l:List Op3) (n:Int),l.any Y8=false→0≤n→n≤1099511627776→(∃m,Xb l n=.ok m∧0≤m∧m≤1099511627776)∨(∃N,Xb l n=.error (0,N,2))∨Xb l n=.error (0,0,0):=by
 intro l
 induction l with
 | nil=>intro n _ h0 h1;exact .inl ⟨n,rfl,h0,h1⟩
 | cons o l ih =>
  intro n hw h0 h1
  rw[List.any_cons,Bool.or_eq_false_iff] at hw
  rw[Xb]
  by_cases hb:n=0∧Xu o=true
  ·have:Xj o n=.error (0,o.2.1,2):=by unfold Xj;exact Z0 hb
   rw[this];exact .inr (.inl ⟨_,rfl⟩)
  cases hs:XE o n with
  | none =>
   have:Xj o n=.error (0,0,0):=by unfold Xj;rw[ZZ hb,hs]
   rw[this];exact .inr (.inr rfl)
  | some t =>
   have:Xj o n=.ok t:=by unfold Xj;rw[ZZ hb,hs]
   rw[this]
   have ht:=Gt hw.1 h0 h1 hb hs
   exact ih t hw.2 ht.1 ht.2
theorem jV:∀(p q:List Op3) (n:Int),Xb (p++q) n=match Xb p n with|.ok t=>Xb q t|.error e=>.error e:=by
 intro p
 induction p with
 | nil=>intro q n;rfl
 | cons x p ih =>
  intro q n
  simp only[ZB,Xb]
  cases Xj x n with
  | ok t=>exact ih q t
  | error e=>rfl
theorem Js {p f k n d p1 f1:Int} (h:YC p f k n d=(p1,f1,0)):YA p f=true∧YA p1 f1=true∧Q1 k n d=true∧3≤k∧k≤8:=by
 unfold YC at h
 split at h
 ·simp only[Z2] at h;omega
 rename_i h0
 have hR:YA p f=true:=by cases hr:YA p f with|true=>rfl|false=>exact absurd (Or.inl hr) h0
 have hk:3≤k∧k≤8:=by
  constructor
  ·exact Int.not_lt.1 (fun hc=>h0 (Or.inr (Or.inl hc)))
  exact Int.not_lt.1 (fun hc=>h0 (Or.inr (Or.inr hc)))
 split at h
 ·simp only[Z2] at h;omega
 rename_i hf
 have hF:Q1 k n d=true:=by cases hr:Q1 k n d with|true=>rfl|false=>exact absurd hr hf
 refine⟨hR,?_,hF,hk.1,hk.2⟩
 have hr:=XK.1 hR
 have hfa:=Yg (show decide _=true from hF)
 refine XK.2 ?_
 split at h
 ·rename_i h3
  split at h
  ·rename_i hz
   simp only[Z2] at h
   obtain⟨rfl,rfl,_⟩:=h
   have hn:=hfa.1 (Or.inl h3)
   have e:=Int.ediv_mul_cancel (Int.dvd_of_emod_eq_zero hz)
   have hq:1≤p/n:=by
    apply Yf;intro hc
    have:=Int.mul_le_mul_of_nonneg_right (show p/n≤0 by omega) (show 0≤n by omega)
    omega
   have hq2:p/n≤p:=Int.ediv_le_self n oq
   omega
  simp only[Z2] at h;omega
 split at h
 ·rename_i h4
  split at h
  ·rename_i hz
   simp only[Z2] at h
   obtain⟨rfl,rfl,_⟩:=h
   have hn:=hfa.1 (Or.inr h4)
   have:p*1≤p*n:=Int.mul_le_mul_of_nonneg_left hn.1 oq
   omega
  simp only[Z2] at h;omega
 split at h
 ·rename_i h5
  split at h
  ·unfold fin at h
   have hn:=hfa.2 h5
   have:=Int.ediv_nonneg (Int.mul_nonneg (show 0≤p by omega) hn.2.2.1) (show 0≤d by omega)
   split at h<;>(simp only[Z2] at h;omega)
  simp only[Z2] at h;omega
 split at h
 ·simp only[Z2] at h;omega
 split at h
 ·unfold fin at h
  split at h<;>(simp only[Z2] at h;omega)
 split at h<;>(simp only[Z2] at h;omega)
theorem j8 {p f k N d p1 f1 t i:Int} (h:YC p f k N d=(p1,f1,0)) (hs:Xj (k,N,d) t=.ok i) :
  f+i*p≤f1+t*p1∧(YS (k,N,d)=true→f+i*p<f1+t*p1):=by
 obtain⟨hR,hR1,hF,hk3,hk8⟩:=Js h
 have hr:=XK.1 hR
 have hfa:=Yg (show decide _=true from hF)
 have hst:XE (k,N,d) t=some i:=by
  unfold Xj at hs
  split at hs
  ·cases hs
  cases hx:XE (k,N,d) t with
  | none=>rw[hx] at hs;cases hs
  | some x=>rw[hx] at hs;injection hs with hs;rw[hs]
 unfold YC at h
 rw[ZZ (by rw[hR];simp;omega),ZZ (by rw[hF];simp)] at h
 unfold XE at hst
 simp only at hst
 have kk:k=3∨k=4∨k=5∨k=6∨k=7∨k=8:=oq
 rcases kk with rfl|rfl|rfl|rfl|rfl|rfl
 ·simp only[Z0] at h hst
  injection hst with hst
  subst hst
  split at h
  ·rename_i hz
   simp only[Z2] at h
   obtain⟨rfl,rfl,_⟩:=h
   have hn:=hfa.1 (Or.inl rfl)
   have e:=Int.ediv_mul_cancel (Int.dvd_of_emod_eq_zero hz)
   have q0:0≤p/N:=Int.ediv_nonneg oq oq
   have i1:t/N*N≤t:=Int.ediv_mul_le t oq
   have:t/N*N*(p/N)≤t*(p/N):=Int.mul_le_mul_of_nonneg_right i1 q0
   have e2:t/N*p=t/N*N*(p/N):=by rw[Int.mul_assoc,Int.mul_comm N,e]
   refine⟨oq,fun hd=>?_⟩
   simp[YS] at hd
  simp only[Z2] at h;omega
 ·simp only[Z0,ZZ (show ¬(4:Int)=3 by decide)] at h hst
  split at h
  ·rename_i hz
   split at hst
   ·injection hst with hst
    subst hst
    simp only[Z2] at h
    obtain⟨rfl,rfl,_⟩:=h
    have e:t*N*p=t*(p*N):=by rw[Int.mul_assoc,Int.mul_comm N]
    refine⟨oq,fun hd=>?_⟩
    simp[YS] at hd
   cases hst
  simp only[Z2] at h;omega
 ·simp at h hst
  subst hst
  split at h
  ·rename_i hz
   have hn:=hfa.2 rfl
   have q0:=Int.ediv_nonneg (Int.mul_nonneg (show 0≤p by omega) hn.2.2.1) (show 0≤d by omega)
   unfold fin at h
   split at h
   ·simp only[Z2] at h
    obtain⟨rfl,rfl,_⟩:=h
    refine⟨oq,fun hd=>?_⟩
    simp[YS] at hd
    have n1:1≤N:=oq
    have pn:p*1≤p*N:=Int.mul_le_mul_of_nonneg_left n1 oq
    have e:=Int.ediv_mul_cancel (Int.dvd_of_emod_eq_zero hz)
    have hq:1≤p*N/d:=by
     apply Yf;intro hc
     have:=Int.mul_le_mul_of_nonneg_right (show p*N/d≤0 by omega) (show 0≤d by omega)
     omega
    omega
   simp only[Z2] at h;omega
  simp only[Z2] at h;omega
 ·simp at h hst
  subst hst
  obtain⟨rfl,rfl⟩:=h
  have e:(t-1)*p=t*p-p:=by rw[Int.sub_mul,Int.one_mul]
  exact⟨oq,fun _=>oq⟩
 ·simp at h hst
  obtain⟨_,rfl⟩:=hst
  unfold fin at h
  split at h
  ·simp only[Z2] at h
   obtain⟨rfl,rfl,_⟩:=h
   have e:(t+1)*p=t*p+p:=by rw[Int.add_mul,Int.one_mul]
   refine⟨oq,fun hd=>?_⟩
   simp[YS] at hd
  simp only[Z2] at h;omega
 simp at h hst
 subst hst
 split at h
 ·simp only[Z2] at h
  obtain⟨rfl,rfl,_⟩:=h
  have e:(t-1)*p=t*p-p:=by rw[Int.sub_mul,Int.one_mul]
  refine⟨oq,fun hd=>?_⟩
  simp[YS] at hd
 simp only[Z2] at h;omega
theorem j9:∀(l:List Op3) (p f p' f' n i:Int),YA p f=true→YV p f l=(p',f',0)→Xb l.reverse n=.ok i →
  YA p' f'=true∧f+i*p≤f'+n*p'∧(l.any YS=true→f+i*p<f'+n*p'):=by
 intro l
 induction l with
 | nil =>
  intro p f p' f' n i hr h hb
  simp only[YV,Z2] at h
  obtain⟨rfl,rfl,_⟩:=h
  simp only[List.reverse_nil,Xb] at hb
  injection hb with hb
  subst hb
  exact⟨hr,Int.le_refl _,fun h=>by simp at h⟩
 | cons o r ih =>
  intro p f p' f' n i hr h hb
  obtain⟨k,N,d⟩:=o
  rw[List.reverse_cons,jV] at hb
  rw[YV] at h
  rcases ha:YC p f k N d with ⟨p1,f1,e1⟩
  simp only[ha] at h
  split at h
  ·rename_i he
   subst he
   cases hx:Xb r.reverse n with
   | error e=>rw[hx] at hb;cases hb
   | ok t =>
    rw[hx] at hb
    simp only[Xb] at hb
    cases hs:Xj (k,N,d) t with
    | error e=>rw[hs] at hb;cases hb
    | ok i' =>
     rw[hs] at hb
     injection hb with hb
     subst hb
     have h1:=j8 ha hs
     have h2:=ih p1 f1 p' f' n t (Js ha).2.1 h hx
     refine⟨h2.1,oq,fun hd=>?_⟩
     rw[List.any_cons,Bool.or_eq_true] at hd
     rcases hd with hd|hd
     ·have:=h1.2 hd;omega
     have:=h2.2.2 hd;omega
  rename_i he
  simp only[Z2] at h
  exact absurd h.2.2 he
theorem jX {l:List Op3} {n m:Int} {x:Int} (h:XT l n=(m,x,1)):Xb l.reverse n=.ok m∧0≤m∧m≤1099511627776:=by
 unfold XT at h
 split at h
 ·cases h
 rename_i hc
 have hw:l.reverse.any Y8=false:=by
  rw[List.any_reverse]
  cases hw:l.any Y8 with
  | false=>rfl
  | true=>exact absurd (Or.inr (Or.inr hw)) hc
 rcases uS l.reverse n hw oq oq with ⟨t,h1,h2,h3⟩|⟨N,h1⟩|h1
 ·rw[h1] at h ⊢
  simp only[gk,Z2] at h
  obtain⟨rfl,_,_⟩:=h
  exact⟨rfl,h2,h3⟩
 ·rw[h1] at h
  simp only[gk,Z2] at h
  omega
 rw[h1] at h
 simp only[gk,Z2] at h
 omega
theorem qo {f:FD} {a:AD} {cp cf n m x:Int} (h:X4 f a cp cf=true) (hb:XT a.ops n=(m,x,1)) :
  0≤m∧∃sp sf,Q2 f a.src=some (sp,sf)∧YA sp sf=true∧YA cp cf=true∧sf+m*sp≤cf+n*cp∧(a.ops.any xY=true→sf+m*sp<cf+n*cp):=by
 unfold X4 at h
 cases hs:Q2 f a.src with
 | none=>rw[hs] at h;cases h
 | some s =>
  obtain⟨sp,sf⟩:=s
  rw[hs] at h
  simp only[ZA,Yh] at h
  obtain⟨_,h0,h1,h2⟩:=h
  obtain⟨b1,b2,_⟩:=jX hb
  unfold zw at h0 h1 h2
  by_cases hr:YA sp sf=true
  ·rw[Z0 hr] at h0 h1 h2
   have:=j9 a.ops sp sf cp cf n m hr (by rw[←h0,←h1,←h2]) b1
   exact⟨b2,sp,sf,rfl,hr,this.1,this.2.1,this.2.2⟩
  rw[ZZ hr] at h0
  simp at h0
end Go.Proofs.YtlhlcdjiafdoeaaGreatDoor.syn
