/-
  Parts of the proof: Flt20, Rgt6, Rgt7, Dw5.
-/
import Derived.Test.YtgigilkpndhddaaGreatDoorQ29
import Derived.Test.YtgigilkpndhddaaGreatDoorQ39
import Derived.Test.YtgigilkpndhddaaGreatDoorQ45
namespace Go.Proofs.YtgigilkpndhddaaGreatDoor.syn
set_option linter.unusedVariables false
set_option linter.unusedSimpArgs false
set_option linter.unnecessarySimpa false
set_option maxRecDepth 100000
set_option maxHeartbeats 16000000
open Go.RowKit Go.Shelf
theorem kt {w:World} (p:PG) (an ai af ao:Option Addr) (cn ci cf co:Nat) (hp:AP w p an ai af ao cn ci cf co) (hz:NZ w p.nodes an) (hok:Jy p) (hN:UJ p) (hps:∀x∈p.nodes,x.ps.length≤1000) (l:List (Int × Int)) (n:Nat) (hn:l.length=n) (bc:Nat) (hbc:bc<w.heap.size) (hl:l.length≤1000) (hc:zl w bc l) :
  Calls Tryz.prog 20 #[pv p an ai af ao cn ci cf co,.slice (some ⟨bc,0,none⟩) n n] w fun x w'=>vi p w.heap.size x w'∧Below w.heap.size w w':=by
 subst hn
 exact eh p an ai af ao cn ci cf co hp hz hok hN hps l bc hbc hl hc
theorem VC.stays {p:PG} {env:Env} {base:Nat} {w w':World} {v:Value} (h:VC p env base w v) (hst:YM 34 w w'):VC p env base w' v:=by
 obtain⟨vI,vN,vT,vL,h0,h1,h2,h3,h4⟩:=h
 exact⟨vI,vN,vT,vL,h0,h1.stays hst (by decide) (fun c x hc=>hc),h2.stays hst (by decide) (fun c x hc=>hc.stays hst (by decide) (by decide)),h3.stays hst (by decide) (fun c x hc=>hc.stays hst (by decide) (by decide)),h4.stays hst (by decide) (fun c x hc=>hc.stays hst (by decide))⟩
def jO (p:PG) (base:Nat) (x:Ending) (w':World):Prop :=
 x=.returned (.tuple #[QE,.bool false]) ∨
  ∃v env,x=.returned (.tuple #[v,.bool true])∧VC p env base w' v∧VK p∧UJ p∧qD p env∧(YI p.flows 0).length≤30∧JC p (xI p) (fI p) (iI p) p.flows 0=true
theorem gM {w:World} (p:PG) (an ai af ao:Option Addr) (cn ci cf co:Nat) (hp:AP w p an ai af ao cn ci cf co) (hz:NZ w p.nodes an) (hsm:qh p) :
  Calls Tryz.prog 7 #[pv p an ai af ao cn ci cf co] w fun x w'=>jO p w.heap.size x w'∧Below w.heap.size w w':=by
 have HRI:=hid (fun(w':World) (hb:Below w.heap.size w w')=>ej (w:=w') p an ai af ao cn ci cf co (hp.below hb) hsm)
 have HNA:=hid (fun(w':World) (hb:Below w.heap.size w w') (hr:VK p)=>vU (w:=w') p.nodes p.ins p.flows p.outs an ai af ao cn ci cf co (hp.below hb) (by have:=hr.lens;omega) (by have:=hr.lens;omega) (by have:=hr.lens;omega) (by have:=hr.lens;omega) (fun x hx=>by have:=(hr.nodes x hx).2.1;omega))
 have HCL:=hid (fun(w':World) (hb:Below w.heap.size w w') (hr:VK p)=>Gj (w:=w') p an ai af ao cn ci cf co (hp.below hb) hr.ok.sums (by have:=hr.lens;omega) hr.ok.ins)
 have HMA:=hid (fun(w':World) (hb:Below w.heap.size w w') (hr:VK p) (hn:UJ p) l n (hln:l.length=n) bc (hbc:bc<w'.heap.size) (hl:l.length≤1000) (hc:zl w' bc l)=>kt (w:=w') p an ai af ao cn ci cf co (hp.below hb) (hz.below hp.nodes hb) hr.ok hn (fun x hx=>by have:=(hr.nodes x hx).2.1;omega) l n hln bc hbc hl hc)
 clear hp hz hsm
 unfold pv at *
 go_enter Tryz.func7,Tryz.ntmps7
 go_upto_region 1 with fail
 obtain⟨W2,hW2⟩:∃W2,(w.alloc (.cells #[.slice an p.nodes.length cn,.slice ai p.ins.length ci,.slice af p.flows.length cf,.slice ao p.outs.length co] 27)).alloc (.cells #[.slice none 0 0,.slice none 0 0,.slice none 0 0,.slice none 0 0] 34)=W2:=⟨_,rfl⟩
 rw[hW2]
 have hB:Below w.heap.size w W2:=by rw[←hW2];exact bq
 have hs2:w.heap.size+2≤W2.heap.size:=by rw[←hW2];simp
 have hq0:W2.heap[w.heap.size]?=some (.cells #[.slice an p.nodes.length cn,.slice ai p.ins.length ci,.slice af p.flows.length cf,.slice ao p.outs.length co] 27 (0,0)):=by rw[←hW2];exact(Za _ _ _ (by simp)).trans (Yp w _)
 have hq1:W2.heap[w.heap.size+1]?=some (.cells #[.slice none 0 0,.slice none 0 0,.slice none 0 0,.slice none 0 0] 34 (0,0)):=by rw[←hW2];simpa using Yp (w.alloc (.cells #[.slice an p.nodes.length cn,.slice ai p.ins.length ci,.slice af p.flows.length cf,.slice ao p.outs.length co] 27)) (.cells #[.slice none 0 0,.slice none 0 0,.slice none 0 0,.slice none 0 0] 34)
 have HB:=hid hB
 have HQ0:=hid hq0
 have HQ1:=hid hq1
 obtain⟨⟨x0,x1,x2,x3⟩,xf⟩:=Yq hq0
 have hl0:w.heap.size<W2.heap.size:=oq
 have hl1:w.heap.size+1<W2.heap.size:=oq
 clear hW2 hB hq0 hq1
 go_wp2_with (first
  | (go_at_call 17;refine(HRI.out _ HB.out).mono ?_;rintro x w3 ⟨⟨b3,rfl,hb3⟩,hlo3⟩;have HL3:=hid (show Below W2.heap.size W2 w3 from hlo3);obtain⟨⟨y0,y1,y2,y3⟩,yf⟩:=Yq ((HL3.out.block _ hl0).trans HQ0.out);obtain⟨⟨v0,v1,v2,v3⟩,vf⟩:=Yq ((HL3.out.block _ hl1).trans HQ1.out);have hz3:=HL3.out.size;have HR3:=hid hb3;clear hb3 hlo3;cases b3)
  | (go_at_call 18;refine(HNA.out _ (HB.out.trans (HL3.out.mono oq)) (HR3.out (by trivial))).mono ?_;rintro x w4 ⟨⟨b4,rfl,hb4⟩,hlo4⟩;have HL4:=hid (HL3.out.trans (hlo4.mono hz3));obtain⟨⟨y0,y1,y2,y3⟩,yf⟩:=Yq ((HL4.out.block _ hl0).trans HQ0.out);obtain⟨⟨v0,v1,v2,v3⟩,vf⟩:=Yq ((HL4.out.block _ hl1).trans HQ1.out);have hz4:=HL4.out.size;have HN4:=hid hb4;clear hb4 hlo4;cases b4)
  | (go_at_call 19;refine(HCL.out _ (HB.out.trans (HL4.out.mono oq)) (HR3.out (by trivial))).mono ?_;rintro x w5 ⟨(⟨a5,e5,he5,rfl⟩|⟨v5,env5,rfl,hck5,⟨b5,rfl,hb5,hc5⟩⟩),hlo5⟩<;>(have HL5:=hid (HL4.out.trans (hlo5.mono hz4));(obtain⟨⟨y0,y1,y2,y3⟩,yf⟩:=Yq ((HL5.out.block _ hl0).trans HQ0.out));(obtain⟨⟨v0,v1,v2,v3⟩,vf⟩:=Yq ((HL5.out.block _ hl1).trans HQ1.out));have hz5:=HL5.out.size;first|(have hne5:(e5 != 0)=true:=bne_iff_ne.2 he5)|(have HC5:=hid hc5;clear hc5);clear hlo5))
  | (go_at_call 20;refine(HMA.out _ (HB.out.trans (HL5.out.mono oq)) (HR3.out (by trivial)) (HN4.out (by trivial)) (p.flows.map (fun f:FL=>Jw env5 f.nm)) _ (Zo ..) b5 hb5 (by rw[Zo];have:=(HR3.out (by trivial)).lens;omega) HC5.out).mono ?_;rintro x w6 ⟨(⟨a6,e6,he6,rfl⟩|⟨v6,env,rfl,hmk,hck,h30,hfew⟩),hlo6⟩<;>(have HL6:=hid (HL5.out.trans (hlo6.mono hz5));(obtain⟨⟨v0,v1,v2,v3⟩,vf⟩:=Yq ((HL6.out.block _ hl1).trans HQ1.out));have hz6:=HL6.out.size;have hk6:w.heap.size+1<w6.heap.size:=oq;have hk6n:¬w.heap.size+1=w6.heap.size:=oq;have hle6:w.heap.size≤w5.heap.size:=oq;first|(have hne6:(e6 == 0)=false:=ZY.2 he6;unfold QE)|(have HMK:=hid hmk;obtain⟨aI,cI,aN,cN,aT,cT,aL,cL,rfl⟩:=hmk.form;clear hmk);clear hlo6)))
 all_goals first
  | (have hq7:=(HL6.out.block _ hl1).trans HQ1.out;refine Zl (v:=.tuple #[.agg #[.slice aI p.ins.length cI,.slice aN p.nodes.length cN,.slice aT (YI p.flows 0).length cT,.slice aL p.outs.length cL],.bool true]) ?_ rfl ⟨.inr ⟨_,env,rfl,(HMK.out.mono hle6).stays ((YM.of_upon hq7 (yT _ _ _ _ _ _)).trans (YM.of_below ((Zg _ _).alloc (Zc _) _))),HR3.out (by trivial),HN4.out (by trivial),hck,h30,hfew⟩,?_⟩;(focus (simp only[results,Tryz.results7];go_simp));exact bq)
  | (have hgd:=HL6.out;refine Zl (v:=.tuple #[QE,.bool false]) ?_ rfl ⟨.inl rfl,?_⟩;(focus (unfold QE;simp only[results,Tryz.results7];go_simp));exact bq)
  | (have hgd:=HL5.out;refine Zl (v:=.tuple #[QE,.bool false]) ?_ rfl ⟨.inl rfl,?_⟩;(focus (unfold QE;simp only[results,Tryz.results7];go_simp));exact bq)
  | (have hgd:=HL4.out;refine Zl (v:=.tuple #[QE,.bool false]) ?_ rfl ⟨.inl rfl,?_⟩;(focus (unfold QE;simp only[results,Tryz.results7];go_simp));exact bq)
  | (have hgd:=HL3.out;refine Zl (v:=.tuple #[QE,.bool false]) ?_ rfl ⟨.inl rfl,?_⟩;(focus (unfold QE;simp only[results,Tryz.results7];go_simp));exact bq)
  | skip
theorem flat_get {α:Type} {size:Nat}:∀(cs:List (List α)) (i j:Nat),(∀c∈cs,c.length=size)→∀h:i<cs.length,j<size→cs.flatten[i*size+j]?=cs[i][j]?
 | [],i,j,_,h,_=>absurd h (Yk _)
 | c::cs,0,j,hl,_,hj=>by
  have h1:c.length=size:=hl c (by simp)
  rw[List.flatten_cons,Nat.zero_mul,ZD,List.getElem?_append_left oq]
  rfl
 | c::cs,i+1,j,hl,h,hj=>by
  have h1:c.length=size:=hl c (by simp)
  have e:(i+1)*size+j=c.length+(i*size+j):=by rw[h1,Nat.succ_mul];omega
  rw[List.flatten_cons,e,List.getElem?_append_right oq,Nat.add_sub_cancel_left]
  rw[flat_get cs i j (fun c' hc=>hl c' (by simp[hc])) (by simpa using h) hj]
  rfl
theorem Y6.row {α β:Type} {Pe:World→List Value→α→Prop} {P:World→Nat→Nat→β→Prop} {e:TypeId} {size:Nat} {w:World} {base:Nat} {v:Value} {l:List α} (F:α→β) (h:Y6 Pe e size w base v l)
  (hP:∀(g o:Nat) (c:List Value) (x:α),g<w.heap.size→x∈l→c.length=size→Pe w c x→(∀j,j<size→w.cell? ⟨g,o+j,none⟩=c[j]?)→P w g o (F x)) :
  ∃ad cap,v=.slice ad l.length cap∧Row P size w (l.map F) ad:=by
 obtain⟨cs,h1,h2,h3,h4⟩:=h
 rcases h2.2 with ⟨rfl,h0⟩|⟨g,cap,cur,rfl,hbg,hg,hnc,hcm,hcs,htk⟩
 ·obtain rfl:l=[]:=Yd h0
  exact⟨none,0,rfl,.inl rfl⟩
 refine⟨_,_,rfl,?_⟩
 by_cases hl:l=[]
 ·exact .inl (by rw[hl];rfl)
 refine .inr ⟨g,0,rfl,Zb hg,fun i hi=>?_⟩
 have hi2:i<l.length:=by simpa using hi
 have hi3:i<cs.length:=oq
 rw[List.getElem_map]
 refine hP g _ cs[i] l[i] (Zb hg) (Zi hi2) (h3 _ (Zi hi3)) (h4 i hi2 hi3) (fun j hj=>?_)
 rw[←flat_get cs i j h3 hi3 hj,←htk,Yn (by
  have:(i+1)*size≤l.length*size:=Nat.mul_le_mul_right _ hi2
  rw[Nat.succ_mul] at this
  omega),Array.getElem?_toList,ZD]
 exact Ut hg _
theorem EN:∀l:List Op3,Qf l=(l.map opL).flatten
 | []=>rfl
 | o::l=>by
  rw[List.map_cons,List.flatten_cons,←EN l]
  rfl
theorem j6 {w:World} {base:Nat} {v:Value} {ops:List Op3} (h:w.ownsRow base 156 3 v ops.length (Qf ops)):∃ad cap,v=.slice ad ops.length cap∧Row OpR 3 w ops ad:=by
 have hm:Y6 (fun _ c (x:Op3)=>c=opL x) 156 3 w base v ops:=⟨ops.map opL,by simp,by rw[←EN];exact h,fun c hc=>by obtain⟨x,_,rfl⟩:=Ye.1 hc;rfl,fun i hi hi'=>by rw[List.getElem_map]⟩
 have:=hm.row (P:=OpR) (fun x=>x) (fun g o c x hg hx hc hPe hcell=>by
  subst hPe
  exact⟨hcell 0 oq,hcell 1 oq,hcell 2 oq⟩)
 rwa [List.map_id'] at this
theorem Zaq {w:World} {base:Nat} {v:Value} {l:List (Int × Int)} (h:Y6 xi 62 2 w base v l):∃ad cap,v=.slice ad l.length cap∧Row ZaN 2 w l ad:=by
 have:=h.row (P:=ZaN) (fun x=>x) (fun g o c x hg hx hc hPe hcell=>by
  have hPe:c=[.int .i64 x.1,.int .i64 x.2]:=hPe
  subst hPe
  exact⟨hcell 0 oq,hcell 1 oq⟩)
 rwa [List.map_id'] at this
def ZaA (a:Nat × List Op3):AD:=⟨(a.1:Int),a.2⟩
def qA (t:TK):TD:=⟨t.node,t.per,t.ph,t.args.map ZaA⟩
def Zbf (t:TL):LD:=⟨t.per,t.ph,⟨(t.src:Int),t.ops⟩,t.dl⟩
def Zcz (x:ND):NB:=⟨x.bud,x.ps.length⟩
theorem ZaM {w:World} {base:Nat} {v:Value} {l:List (Nat × List Op3)} (h:Y6 (VM base) 69 2 w base v l):∃ad cap,v=.slice ad l.length cap∧Row qb 2 w (l.map ZaA) ad :=
 h.row (P:=qb) ZaA (fun g o c x hg hx hc hPe hcell=>by
  obtain⟨u,rfl,ho⟩:=hPe
  obtain⟨ad2,cap2,rfl,hr⟩:=j6 ho
  exact⟨hcell 0 oq,ad2,cap2,hcell 1 oq,hr⟩)
theorem eD {w:World} {base:Nat} {v:Value} {l:List TK} (h:Y6 (QI base) 65 4 w base v l):∃ad cap,v=.slice ad l.length cap∧Row ge 4 w (l.map qA) ad :=
 h.row (P:=ge) qA (fun g o c x hg hx hc hPe hcell=>by
  obtain⟨u,rfl,ho⟩:=hPe
  obtain⟨ad2,cap2,rfl,hr⟩:=ZaM ho
  exact⟨hcell 0 oq,hcell 1 oq,hcell 2 oq,ad2,cap2,by rw[show(qA x).args.length=x.args.length by simp[qA]];exact hcell 3 oq,hr⟩)
theorem eG {w:World} {base:Nat} {v:Value} {l:List TL} (h:Y6 (QS base) 71 5 w base v l):∃ad cap,v=.slice ad l.length cap∧Row ZaX 5 w (l.map Zbf) ad :=
 h.row (P:=ZaX) Zbf (fun g o c x hg hx hc hPe hcell=>by
  obtain⟨u,rfl,ho⟩:=hPe
  obtain⟨ad2,cap2,rfl,hr⟩:=j6 ho
  exact⟨hcell 0 oq,hcell 1 oq,hcell 2 oq,hcell 4 oq,ad2,cap2,hcell 3 oq,hr⟩)
theorem eZ {w:World} {base:Nat} {v:Value} {l:List ND} (h:Y6 Ui 90 10 w base v l):∃ad cap,v=.slice ad l.length cap∧Row NdR 10 w (l.map Zcz) ad :=
 h.row (P:=NdR) Zcz (fun g o c x hg hx hc hPe hcell=>by
  obtain⟨pa,pc,ad,cap,rfl,_⟩:=hPe
  exact⟨_,_,_,_,_,_,_,_,_,_,_,_,hcell 0 oq,hcell 1 oq,hcell 2 oq,hcell 3 oq,hcell 4 oq,hcell 5 oq,hcell 6 oq,hcell 7 oq,hcell 8 oq,hcell 9 oq⟩)
theorem UK {flows:List FL} {nI:Nat} {xIx fIx iIx:IE}:∀(N:Nat) (e:PE) (way:ByteArray) (ops:List Op3) (r:Nat × List Op3),ops.length≤21→Xw flows nI xIx fIx iIx N e way ops=some r→r.2.length≤21
 | 0,e,way,ops,r,hl,h=>by cases h
 | N+1,e,way,ops,r,hl,h=>by
  unfold Xw at h
  split at h
  ·cases h;exact hl
  rename_i h20
  split at h
  ·cases h;exact hl
  split at h
  ·split at h
   ·exact UK N _ _ _ r (by rw[Zx,Zp,Zw];omega) h
   cases h
  split at h
  ·split at h
   ·exact UK N _ _ _ r hl h
   cases h
  cases h;exact hl
theorem UR {flows:List FL} {nI:Nat} {xIx fIx iIx:IE} (hx:∀k j,xIx k=some j→j≤1000) (hi:∀k j,iIx k=some j→j≤1000) (hn:nI≤1000):∀(N:Nat) (e:PE) (way:ByteArray) (ops:List Op3) (r:Nat × List Op3),Xw flows nI xIx fIx iIx N e way ops=some r→r.1≤2000
 | 0,e,way,ops,r,h=>by cases h
 | N+1,e,way,ops,r,h=>by
  unfold Xw at h
  split at h
  ·cases h;exact Zk _
  split at h
  ·cases h
   show nI+(xIx way).getD 0≤2000
   cases hq:xIx way with
   | none=>simp;omega
   | some j=>have:=hx _ _ hq;simp;omega
  split at h
  ·split at h
   ·exact UR hx hi hn N _ _ _ r h
   cases h
  split at h
  ·split at h
   ·exact UR hx hi hn N _ _ _ r h
   cases h
  cases h
  show(iIx e.nm).getD 0≤2000
  cases hq:iIx e.nm with
  | none=>simp
  | some j=>have:=hi _ _ hq;simp;omega
theorem eT:∀(l:PL) (way:ByteArray) (i:Nat),exR l=true→∀s∈X6 l way i,YE s.1=true∧s.1.args.sz+1≤l.sz:=by
 intro l
 induction l with
 | nil=>intro way i h s hs;simp[X6] at hs
 | cons k nm n d args a tl ih1 ih2 =>
  intro way i h s hs
  have h0:=E2 (.cons k nm n d args a tl) 0 ⟨k,nm,n,d,args,a⟩ h rfl
  have h1:exR args=true:=by
   have:=h0
   unfold YE at this
   rw[ZB] at this
   exact this.1
  have h2:exR tl=true:=by
   rw[exR,ZB] at h
   exact h.2
  simp only[X6,ZR,List.mem_append] at hs
  rw[show(PL.cons k nm n d args a tl).sz=args.sz+1+tl.sz from rfl]
  rcases hs with rfl|hs|hs
  ·exact⟨h0,by show args.sz+1≤_;omega⟩
  ·obtain⟨h3,h4⟩:=ih1 _ _ h1 s hs
   exact⟨h3,oq⟩
  obtain⟨h3,h4⟩:=ih2 _ _ h2 s hs
  exact⟨h3,oq⟩
theorem ke {e:PE} {way:ByteArray} (h:YE e=true):∀s∈Xi e way,YE s.1=true∧s.1.args.sz+1≤e.sz:=by
 intro s hs
 unfold Xi at hs
 rcases ZR.1 hs with rfl|hs
 ·exact⟨h,Zc _⟩
 have h1:=h
 unfold YE at h1
 rw[ZB] at h1
 obtain⟨h3,h4⟩:=eT _ _ _ h1.1 s hs
 exact⟨h3,by unfold PE.sz;omega⟩
theorem ES:∀(l:List FL) (i:Nat),(∀f∈l,f.e.sz≤100∧YE f.e=true)→∀s∈YI l i,YE s.1=true∧s.1.args.sz+1≤100∧s.1.k=2
 | [],i,h,s,hs=>by simp[YI] at hs
 | f::l,i,h,s,hs=>by
  unfold YI at hs
  rcases List.mem_append.1 hs with hs|hs
  ·obtain⟨h1,h2⟩:=List.mem_filter.1 hs
   obtain⟨h3,h4⟩:=ke (h f (by simp)).2 s h1
   have:=(h f (by simp)).1
   exact⟨h3,oq,by simpa [isC] using h2⟩
  exact ES l (i+1) (fun f' hf=>h f' (by simp[hf])) s hs
theorem gO:∀(l:PL) (way:ByteArray) (i:Nat),exR l=true→∀k∈Qh l way i,YE k.1=true:=by
 intro l
 induction l with
 | nil=>intro way i h k hk;simp[Qh] at hk
 | cons k nm n d args a tl ih1 ih2 =>
  intro way i h s hs
  have h0:=E2 (.cons k nm n d args a tl) 0 ⟨k,nm,n,d,args,a⟩ h rfl
  have h2:exR tl=true:=by
   rw[exR,ZB] at h
   exact h.2
  simp only[Qh,ZR] at hs
  rcases hs with rfl|hs
  ·exact h0
  exact ih2 _ _ h2 s hs
noncomputable def eW (p:PG) (env:Env):FD :=
 ⟨p.ins.map (fun x=>(x.per,x.ph)),p.nodes.map Zcz,(YI p.flows 0).map (fun s=>qA (tkR p (xI p) (fI p) (iI p) (nI p) (zj p env) s)),p.outs.map (fun o=>Zbf (tlR p (xI p) (fI p) (iI p) (zj p env) o))⟩
theorem vl {p:PG} (hE:∀e:PE,YE e=true→Y7 p.flows p.ins.length (xI p) (fI p) (iI p) e) (h30:(YI p.flows 0).length≤30) (hin:p.ins.length≤1000) {e:PE} (he:YE e=true) (way:ByteArray) :
  (Vl p (xI p) (fI p) (iI p) e way).2.length≤21∧(Vl p (xI p) (fI p) (iI p) e way).1≤2000:=by
 obtain⟨N,hN⟩:=Vd (hE e he) way
 exact⟨UK N _ _ _ _ (by simp) hN,UR (zK _ _ _ 1000 (by rw[Zo];omega) (fun k j h=>by cases h)) (zK _ _ _ 1000 (by rw[Zo];omega) (fun k j h=>by cases h)) hin N _ _ _ _ hN⟩
theorem ZaG {p:PG} {env:Env} {base:Nat} {w:World} {v:Value} (h:VC p env base w v) (hok:Jy p) (hE:∀e:PE,YE e=true→Y7 p.flows p.ins.length (xI p) (fI p) (iI p) e) (h30:(YI p.flows 0).length≤30)
  (hout:∀o∈p.outs,∃j,fI p o.fl=some j∧j<p.flows.length) :
  ∃ai an aT al ci cn ct cl,v=fv (eW p env) ai an aT al ci cn ct cl∧FAP w (eW p env) ai an aT al:=by
 obtain⟨vI,vN,vT,vL,rfl,r1,r2,r3,r4⟩:=h
 obtain⟨ai,ci,rfl,q1⟩:=Zaq r1
 obtain⟨an,cn,rfl,q2⟩:=eZ r2
 obtain⟨aT,ct,rfl,q3⟩:=eD r3
 obtain⟨al,cl,rfl,q4⟩:=eG r4
 have hl:=hok.lens
 rw[List.map_map] at q3 q4
 refine⟨ai,an,aT,al,ci,cn,ct,cl,by unfold fv eW;simp only[Zo],q1,q2,q3,q4,by unfold eW;simp only[Zo];omega,?_,?_⟩
 ·intro t ht
  obtain⟨s,hs,rfl⟩:=Ye.1 ht
  obtain⟨h1,h2,_⟩:=ES p.flows 0 hok.flows s hs
  have h3:=Qt s.1.args
  have h4:exR s.1.args=true:=by
   unfold YE at h1
   rw[ZB] at h1
   exact h1.1
  refine⟨by simp[qA,tkR,Vh];omega,fun a ha=>?_⟩
  simp only[qA,tkR,List.map_map,Ye] at ha
  obtain⟨kd,hkd,rfl⟩:=ha
  obtain⟨g1,g2⟩:=vl hE h30 oq (gO _ _ _ h4 kd hkd) kd.2
  simp only[Function.comp,ZaA,List.length_reverse,I64]
  omega
 intro t ht
 obtain⟨o,ho,rfl⟩:=Ye.1 ht
 obtain⟨j,hj,hjl⟩:=hout o ho
 have hx:YE (flE p ((fI p o.fl).getD 0))=true:=by
  rw[hj]
  unfold flE
  rw[Z9,Ze hjl]
  exact(hok.flows _ (Zi hjl)).2
 obtain⟨g1,g2⟩:=vl hE h30 oq hx (dg ((fI p o.fl).getD 0))
 simp only[Zbf,tlR,List.length_reverse,I64]
 omega
open Go.RowKit
theorem Zcv {p:PG} {base:Nat} {x:Ending} {w':World} (h:jO p base x w'):MdF x w':=by
 rcases h with h|⟨v,env,hx,hmk,hr,hN,hC,h30,hfew⟩
 ·exact .inl h
 have hok:=hr.ok
 have hE:=zx hok hN hC
 have hout:∀o∈p.outs,∃j,fI p o.fl=some j∧j<p.flows.length:=fun o ho=>by
  obtain⟨i,hi,hoi⟩:=Yl ho
  have:=hN.outs i hi
  rw[hoi] at this
  exact eA this
 obtain⟨ai,an,aT,al,ci,cn,ct,cl,hv,hf⟩:=ZaG hmk hok hE h30 hout
 exact .inr ⟨eW p env,ai,an,aT,al,ci,cn,ct,cl,by rw[hx,hv],hf⟩
end Go.Proofs.YtgigilkpndhddaaGreatDoor.syn
