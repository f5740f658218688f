/-
  Parts of the proof: Dl6.
-/
import Derived.Test.YtgigilkpndhddaaGreatDoorQ35
namespace Go.Proofs.YtgigilkpndhddaaGreatDoor.syn
set_option linter.unusedVariables false
set_option linter.unusedSimpArgs false
set_option linter.unnecessarySimpa false
set_option maxRecDepth 100000
set_option maxHeartbeats 16000000
open Go.RowKit Go.Shelf Go.Sort
attribute [local go_sem] ZT
def ZcT (w:World) (f:FD) (ai an aT al:Option Addr) (ci cn ct cl:Nat) (order:List Int) (u:Int) (e:Ending) (w':World):Prop :=
 ∃wb pb ja cj B,e=.returned (.pointer (some ⟨wb,0,none⟩))∧Xv f order u B∧Qs w' f ai an aT al ci cn ct cl u wb pb f.tasks.length ja cj B (B.map (mkJ f)).toArray∧Below w.heap.size w w'∧(∀b,jaB ja=some b→w.heap.size≤b)
def S15 (bw wb b14 pb T:Nat) (tt:Int) (w':World):Prop:=w'.cell? ⟨bw,0,none⟩=some (.pointer (some ⟨wb,0,none⟩))∧w'.cell? ⟨wb,6,none⟩=some (.slice (some ⟨pb,0,none⟩) T T)∧w'.cell? ⟨b14,0,none⟩=some (.int .i64 tt)
theorem kO {bw wb b14 pb T:Nat} {tt:Int} {W W':World} (h:S15 bw wb b14 pb T tt W) (h1:W'.heap[bw]?=W.heap[bw]?) (h2:W'.heap[wb]?=W.heap[wb]?) (h3:W'.heap[b14]?=W.heap[b14]?):S15 bw wb b14 pb T tt W' :=
 ⟨(Zn (w:=W) (a:=⟨bw,0,none⟩) h1).trans h.1,(Zn (w:=W) (a:=⟨wb,6,none⟩) h2).trans h.2.1,(Zn (w:=W) (a:=⟨b14,0,none⟩) h3).trans h.2.2⟩
theorem kL {A B:World} {row:Option Nat} {b:Nat} {p f:Int} (h:UV A b p f) (hg:A.grownBy B row) (hr:∀r,row=some r→∃o:Obj,A.heap[r]?=some o∧o.isCells=false):UV B b p f :=
 (hg.block b (Zb h) (fun e=>by obtain⟨o,ho,hc⟩:=hr b e.symm;rw[show A.heap[b]?=_ from h] at ho;injection ho with ho;subst ho;cases hc)).trans h
theorem Vj {B:Nat} {W w4:World} {v v':Value} {wb o base n:Nat} {xs:List Value} {t e:TypeId} {sz:Nat} (ho:W.ownsRow base e sz v n xs) (hb:But (fun k=>v.ownBlock=some k) W w4) {x:Array Value} (hx:W.heap[wb]?=some (.cells x t (0,0))):KeepsFrom B W (w4.setCell ⟨wb,o,none⟩ v'):=by
 refine⟨by simpa using hb.size,fun k ob _ hk hc=>?_⟩
 have h1:v.ownBlock≠some k:=fun e=>by
  rcases ho.2 with ⟨rfl,_⟩|⟨g,cap,cur,rfl,_,hg,_⟩
  ·cases e
  injection e with e
  subst e
  rw[hg] at hk
  injection hk with hk
  subst hk
  cases hc
 have h2:k≠wb:=fun e=>by subst e;rw[hx] at hk;injection hk with hk;subst hk;cases hc
 exact(Zr _ _ _ _ (fun e=>h2 e)).trans ((hb.block k (Zb hk) h1).trans hk)
def S9 (bw wb b9 b10:Nat) (t per:Int) (w':World):Prop:=w'.cell? ⟨bw,0,none⟩=some (.pointer (some ⟨wb,0,none⟩))∧w'.cell? ⟨b9,0,none⟩=some (.int .i64 t)∧w'.cell? ⟨b10,0,none⟩=some (.int .i64 per)
theorem Zbd {bw wb b9 b10:Nat} {t per:Int} {W W':World} (h:S9 bw wb b9 b10 t per W) (h1:W'.heap[bw]?=W.heap[bw]?) (h2:W'.heap[b9]?=W.heap[b9]?) (h3:W'.heap[b10]?=W.heap[b10]?):S9 bw wb b9 b10 t per W' :=
 ⟨(Zn (w:=W) (a:=⟨bw,0,none⟩) h1).trans h.1,(Zn (w:=W) (a:=⟨b9,0,none⟩) h2).trans h.2.1,(Zn (w:=W) (a:=⟨b10,0,none⟩) h3).trans h.2.2⟩
theorem G8 {w:World} (f:FD) (ai an aT al:Option Addr) (ci cn ct cl:Nat) (hf:FAP w f ai an aT al) (hc:Ec f) (hT:f.tasks.length≤30) (order:List Int) (ao:Option Addr) (co:Nat) (hro:Row Uz 1 w order ao) (ho:YN f order) (u:Int) (hu:u≤20000) :
  CallsIn Fence.wide 6 Tryz.prog 24 #[fv f ai an aT al ci cn ct cl,.slice ao order.length co,.int .i64 u] w (ZcT w f ai an aT al ci cn ct cl order u):=by
 have HTK:=hid hf.tasks
 have HCK:=hid hc
 have HCL:=hid (fun t ht=>Kx (t:=t) hc hu ht)
 have HJL:=hid (qz hc hu ho.rng)
 have HRO:=hid hro
 have HO:=hid ho
 have HRNG:=hid ho.rng
 have hno:order.length≤30:=by
  have:=List.Nodup.length_le_of_subset (l₂:=(List.range f.tasks.length).map (fun k:Nat=>(k:Int))) ho.nd (by
   intro y hy
   have:=ho.rng y hy
   exact Ye.2 ⟨y.toNat,List.mem_range.2 oq,oq⟩)
  rw[Zo,List.length_range] at this
  omega
 clear hf hc hro ho
 unfold fv
 obtain⟨T,hTT⟩:∃T,f.tasks.length=T:=⟨_,rfl⟩
 rw[hTT] at hT HCL HRNG ⊢
 have HTT:=hid hTT
 clear hTT
 obtain⟨no,hnn⟩:∃no,order.length=no:=⟨_,rfl⟩
 rw[hnn] at hno HJL ⊢
 have HNO:=hid hnn
 clear hnn
 refine callsIn_of_wp_marks Tryz.func24 rfl trivial ?_ rfl
 simp only[Tryz.ntmps24,ZI,Zp,Zw,Nat.reduceAdd,Nat.reduceSub,ZF,ZE,ZL,ZJ,ZM,ZC]
 have hmk:=fun W=>run_make_row' (P:=Tryz.prog) 82 41 (.slice none 0 0) 24 Tryz.underlying82 Zab rfl .i64 .i64 T oq oq W
 gi_upto_region 1 with fail
 obtain⟨W1,hW1⟩:∃W1,w.alloc (.cells #[.slice ai f.ins.length ci,.slice an f.nods.length cn,.slice aT T ct,.slice al f.tells.length cl] 34)=W1:=⟨_,rfl⟩
 have hB1:Below w.heap.size w W1:=by rw[←hW1];exact bq
 have hs1:W1.heap.size=w.heap.size+1:=by rw[←hW1];simp
 have hq1:W1.heap[w.heap.size]?=some (.cells #[.slice ai f.ins.length ci,.slice an f.nods.length cn,.slice aT T ct,.slice al f.tells.length cl] 34 (0,0)):=by rw[←hW1];exact Yp w _
 rw[hW1]
 clear hW1
 refine wpIn_cut (fun a' W'=>Hid (∃pb wb bw,a'.defers=[]∧a'.tmps.size=93∧slt a'.tmps 1=.slice ao no co∧slt a'.tmps 2=.int .i64 u∧slt a'.tmps 3=.pointer (some ⟨w.heap.size,0,none⟩)∧slt a'.tmps 6=.pointer none∧slt a'.tmps 7=.pointer (some ⟨bw,0,none⟩)∧NwS w W' #[.slice ai f.ins.length ci,.slice an f.nods.length cn,.slice aT T ct,.slice al f.tells.length cl] #[.slice ai f.ins.length ci,.slice an f.nods.length cn,.slice aT T ct,.slice al f.tells.length cl,.int .i64 u,.slice none 0 0,.slice (some ⟨pb,0,none⟩) T T] T w.heap.size bw wb pb)) ?rest ?first
 case first =>
  clear HTK HCK HCL HJL HRO HO HRNG HTT HNO
  intro J0 K0 hJ0 hK0
  have HJ0:=hid hJ0
  have HK0:=hid hK0
  clear hJ0 hK0
  obtain⟨⟨x0,x1,x2,x3⟩,xf⟩:=Yq hq1
  have hl1:w.heap.size<W1.heap.size:=oq
  have KS0:=hid (show(fun w'=>w'.cell? ⟨w.heap.size,0,none⟩=some (.slice ai f.ins.length ci)∧w'.cell? ⟨w.heap.size,1,none⟩=some (.slice an f.nods.length cn)∧w'.cell? ⟨w.heap.size,2,none⟩=some (.slice aT T ct)∧w'.cell? ⟨w.heap.size,3,none⟩=some (.slice al f.tells.length cl)) W1.drew from ⟨x0,x1,x2,x3⟩)
  have KSB:=hid (fun(W':World) (h:W'.heap[w.heap.size]?=W1.heap[w.heap.size]?)=>(show(fun w'=>w'.cell? ⟨w.heap.size,0,none⟩=some (.slice ai f.ins.length ci)∧w'.cell? ⟨w.heap.size,1,none⟩=some (.slice an f.nods.length cn)∧w'.cell? ⟨w.heap.size,2,none⟩=some (.slice aT T ct)∧w'.cell? ⟨w.heap.size,3,none⟩=some (.slice al f.tells.length cl)) W' from ⟨(Zn (w:=W1) (a:=⟨w.heap.size,0,none⟩) h).trans x0,(Zn (w:=W1) (a:=⟨w.heap.size,1,none⟩) h).trans x1,(Zn (w:=W1) (a:=⟨w.heap.size,2,none⟩) h).trans x2,(Zn (w:=W1) (a:=⟨w.heap.size,3,none⟩) h).trans x3⟩))
  have KS1:=hid (fun(o:Obj)=>KSB.out (W1.alloc o).drew (Za W1 o _ hl1))
  have KS2:=hid (fun(o o':Obj)=>KSB.out ((W1.alloc o).alloc o').drew ((Za _ _ _ (by simp;omega)).trans (Za W1 o _ hl1)))
  have KS3:=hid (fun(o o' o2:Obj)=>KSB.out (((W1.alloc o).alloc o').alloc o2).drew ((Za _ _ _ (by simp;omega)).trans ((Za _ _ _ (by simp;omega)).trans (Za W1 o _ hl1))))
  clear x0 x1 x2 x3 xf
  have HB1:=hid hB1
  have HQ1:=hid hq1
  clear hB1 hq1
  refine wpIn_wide.2 (wp_region_noPanic ?_)
  refine ZO (S:=(fun w'=>w'.cell? ⟨w.heap.size,0,none⟩=some (.slice ai f.ins.length ci)∧w'.cell? ⟨w.heap.size,1,none⟩=some (.slice an f.nods.length cn)∧w'.cell? ⟨w.heap.size,2,none⟩=some (.slice aT T ct)∧w'.cell? ⟨w.heap.size,3,none⟩=some (.slice al f.tells.length cl))) kq (by first|with_reducible exact KS0.out|with_reducible exact KS1.out _|with_reducible exact KS2.out _ _|with_reducible exact KS3.out _ _ _|(trace_state;fail)) (fun hHeld=>?_)
  refine tk 0 hHeld ?_
  refine tk 1 hHeld ?_
  refine tk 2 hHeld ?_
  refine tk 3 hHeld ?_
  refine tk 4 hHeld ?_
  refine rz 5 8 (fun K hK=>?_) fun K hK=>?_
  ·go_simp
   refine hK.out _ _ (fun hHeld=>?_)
   clear hK K
   refine tk 6 hHeld ?_
   refine rz 7 8 (fun K hK=>?_) fun K hK=>?_
   ·go_simp
    refine hK.out _ _ (fun hHeld=>?_)
    clear hK K
    refine ry 8 fun K hK=>?_
    go_simp
    refine hK.out _ _ (fun hHeld=>?_)
    clear hK K
    refine ry 9 fun K hK=>?_
    go_simp
    refine hK.out _ _ (fun hHeld=>?_)
    clear hK K
    refine Zy kq ?_ _
    refine NoPanic.normal ?_
    exact HK0.out _ _ (Met.intro (HJ0.out _ _ (hid ⟨w.heap.size+1,w.heap.size+1+1,w.heap.size+1+1+1,rfl,rfl,rfl,rfl,rfl,rfl,rfl,⟨HB1.out.trans (bq:Below w.heap.size W1 _),oq,oq,(by exact(Za _ _ _ oq).trans ((Za _ _ _ oq).trans ((Za _ _ _ oq).trans HQ1.out))),(by first|exact Ys oq|exact(Za _ _ _ oq).trans (Ys oq)|exact(Za _ _ _ oq).trans ((Za _ _ _ oq).trans (Ys oq))),(by first|exact Ys oq|exact(Za _ _ _ oq).trans (Ys oq)|exact(Za _ _ _ oq).trans ((Za _ _ _ oq).trans (Ys oq))),(by rw[←J1];exact(by first|exact Ys oq|exact(Za _ _ _ oq).trans (Ys oq)|exact(Za _ _ _ oq).trans ((Za _ _ _ oq).trans (Ys oq))))⟩⟩)))
   go_simp
   refine hK.out _ _ (fun hHeld=>?_)
   clear hK K
   refine ry 7 fun K hK=>?_
   go_simp
   refine hK.out _ _ (fun hHeld=>?_)
   clear hK K
   refine ry 9 fun K hK=>?_
   go_simp
   refine hK.out _ _ (fun hHeld=>?_)
   clear hK K
   refine Zy kq ?_ _
   refine NoPanic.normal ?_
   exact HK0.out _ _ (Met.intro (HJ0.out _ _ (hid ⟨w.heap.size+1,w.heap.size+1+1+1,w.heap.size+1+1,rfl,rfl,rfl,rfl,rfl,rfl,rfl,⟨HB1.out.trans (bq:Below w.heap.size W1 _),oq,oq,(by exact(Za _ _ _ oq).trans ((Za _ _ _ oq).trans ((Za _ _ _ oq).trans HQ1.out))),(by first|exact Ys oq|exact(Za _ _ _ oq).trans (Ys oq)|exact(Za _ _ _ oq).trans ((Za _ _ _ oq).trans (Ys oq))),(by first|exact Ys oq|exact(Za _ _ _ oq).trans (Ys oq)|exact(Za _ _ _ oq).trans ((Za _ _ _ oq).trans (Ys oq))),(by rw[←J1];exact(by first|exact Ys oq|exact(Za _ _ _ oq).trans (Ys oq)|exact(Za _ _ _ oq).trans ((Za _ _ _ oq).trans (Ys oq))))⟩⟩)))
  go_simp
  refine hK.out _ _ (fun hHeld=>?_)
  clear hK K
  refine ry 5 fun K hK=>?_
  go_simp
  refine hK.out _ _ (fun hHeld=>?_)
  clear hK K
  refine tk 6 hHeld ?_
  refine ry 7 fun K hK=>?_
  go_simp
  refine hK.out _ _ (fun hHeld=>?_)
  clear hK K
  refine ry 9 fun K hK=>?_
  go_simp
  refine hK.out _ _ (fun hHeld=>?_)
  clear hK K
  refine Zy kq ?_ _
  refine NoPanic.normal ?_
  exact HK0.out _ _ (Met.intro (HJ0.out _ _ (hid ⟨w.heap.size+1+1,w.heap.size+1+1+1,w.heap.size+1,rfl,rfl,rfl,rfl,rfl,rfl,rfl,⟨HB1.out.trans (bq:Below w.heap.size W1 _),oq,oq,(by exact(Za _ _ _ oq).trans ((Za _ _ _ oq).trans ((Za _ _ _ oq).trans HQ1.out))),(by first|exact Ys oq|exact(Za _ _ _ oq).trans (Ys oq)|exact(Za _ _ _ oq).trans ((Za _ _ _ oq).trans (Ys oq))),(by first|exact Ys oq|exact(Za _ _ _ oq).trans (Ys oq)|exact(Za _ _ _ oq).trans ((Za _ _ _ oq).trans (Ys oq))),(by rw[←J1];exact(by first|exact Ys oq|exact(Za _ _ _ oq).trans (Ys oq)|exact(Za _ _ _ oq).trans ((Za _ _ _ oq).trans (Ys oq))))⟩⟩)))
 clear hB1 hs1 hq1 hmk W1
 rintro⟨t,ds0⟩ W0 hcut
 obtain⟨pb,wb,bw,hd,hsz,h1,h2,h3,h6,h7,hN⟩:=hcut.out
 clear hcut
 simp only at hd hsz h1 h2 h3 h6 h7
 subst hd
 rw[zN hsz,h1,h2,h3,h6,h7]
 generalize slt t 0=u0,slt t 4=u4,slt t 5=u5,slt t 8=u8,slt t 9=u9,slt t 10=u10,slt t 11=u11,slt t 12=u12,slt t 13=u13,slt t 14=u14,slt t 15=u15,slt t 16=u16,slt t 17=u17,slt t 18=u18,slt t 19=u19,slt t 20=u20,slt t 21=u21,slt t 22=u22,slt t 23=u23,slt t 24=u24,slt t 25=u25,slt t 26=u26,slt t 27=u27,slt t 28=u28,slt t 29=u29,slt t 30=u30,slt t 31=u31,slt t 32=u32,slt t 33=u33,slt t 34=u34,slt t 35=u35,slt t 36=u36,slt t 37=u37,slt t 38=u38,slt t 39=u39,slt t 40=u40,slt t 41=u41,slt t 42=u42,slt t 43=u43,slt t 44=u44,slt t 45=u45,slt t 46=u46,slt t 47=u47,slt t 48=u48,slt t 49=u49,slt t 50=u50,slt t 51=u51,slt t 52=u52,slt t 53=u53,slt t 54=u54,slt t 55=u55,slt t 56=u56,slt t 57=u57,slt t 58=u58,slt t 59=u59,slt t 60=u60,slt t 61=u61,slt t 62=u62,slt t 63=u63,slt t 64=u64,slt t 65=u65,slt t 66=u66,slt t 67=u67,slt t 68=u68,slt t 69=u69,slt t 70=u70,slt t 71=u71,slt t 72=u72,slt t 73=u73,slt t 74=u74,slt t 75=u75,slt t 76=u76,slt t 77=u77,slt t 78=u78,slt t 79=u79,slt t 80=u80,slt t 81=u81,slt t 82=u82,slt t 83=u83,slt t 84=u84,slt t 85=u85,slt t 86=u86,slt t 87=u87,slt t 88=u88,slt t 89=u89,slt t 90=u90,slt t 91=u91,slt t 92=u92
 clear hsz h1 h2 h3 h6 h7 t
 have HN:=hid hN
 clear hN
 gi_wp2
 refine wpIn_loop (fun a' wr=>Hid (∃(i:Nat) (ds:List Deferred) (v:Value),a'.defers=ds∧a'.tmps.size=93∧slt a'.tmps 2=.int .i64 u∧slt a'.tmps 3=.pointer (some ⟨w.heap.size,0,none⟩)∧slt a'.tmps 6=.pointer none∧slt a'.tmps 7=.pointer (some ⟨bw,0,none⟩)∧slt a'.tmps 23=.slice ao no co∧slt a'.tmps 24=.int .i64 (no:Int)∧slt a'.tmps 25=.int .i64 (i:Int) ∧
  i≤no∧WnJ W0 wr wb (.slice ai f.ins.length ci) (.slice an f.nods.length cn) (.slice aT T ct) (.slice al f.tells.length cl) (.int .i64 u) (.slice (some ⟨pb,0,none⟩) T T) v ((J0 f (order.take i) u).map (mkJ f))∧Mk W0.heap.size wr.heap.size ds wr)) (fun a' _=>no-(intOf (slt a'.tmps 25)).toNat) ?start1 ?round1
 case start1=>exact hid ⟨0,_,_,rfl,rfl,rfl,rfl,rfl,rfl,rfl,rfl,rfl,Zk _,WnJ.start HN.out.box,Mk.nil _ _ _⟩
 rintro⟨t,ds0⟩ wr hI
 obtain⟨i,ds,v,h0,hsz,h2,h3,h6,h7,h23,h24,h25,hi,hwn,hmk⟩:=hI.out
 clear hI
 simp only at h0 hsz h2 h3 h6 h7 h23 h24 h25
 subst h0
 have hmu:(no-(intOf (slt (⟨t,ds0⟩:Act).tmps 25)).toNat)=no-i:=by show no-(intOf (slt t 25)).toNat=_;rw[h25];simp[intOf]
 rw[hmu]
 clear hmu
 rw[zN hsz,h2,h3,h6,h7,h23,h24,h25]
 generalize slt t 0=u0,slt t 1=u1,slt t 4=u4,slt t 5=u5,slt t 8=u8,slt t 9=u9,slt t 10=u10,slt t 11=u11,slt t 12=u12,slt t 13=u13,slt t 14=u14,slt t 15=u15,slt t 16=u16,slt t 17=u17,slt t 18=u18,slt t 19=u19,slt t 20=u20,slt t 21=u21,slt t 22=u22,slt t 26=u26,slt t 27=u27,slt t 28=u28,slt t 29=u29,slt t 30=u30,slt t 31=u31,slt t 32=u32,slt t 33=u33,slt t 34=u34,slt t 35=u35,slt t 36=u36,slt t 37=u37,slt t 38=u38,slt t 39=u39,slt t 40=u40,slt t 41=u41,slt t 42=u42,slt t 43=u43,slt t 44=u44,slt t 45=u45,slt t 46=u46,slt t 47=u47,slt t 48=u48,slt t 49=u49,slt t 50=u50,slt t 51=u51,slt t 52=u52,slt t 53=u53,slt t 54=u54,slt t 55=u55,slt t 56=u56,slt t 57=u57,slt t 58=u58,slt t 59=u59,slt t 60=u60,slt t 61=u61,slt t 62=u62,slt t 63=u63,slt t 64=u64,slt t 65=u65,slt t 66=u66,slt t 67=u67,slt t 68=u68,slt t 69=u69,slt t 70=u70,slt t 71=u71,slt t 72=u72,slt t 73=u73,slt t 74=u74,slt t 75=u75,slt t 76=u76,slt t 77=u77,slt t 78=u78,slt t 79=u79,slt t 80=u80,slt t 81=u81,slt t 82=u82,slt t 83=u83,slt t 84=u84,slt t 85=u85,slt t 86=u86,slt t 87=u87,slt t 88=u88,slt t 89=u89,slt t 90=u90,slt t 91=u91,slt t 92=u92
 clear hsz h2 h3 h6 h7 h23 h24 h25 t
 have HWN:=hid hwn
 have HMK:=hid hmk
 have hws:=hwn.but.size
 have hjl:=HJL.out i hi
 obtain⟨hne1,hne2,hne3,hne4,hne5,hne6⟩:=HN.out.ne
 have hlb:=Zb HN.out.bfb
 have hlbw:=HN.out.bwb.lt
 have hlwb:=hwn.lt
 have hfb:wr.heap[w.heap.size]?=_:=(hwn.but.block _ hlb hne2).trans HN.out.bfb
 have hbw:Boxed wr bw 80 (.pointer (some ⟨wb,0,none⟩)):=(hwn.but.block _ hlbw hne4).trans HN.out.bwb
 have hlow:Below w.heap.size w wr:=HN.out.below.trans (hwn.but.below HN.out.below.size (fun k e=>by have:=HN.out.lo.2.2.1;omega))
 have HFB:=hid hfb
 have HBW:=hid hbw
 have HLOW:=hid hlow
 clear hwn hmk hfb hbw
 by_cases hlt:i<no
 ·obtain⟨bo,oo,rfl,hbo,hco⟩:=(HRO.out.below zI hlow).at (i:=i) (by rw[HNO.out];exact hlt)
  unfold Uz at hco
  rw[Z8] at hco
  have hrg:=HRNG.out (order[i]'(by rw[HNO.out];exact hlt)) (Zi _)
  obtain⟨k,hk⟩:∃k:Nat,order[i]'(by rw[HNO.out];exact hlt)=(k:Int):=⟨(order[i]'(by rw[HNO.out];exact hlt)).toNat,oq⟩
  rw[hk] at hco hrg
  have hj0:=jF (f:=f) (u:=u) (show i<order.length by rw[HNO.out];exact hlt)
  rw[hk,ZQ] at hj0
  have HJ0:=hid hj0
  have hkT:k<T:=oq
  obtain⟨b,o,ad,cap,haT,hb,y0,y1,y2,y3,_⟩:=GM (HTK.out.below Gq hlow) (i:=k) (by rw[HTT.out];exact hkT)
  have hck:=HCK.out k (by rw[HTT.out];exact hkT)
  have hcl:=HCL.out k hkT
  obtain⟨tk,htk⟩:∃tk,tkO f k=tk:=⟨_,rfl⟩
  have HCN:=hid (show Qg f u k=JD tk.per tk.ph u by unfold Qg;rw[htk])
  have HMJ:=hid (show ∀x:Nat,mkJ f (k,x)=⟨(k:Int),(x:Int),tk.ph+(x:Int)*tk.per,tk.ph+(x:Int)*tk.per+tk.per,none,0,0⟩ from fun x=>by unfold mkJ Ql;simp only;rw[htk])
  rw[htk] at y0 y1 y2 y3 hck
  obtain⟨node,per,ph,args⟩:=tk
  simp only at y0 y1 y2 y3 hck HCN HMJ
  have HCK2:=hid hck
  have i1:(i:Int)<(no:Int):=oq
  have k0:(0:Int)≤(k:Int):=oq
  have k1:(k:Int)<(T:Int):=oq
  have HDA:=hid (fun W=>UO (w:=W) per ph u)
  obtain⟨⟨z0,z1,z2,z3⟩,zf⟩:=Yq HFB.out
  rw[haT] at z2
  clear haT
  have hwr:=Zb HFB.out
  clear htk hlow hck hk hj0 hrg
  gi_wp2_with (refine⟨trivial,?_⟩;gi_at_call 65;refine(Zt.2 (HDA.out _)).mono ?_;rintro e w2 ⟨rfl,hb2,hs2,hk2,hu2⟩;have HB2:=hid hb2;have HS2:=hid hs2;have HK2:=hid (Zh hk2 hu2);clear hb2 hs2 hk2 hu2)
  clear y0 y1 y2 y3 z0 z1 z2 z3 zf hco
  have hb2:=HB2.out
  have hs2:=HS2.out
  simp only[Zu] at hs2
  have HK2':=HK2.out
  simp only[Zu] at HK2' ⊢
  have hbe:Below wr.heap.size wr w2:=((Zg _ wr).alloc (Zc _) _).alloc (by simp) _ |>.trans (hb2.mono (by simp;omega))
  have q9:Boxed w2 wr.heap.size 3 (.int .i64 (k:Int)):=(hb2.block _ (by simp;omega)).trans ((Boxed.new wr 3 (.int .i64 (k:Int))).alloc _)
  have q10:UV w2 (wr.heap.size+1) per ph:=(hb2.block _ (by simp)).trans (by have:=Yp (wr.alloc (.cells #[.int .i64 (k:Int)] 3)) (.cells #[.int .i64 per,.int .i64 ph] 62);simpa using this)
  have HI2:=hid (Zh (HWN.out.below hbe) (Zh q9 (Zh q10 (HMK.out.below hbe))))
  have HV0:=hid (World.ownsRow.lt HWN.out.own)
  clear hb2 hbe q9 q10
  refine GT (F:=Fence.wide) (gf:=108) (lb:=#[.pointer (some ⟨wr.heap.size+1+1,0,none⟩),.pointer (some ⟨wr.heap.size+1+1+1,0,none⟩)]) rfl oq rfl trivial (enters_of Tryz.func108 kq rfl)
   (UG per ph u HCK2.out hu (wr.heap.size+1+1) (wr.heap.size+1+1+1) _ w2 HK2'.1 HK2'.2) (fun h k=>h.trans k) (fun W l o o' _ h hc=>KD.putObj W l o o' h hc) (fun W W' h=>KD.of_below h) (fun _=>rfl)
   (fun pre W=>∃v',WnJ W0 W wb (.slice ai f.ins.length ci) (.slice an f.nods.length cn) (.slice aT T ct) (.slice al f.tells.length cl) (.int .i64 u) (.slice (some ⟨pb,0,none⟩) T T) v' ((J0 f (order.take i) u++Y9 k pre.length).map (mkJ f))∧Boxed W wr.heap.size 3 (.int .i64 (k:Int))∧UV W (wr.heap.size+1) per ph∧Mk W0.heap.size wr.heap.size ds0 W∧(∀g,v'.ownBlock=some g→g<wr.heap.size∨w2.heap.size≤g)∧w2.heap.size≤W.heap.size)
   (fun s A B row hs hg hrw=>by
    obtain⟨v',g1,g2,g3,g4,g5,g6⟩:=hs
    exact⟨v',g1.grown hg (fun r e=>⟨by have:=(hrw r e).1;omega,(hrw r e).2⟩),boxed_own _ _ (fun(_:Unit)=>Value.int .i64 (k:Int)) () A B row g2 hg (fun r e=>(hrw r e).2),kL g3 hg (fun r e=>(hrw r e).2),Mk.own (β:=Unit) (show wr.heap.size≤w2.heap.size by omega) () A B row g4 hg hrw,g5,Zm g6 hg.size⟩)
   (fun _ _ _=>trivial) ⟨v,by simpa [Y9] using HI2.out.1,HI2.out.2.1,HI2.out.2.2.1,HI2.out.2.2.2,(fun g e=>.inl (HV0.out g e).2),Zc _⟩
   (fun pre x a' _=>x=pre.length∧x<JD per ph u∧a'.tmps.size=93∧slt a'.tmps 7=.pointer (some ⟨bw,0,none⟩)∧slt a'.tmps 9=.pointer (some ⟨wr.heap.size,0,none⟩)∧slt a'.tmps 10=.pointer (some ⟨wr.heap.size+1,0,none⟩)∧slt a'.tmps 11=.int .i64 (x:Int)∧slt a'.tmps 12=.int .i64 (ph+(x:Int)*per)∧a'.defers=[])
   (fun pre x a' s A B row hs _ _=>hs) ?assign ?body ?done
  case assign =>
   rintro l pre x W K hi ⟨rfl,hx⟩ hK
   gi_wp2
   exact hK _ _ (Zg _ _) hi ⟨by simp,hx,by simp,by simp[slt],by simp[slt],by simp[slt],by simp[slt],by simp[slt],rfl⟩
  case body =>
   rintro l pre x ⟨t,d⟩ W hl hr ⟨v',g1,g2,g3,g4,g5,hW2⟩ ⟨rfl,hx,hsz,s7,s9,s10,s11,s12,hd⟩
   simp only at hsz s7 s9 s10 s11 s12 hd
   subst hd
   rw[zN hsz,s7,s9,s10,s11,s12]
   generalize slt t 0=u0,slt t 1=u1,slt t 2=u2,slt t 3=u3,slt t 4=u4,slt t 5=u5,slt t 6=u6,slt t 8=u8,slt t 13=u13,slt t 14=u14,slt t 15=u15,slt t 16=u16,slt t 17=u17,slt t 18=u18,slt t 19=u19,slt t 20=u20,slt t 21=u21,slt t 22=u22,slt t 23=u23,slt t 24=u24,slt t 25=u25,slt t 26=u26,slt t 27=u27,slt t 28=u28,slt t 29=u29,slt t 30=u30,slt t 31=u31,slt t 32=u32,slt t 33=u33,slt t 34=u34,slt t 35=u35,slt t 36=u36,slt t 37=u37,slt t 38=u38,slt t 39=u39,slt t 40=u40,slt t 41=u41,slt t 42=u42,slt t 43=u43,slt t 44=u44,slt t 45=u45,slt t 46=u46,slt t 47=u47,slt t 48=u48,slt t 49=u49,slt t 50=u50,slt t 51=u51,slt t 52=u52,slt t 53=u53,slt t 54=u54,slt t 55=u55,slt t 56=u56,slt t 57=u57,slt t 58=u58,slt t 59=u59,slt t 60=u60,slt t 61=u61,slt t 62=u62,slt t 63=u63,slt t 64=u64,slt t 65=u65,slt t 66=u66,slt t 67=u67,slt t 68=u68,slt t 69=u69,slt t 70=u70,slt t 71=u71,slt t 72=u72,slt t 73=u73,slt t 74=u74,slt t 75=u75,slt t 76=u76,slt t 77=u77,slt t 78=u78,slt t 79=u79,slt t 80=u80,slt t 81=u81,slt t 82=u82,slt t 83=u83,slt t 84=u84,slt t 85=u85,slt t 86=u86,slt t 87=u87,slt t 88=u88,slt t 89=u89,slt t 90=u90,slt t 91=u91,slt t 92=u92
   clear hsz s7 s9 s10 s11 s12 t
   have hdt:=(Qz (u:=u) HCK2.out.1 pre.length).1 hx
   have hmx:=HMJ.out pre.length
   have hd0:0≤ph+(pre.length:Int)*per:=by have:=Int.mul_nonneg (show 0≤(pre.length:Int) by omega) (show 0≤per by have:=HCK2.out.1;omega);have:=HCK2.out.2.2.1;omega
   obtain⟨dd,hdd⟩:∃dd,ph+(pre.length:Int)*per=dd:=⟨_,rfl⟩
   rw[hdd] at hdt hmx hd0 ⊢
   have hp1:=HCK2.out.1
   have hp2:=HCK2.out.2.1
   rw[HCN.out] at hcl
   have hw64:IntKind.i64.wrap (dd+per)=dd+per:=ZK _ oq
   have hjn:((J0 f (order.take i) u++Y9 k pre.length).map (mkJ f)).length≤1000000:=by
    rw[Zo,Zx]
    have:(Y9 k pre.length).length=pre.length:=by simp[Y9]
    omega
   have HJS:=hid (show(J0 f (order.take i) u++Y9 k (pre++[pre.length]).length).map (mkJ f)=(J0 f (order.take i) u++Y9 k pre.length).map (mkJ f)++[mkJ f (k,pre.length)] by rw[show(pre++[pre.length]).length=pre.length+1 by simp,qP,←List.append_assoc,ZU];rfl)
   rw[hmx] at HJS
   obtain⟨dl,hdl⟩:∃dl,(J0 f (order.take i) u++Y9 k pre.length).map (mkJ f)=dl:=⟨_,rfl⟩
   rw[hdl] at g1 hjn HJS
   obtain⟨ja,cj,rfl⟩:=Yy g1.own
   obtain⟨N,hN⟩:∃N,dl.length=N:=⟨_,rfl⟩
   obtain⟨cs,hcs⟩:∃cs,dl.flatMap Qb=cs:=⟨_,rfl⟩
   have gown:=g1.own
   rw[hN,hcs] at gown
   rw[hN] at g1 hjn g5
   have HN2:=hid hN
   have HCS:=hid hcs
   have hge:=Qy gown
   have hbwW:Boxed W bw 80 (.pointer (some ⟨wb,0,none⟩)):=(g1.but.block _ hlbw hne4).trans HN.out.bwb
   obtain⟨⟨c0,c1,c2,c3,c4,c5,c6⟩,cf⟩:=YS g1.box
   have KS1:=hid (show S9 bw wb wr.heap.size (wr.heap.size+1) (k:Int) per W.drew from ⟨hbwW.cell,g2.cell,(YB g3).1.1⟩)
   have KSK:=hid (fun(W':World) (h:∀b,(b=bw∨b=wr.heap.size∨b=wr.heap.size+1)→W'.heap[b]?=W.heap[b]?)=>(show S9 bw wb wr.heap.size (wr.heap.size+1) (k:Int) per W' from Zbd KS1.out (h _ (.inl rfl)) (h _ (.inr (.inl rfl))) (h _ (.inr (.inr rfl)))))
   have hbl3:∀b,(b=bw∨b=wr.heap.size∨b=wr.heap.size+1)→b<W.heap.size∧b≠wb∧(Value.slice ja N cj).ownBlock≠some b:=by
    rintro b (rfl|rfl|rfl)
    ·exact⟨hbwW.lt,hne4,fun e=>by have:=hge _ e;omega⟩
    ·exact⟨oq,oq,fun e=>by have:=g5 _ e;omega⟩
    exact⟨oq,oq,fun e=>by have:=g5 _ e;omega⟩
   have KS2:=hid (fun(o:Obj)=>KSK.out (W.alloc o).drew (fun b hb=>Za W o _ (hbl3 b hb).1))
   have hwbl:=Zb g1.box
   have hwn:∀g,(Value.slice ja N cj).ownBlock=some g→wb≠g:=fun g e=>by have:=hge g e;omega
   obtain⟨i0,hi0,hi1',hi2',hi3'⟩:=info_parts Zan
   have HIJ:=hid (Zh hi0 (Zh hi1' (Zh hi2' hi3')))
   have HG1:=hid g1
   have HGO:=hid gown
   have HGE:=hid hge
   have HG5:=hid g5
   have HBL3:=hid hbl3
   have HWNE:=hid hwn
   have HR2:=hid (Zh g2 (Zh g3 g4))
   have hwbs:W0.heap.size≤W.heap.size:=g1.but.size
   clear hi0 hi1' hi2' hi3' g1 gown hge g5 c0 c1 c2 c3 c4 c6 cf g2 g3 g4 hdd hmx hdl hN hcs hbwW hbl3 hwn HNO HJ0 HTK HCK HRO HO HRNG HJL HCL HTT HN HWN HMK HFB HBW HLOW HI2 HV0 HK2 HK2' HB2 HS2 HDA HMJ
   gi_upto_region 9 with fail
   refine Qn (S:=S9 bw wb wr.heap.size (wr.heap.size+1) (k:Int) per) kq kq (by rintro⟨_,_,h⟩;exact h) KS1.out (fun hHeld=>?_)
   refine tk 0 hHeld ?_
   refine tk 1 hHeld ?_
   refine tk 2 hHeld ?_
   refine tk 3 hHeld ?_
   refine tk 5 hHeld ?_
   refine tk 6 hHeld ?_
   refine tk 7 hHeld ?_
   refine tk 8 hHeld ?_
   refine tk 9 hHeld ?_
   refine tk 10 hHeld ?_
   refine tk 11 hHeld ?_
   refine tk 12 hHeld ?_
   refine rz 4 13 (fun K hK=>?_) fun K hK=>?_
   ·go_simp
    refine hK.out _ _ (fun hHeld=>?_)
    clear hK K
    refine ry 13 fun K hK=>?_
    go_simp
    refine hK.out _ _ (fun hHeld=>?_)
    clear hK K
    refine ry 14 fun K hK=>?_
    (refine step_append_lies _ (by rfl) _ _ _ (by rfl) W0.heap.size 43 i0 _ 5 56 Tryz.underlying37 HIJ.out.1 HIJ.out.2.1 HIJ.out.2.2.1 HIJ.out.2.2.2 rfl oq (.slice ja N cj) N cs (by rfl) (own_below HGO.out bq) ⟨W.heap.size,0,none⟩ 1 1 [.int .i64 (k:Int),.int .i64 (pre.length:Int),.int .i64 dd,.int .i64 (dd+per),.slice none 0 0] (by rfl) (by rfl) (World.news_of_block (Zz _ _)) (by simp[Value.oneCell']) oq (by unfold maxLen;omega) oq (by simp;omega) (W.heap.size+1) (by simp) ?_;intro gg cap4 w4 hown4 hgrow4 hat4 hlt4;have hbt4:But (fun b=>(Value.slice ja N cj).ownBlock=some b) W w4:=(But.of_below (bq:Below W.heap.size W _)).then (But.of_grown hgrow4) (fun i _ e=>e);have KS3:=hid (KSK.out w4 (fun b hb=>hbt4.block b (HBL3.out b hb).1 (HBL3.out b hb).2.2));have hx4:=(hbt4.block wb hwbl (fun e=>HWNE.out wb e rfl)).trans HG1.out.box;obtain⟨⟨y0,y1,y2,y3,y4,y5,y6⟩,yf⟩:=YS hx4;have KS4:=hid (fun(v:Value)=>KSK.out (w4.setCell ⟨wb,5,none⟩ v) (fun b hb=>(Zr _ _ _ _ (fun e=>(HBL3.out b hb).2.1 e)).trans (hbt4.block b (HBL3.out b hb).1 (HBL3.out b hb).2.2)));have HB4:=hid hbt4;have HO4:=hid hown4;have HA4:=hid hat4;clear hbt4 hown4 hgrow4 hat4 hlt4 hx4 y0 y1 y2 y3 y4 y6)
    refine hK.out _ _ (fun hHeld=>?_)
    clear hK K
    refine tk 15 hHeld ?_
    refine tk 16 hHeld ?_
    refine ry 17 fun K hK=>?_
    go_simp
    refine hK.out _ _ (fun hHeld=>?_) (by first|with_reducible exact KS3.out|exact KS4.out _)
    clear hK K
    refine Zy kq ?_ _
    have hbS:But (fun b=>(Value.slice ja N cj).ownBlock=some b∨b=wb) W (w4.setCell ⟨wb,5,none⟩ (.slice (some ⟨gg,0,none⟩) (N+1) cap4)):=(HB4.out.imp (fun _ _ e=>.inl e)).then (But.set (S:=fun b=>b=wb) rfl _) (fun _ _ e=>.inr e)
    have hkf:∀B,KeepsFrom B W (w4.setCell ⟨wb,5,none⟩ (.slice (some ⟨gg,0,none⟩) (N+1) cap4)):=fun B=>Vj HGO.out HB4.out HG1.out.box
    have hsz4:=HB4.out.size
    exact⟨hkf _,KD.of_but hbS (by rintro (e|e)<;>first|(have:=HG5.out _ e;omega)|omega) (by rintro (e|e)<;>first|(have:=HG5.out _ e;omega)|omega),_,(by rw[HJS.out];exact HG1.out.app (by rw[HN2.out,HCS.out];exact HO4.out) HB4.out),(hbS.block _ HR2.out.1.lt (by rintro (e|e)<;>first|(have:=HG5.out _ e;omega)|omega)).trans HR2.out.1,(hbS.block _ (Zb HR2.out.2.1) (by rintro (e|e)<;>first|(have:=HG5.out _ e;omega)|omega)).trans HR2.out.2.1,HR2.out.2.2.from (hkf _),(fun g e=>by have e2:gg=g:=(by injection e);subst e2;rcases HA4.out with e|e<;>first|exact HG5.out _ e|exact .inr oq),by simp;omega⟩
   go_simp
   refine hK.out _ _ (fun hHeld=>?_)
   clear hK K
   refine ry 4 fun K hK=>?_
   go_simp
   refine hK.out _ _ (fun hHeld=>?_)
   clear hK K
   refine ry 14 fun K hK=>?_
   (refine step_append_lies _ (by rfl) _ _ _ (by rfl) W0.heap.size 43 i0 _ 5 56 Tryz.underlying37 HIJ.out.1 HIJ.out.2.1 HIJ.out.2.2.1 HIJ.out.2.2.2 rfl oq (.slice ja N cj) N cs (by rfl) (own_below HGO.out bq) ⟨W.heap.size,0,none⟩ 1 1 [.int .i64 (k:Int),.int .i64 (pre.length:Int),.int .i64 dd,.int .i64 (dd+per),.slice none 0 0] (by rfl) (by rfl) (World.news_of_block (Zz _ _)) (by simp[Value.oneCell']) oq (by unfold maxLen;omega) oq (by simp;omega) (W.heap.size+1) (by simp) ?_;intro gg cap4 w4 hown4 hgrow4 hat4 hlt4;have hbt4:But (fun b=>(Value.slice ja N cj).ownBlock=some b) W w4:=(But.of_below (bq:Below W.heap.size W _)).then (But.of_grown hgrow4) (fun i _ e=>e);have KS3:=hid (KSK.out w4 (fun b hb=>hbt4.block b (HBL3.out b hb).1 (HBL3.out b hb).2.2));have hx4:=(hbt4.block wb hwbl (fun e=>HWNE.out wb e rfl)).trans HG1.out.box;obtain⟨⟨y0,y1,y2,y3,y4,y5,y6⟩,yf⟩:=YS hx4;have KS4:=hid (fun(v:Value)=>KSK.out (w4.setCell ⟨wb,5,none⟩ v) (fun b hb=>(Zr _ _ _ _ (fun e=>(HBL3.out b hb).2.1 e)).trans (hbt4.block b (HBL3.out b hb).1 (HBL3.out b hb).2.2)));have HB4:=hid hbt4;have HO4:=hid hown4;have HA4:=hid hat4;clear hbt4 hown4 hgrow4 hat4 hlt4 hx4 y0 y1 y2 y3 y4 y6)
   refine hK.out _ _ (fun hHeld=>?_)
   clear hK K
   refine tk 15 hHeld ?_
   refine tk 16 hHeld ?_
   refine ry 17 fun K hK=>?_
   go_simp
   refine hK.out _ _ (fun hHeld=>?_) (by first|with_reducible exact KS3.out|exact KS4.out _)
   clear hK K
   refine Zy kq ?_ _
   have hbS:But (fun b=>(Value.slice ja N cj).ownBlock=some b∨b=wb) W (w4.setCell ⟨wb,5,none⟩ (.slice (some ⟨gg,0,none⟩) (N+1) cap4)):=(HB4.out.imp (fun _ _ e=>.inl e)).then (But.set (S:=fun b=>b=wb) rfl _) (fun _ _ e=>.inr e)
   have hkf:∀B,KeepsFrom B W (w4.setCell ⟨wb,5,none⟩ (.slice (some ⟨gg,0,none⟩) (N+1) cap4)):=fun B=>Vj HGO.out HB4.out HG1.out.box
   have hsz4:=HB4.out.size
   exact⟨hkf _,KD.of_but hbS (by rintro (e|e)<;>first|(have:=HG5.out _ e;omega)|omega) (by rintro (e|e)<;>first|(have:=HG5.out _ e;omega)|omega),_,(by rw[HJS.out];exact HG1.out.app (by rw[HN2.out,HCS.out];exact HO4.out) HB4.out),(hbS.block _ HR2.out.1.lt (by rintro (e|e)<;>first|(have:=HG5.out _ e;omega)|omega)).trans HR2.out.1,(hbS.block _ (Zb HR2.out.2.1) (by rintro (e|e)<;>first|(have:=HG5.out _ e;omega)|omega)).trans HR2.out.2.1,HR2.out.2.2.from (hkf _),(fun g e=>by have e2:gg=g:=(by injection e);subst e2;rcases HA4.out with e|e<;>first|exact HG5.out _ e|exact .inr oq),by simp;omega⟩
  rintro D xs W hD rfl ⟨v',g1,g2,g3,g4,g5,g6⟩ hk
  rw[List.length_range,←HCN.out,←HJ0.out] at g1
  gi_wp2
  refine⟨hid ⟨i+1,_,v',rfl,by simp,by simp[slt],by simp[slt],by simp[slt],by simp[slt],by simp[slt],by simp[slt],by first|(simp[slt];done)|(simp[slt];go_num),hlt,g1,g4.cons oq oq hk⟩,?_⟩
  simp[slt,intOf]
  omega
 obtain rfl:i=no:=oq
 have hto:order.take i=order:=by rw[←HNO.out];exact ZS
 rw[hto] at HWN hjl
 have hwn:=HWN.out
 obtain⟨ja,cj,rfl⟩:=Yy hwn.own
 obtain⟨N,hN⟩:∃N,((J0 f order u).map (mkJ f)).length=N:=⟨_,rfl⟩
 have hown:=hwn.own
 rw[hN] at hown hwn
 have hN2:N≤1000000:=by rw[←hN,Zo];omega
 have HSO:=hid (xy HO.out HCK.out N hN hN2 hown)
 have hge:=Qy hown
 have HNC:=hid (show ∀b,jaB ja=some b→∃cs t fr,wr.heap[b]?=some (.cells cs t fr) from fun b e=>by
  rcases hown.2 with ⟨e1,_⟩|⟨g,cap,cur,e1,_,hg,_⟩
  ·injection e1 with e1;subst e1;cases e
  injection e1 with e1;subst e1;injection e with e;subst e;exact⟨_,_,_,hg⟩)
 have HGE:=hid (show ∀b,jaB ja=some b→W0.heap.size≤b from fun b e=>hge b (by cases ja with|none=>cases e|some a=>exact e))
 obtain⟨⟨c0,c1,c2,c3,c4,c5,c6⟩,cf⟩:=YS hwn.box
 have cbw:=HBW.out.cell
 have cbf:=HBW.out.frozen
 have i1:¬(i:Int)<(i:Int):=oq
 have HWB:=hid hwn.box
 have HPB:=hid (show wr.heap[pb]?=some (.cells (List.replicate T (.slice none 0 0)).toArray 41 (0,0)) from(HWN.out.but.block _ (Zb HN.out.row) (fun e=>hne6 e.symm)).trans HN.out.row)
 have HLTS:=hid (show wb<W0.heap.size∧bw<W0.heap.size∧pb<W0.heap.size∧w.heap.size<W0.heap.size from ⟨hlwb,hlbw,Zb HN.out.row,hlb⟩)
 have HPLO:=hid (show w.heap.size≤pb∧w.heap.size≤wb from ⟨HN.out.lo.2.2.2,HN.out.lo.2.2.1⟩)
 have hwszr:=hwn.but.size
 have HBT:=hid (fun(B:List (Nat × Nat)) (hB:Xv f order u B) (q:Nat) (hq:q<B.length)=>show(B.getD q (0,0)).1<T from by rw[Zf,Ze hq,←HTT.out];exact((hB.mem HO.out (t:=B[q].1) (n:=B[q].2)).1 (Zi hq)).1)
 clear hwn hown hge HWN HFB HJL HCL HRO HTK HRNG hlow hjl hto
 clear c0 c1 c2 c3 c4 c6
 gi_wp2_with (refine⟨trivial,?_⟩;gi_at_call 66;refine(Zt.2 HSO.out).mono ?_;rintro e W3 ⟨rfl,⟨B,hB,hBN,hJ⟩,hb3⟩;have HB:=hid hB;have HBN:=hid hBN;have HJ:=hid hJ;have HB3:=hid hb3;have nwb:jaB ja≠some wb:=(fun e=>by have h1:=HGE.out wb e;have h2:=HLTS.out.1;omega);have nbw:jaB ja≠some bw:=(fun e=>by have h1:=HGE.out bw e;have h2:=HLTS.out.2.1;omega);have npb:jaB ja≠some pb:=(fun e=>by have h1:=HGE.out pb e;have h2:=HLTS.out.2.2.1;omega);have qbw:Boxed W3 bw 80 (.pointer (some ⟨wb,0,none⟩)):=(hb3.block bw HBW.out.lt nbw).trans HBW.out;have dbw:=qbw.cell;have qwb:=(hb3.block wb (Zb HWB.out) nwb).trans HWB.out;obtain⟨⟨e0,e1,e2,e3,e4,e5,e6⟩,ef⟩:=YS qwb;have HQB:=hid qbw;have HQW:=hid qwb;have HQP:=hid ((hb3.block pb (Zb HPB.out) npb).trans HPB.out);clear hB hJ hb3 e0 e1 e2 e3 e4 e6 qbw qwb)
 have hsz3:=HB3.out.size
 have HM3:=hid (HMK.out.keep (W':=W3) (fun kk ob _ _ hk hc=>(HB3.out.block kk (Zb hk) (fun e=>by
  obtain⟨cs,t,fr,h1⟩:=HNC.out kk e
  rw[hk] at h1
  injection h1 with h1
  subst h1
  cases hc)).trans hk))
 refine wpIn_loop (fun a' wx=>Hid (∃(q:Nat) (vs:List Value),a'.defers=ds0∧a'.tmps.size=93∧slt a'.tmps 7=.pointer (some ⟨bw,0,none⟩)∧slt a'.tmps 66=.slice ja N cj∧slt a'.tmps 67=.int .i64 (N:Int)∧slt a'.tmps 68=.int .i64 (q:Int)∧q≤N∧PlW W3 wx pb T vs B q∧Mk W0.heap.size wr.heap.size ds0 wx)) (fun a' _=>N-(intOf (slt a'.tmps 68)).toNat) ?start2 ?round2
 case start2=>exact hid ⟨0,_,rfl,rfl,rfl,rfl,rfl,rfl,Zk _,PlW.start HQP.out,HM3.out⟩
 rintro⟨t,dx⟩ wx hI
 obtain⟨q,vs,hd,hsz,h7,h66,h67,h68,hq,hpw,hmk⟩:=hI.out
 clear hI
 simp only at hd hsz h7 h66 h67 h68
 subst hd
 have hmu:(N-(intOf (slt (⟨t,dx⟩:Act).tmps 68)).toNat)=N-q:=by show N-(intOf (slt t 68)).toNat=_;rw[h68];simp[intOf]
 rw[hmu]
 clear hmu
 rw[zN hsz,h7,h66,h67,h68]
 generalize slt t 0=u0,slt t 1=u1,slt t 2=u2,slt t 3=u3,slt t 4=u4,slt t 5=u5,slt t 6=u6,slt t 8=u8,slt t 9=u9,slt t 10=u10,slt t 11=u11,slt t 12=u12,slt t 13=u13,slt t 14=u14,slt t 15=u15,slt t 16=u16,slt t 17=u17,slt t 18=u18,slt t 19=u19,slt t 20=u20,slt t 21=u21,slt t 22=u22,slt t 23=u23,slt t 24=u24,slt t 25=u25,slt t 26=u26,slt t 27=u27,slt t 28=u28,slt t 29=u29,slt t 30=u30,slt t 31=u31,slt t 32=u32,slt t 33=u33,slt t 34=u34,slt t 35=u35,slt t 36=u36,slt t 37=u37,slt t 38=u38,slt t 39=u39,slt t 40=u40,slt t 41=u41,slt t 42=u42,slt t 43=u43,slt t 44=u44,slt t 45=u45,slt t 46=u46,slt t 47=u47,slt t 48=u48,slt t 49=u49,slt t 50=u50,slt t 51=u51,slt t 52=u52,slt t 53=u53,slt t 54=u54,slt t 55=u55,slt t 56=u56,slt t 57=u57,slt t 58=u58,slt t 59=u59,slt t 60=u60,slt t 61=u61,slt t 62=u62,slt t 63=u63,slt t 64=u64,slt t 65=u65,slt t 69=u69,slt t 70=u70,slt t 71=u71,slt t 72=u72,slt t 73=u73,slt t 74=u74,slt t 75=u75,slt t 76=u76,slt t 77=u77,slt t 78=u78,slt t 79=u79,slt t 80=u80,slt t 81=u81,slt t 82=u82,slt t 83=u83,slt t 84=u84,slt t 85=u85,slt t 86=u86,slt t 87=u87,slt t 88=u88,slt t 89=u89,slt t 90=u90,slt t 91=u91,slt t 92=u92
 clear hsz h7 h66 h67 h68 t
 have hxs:=hpw.but.size
 have hbwx:Boxed wx bw 80 (.pointer (some ⟨wb,0,none⟩)):=(hpw.but.block bw HQB.out.lt hne5).trans HQB.out
 have hwbx:=(hpw.but.block wb (Zb HQW.out) hne6).trans HQW.out
 obtain⟨⟨c0,c1,c2,c3,c4,c5,c6⟩,cf⟩:=YS hwbx
 have cbw:=hbwx.cell
 have HPW:=hid hpw
 have HMX:=hid hmk
 have hjx:=HJ.out.but hpw.but (fun g e e2=>npb (by rw[←e2];exact e))
 have HJX:=hid hjx
 have HBX:=hid hbwx
 have HWX:=hid hwbx
 clear hpw hmk hjx c0 c1 c2 c3 c4 c5 dbw cbf e5 ef cf
 by_cases hlt:q<N
 ·have hqB:q<B.length:=by rw[HBN.out];exact hlt
  obtain⟨g,hja,hjh⟩:=HJX.out.resolve_left (by rw[ZI,Zo,HBN.out];omega)
  obtain⟨⟨y0,y1,y2,y3,y4⟩,_⟩:=hjh.cell (i:=q) (by simpa using hqB)
  have hmj:(B.map (mkJ f)).toArray[q]! = mkJ f (B.getD q (0,0)):=by
   rw[getElem!_pos _ q (by simpa using hqB)]
   simp[Zf,hqB]
  rw[hmj] at y0 y1 y2 y3 y4
  have htT:=HBT.out B HB.out q hqB
  obtain⟨bb,hbb⟩:∃bb,B.getD q (0,0)=bb:=⟨_,rfl⟩
  rw[hbb] at y0 y1 y2 y3 y4 htT
  obtain⟨tt,nn⟩:=bb
  have HBB:=hid (show(B.getD q (0,0)).1=tt by rw[hbb])
  unfold mkJ at y0 y1 y2 y3 y4
  simp only[ZD] at y0 y1 y2 y3 y4 htT
  obtain⟨r1,hr1⟩:∃r1,Ql f (tt,nn)=r1:=⟨_,rfl⟩
  rw[hr1] at y2 y3
  obtain⟨r2,hr2⟩:∃r2,r1+(tkO f tt).per=r2:=⟨_,rfl⟩
  rw[hr2] at y3
  have q1:(q:Int)<(N:Int):=oq
  have q0:(0:Int)≤(q:Int):=oq
  have HJA:=hid (show ∀b,jaB ja=some b→b=g by rw[hja];intro b e;injection e with e;exact e.symm)
  have gl:=hjh.lt
  subst hja
  clear hjh hmj hbb hr1 hr2
  gi_upto_region 15 with fail
  obtain⟨W5,hW5⟩:∃W5,wx.alloc (.cells #[.int .i64 (tt:Int),.int .i64 (nn:Int),.int .i64 r1,.int .i64 r2,.slice none 0 0] 43)=W5:=⟨_,rfl⟩
  first|rw[hW5]|skip
  have hb5:Below wx.heap.size wx W5:=by rw[←hW5];exact(Zg _ _).alloc (Zc _) _
  have hs5:wx.heap.size<W5.heap.size:=by rw[←hW5];simp
  have hx5:W5.heap[wx.heap.size]?=some (.cells #[.int .i64 (tt:Int),.int .i64 (nn:Int),.int .i64 r1,.int .i64 r2,.slice none 0 0] 43 (0,0)):=by rw[←hW5];exact Yp wx _
  clear hW5 y0 y1 y2 y3 y4 cbw c6
  obtain⟨v,hv,hvc,hvf,hvo⟩:=HPW.out.at htT
  have hpl:(plP B q tt).length≤1000000:=by
   have:(plP B q tt).length≤q:=by unfold plP;rw[Zo];exact Zm (List.length_filter_le _ _) (by simp)
   omega
  obtain⟨L,hL⟩:∃L,(plP B q tt).length=L:=⟨_,rfl⟩
  obtain⟨cs,hcs⟩:∃cs,ints (plP B q tt)=cs:=⟨_,rfl⟩
  rw[hL,hcs] at hvo
  rw[hL] at hpl
  have HLL:=hid hL
  have HCS:=hid hcs
  obtain⟨av,cv,rfl⟩:=Yy hvo
  have hvg:=hid (World.ownsRow.lt hvo)
  have hbw5:=(hb5.block bw HBX.out.lt).trans HBX.out
  have hwb5:=(hb5.block wb (Zb HWX.out)).trans HWX.out
  have hpb5:W5.heap[pb]?=_:=(hb5.block pb (Zb HPW.out.row)).trans HPW.out.row
  have HLT5:=hid (show bw<W5.heap.size∧wb<W5.heap.size∧pb<W5.heap.size∧wx.heap.size<W5.heap.size from ⟨Zb hbw5,Zb hwb5,Zb hpb5,oq⟩)
  have vc5:W5.cell? ⟨pb,tt,none⟩=some (.slice av L cv):=(hb5.cell (p:=⟨pb,tt,none⟩) (Zb HPW.out.row)).trans hvc
  have vf5:W5.frozen? ⟨pb,tt,none⟩=false:=(Z6 (a:=⟨pb,tt,none⟩) (hb5.block pb (Zb HPW.out.row))).trans hvf
  obtain⟨⟨d0,d1,d2,d3,d4,d5,d6⟩,df⟩:=YS hwb5
  have KS1:=hid (show S15 bw wb wx.heap.size pb T (tt:Int) W5.drew from ⟨Boxed.cell hbw5,d6,Z7 W5.drew wx.heap.size 0 _ _ _ hx5⟩)
  have KSK:=hid (fun(W':World) (h:∀b,(b=bw∨b=wb∨b=wx.heap.size)→W'.heap[b]?=W5.heap[b]?)=>(show S15 bw wb wx.heap.size pb T (tt:Int) W' from kO KS1.out (h _ (.inl rfl)) (h _ (.inr (.inl rfl))) (h _ (.inr (.inr rfl)))))
  have HPL:=HLTS.out.2.2.1
  have hbl3:∀b,(b=bw∨b=wb∨b=wx.heap.size)→b<W5.heap.size∧b≠pb∧(Value.slice av L cv).ownBlock≠some b:=by
   have hva:=HPW.out.fam.block hv
   have h1:=HLTS.out
   rintro b (rfl|rfl|rfl)
   ·exact⟨HLT5.out.1,hne5,fun e=>by have:=hva _ e;omega⟩
   ·exact⟨HLT5.out.2.1,hne6,fun e=>by have:=hva _ e;omega⟩
   exact⟨HLT5.out.2.2.2,oq,fun e=>by have:=hva _ e;omega⟩
  have hpn:(Value.slice av L cv).ownBlock≠some pb:=fun e=>by have:=HPW.out.fam.block hv _ e;have:=HLTS.out;omega
  have KS2:=hid (fun(o:Obj)=>KSK.out (W5.alloc o).drew (fun b hb=>Za W5 o _ (hbl3 b hb).1))
  have vcA:∀o,(W5.alloc o).cell? ⟨pb,tt,none⟩=some (.slice av L cv):=fun o=>(Zn (w:=W5) (w':=W5.alloc o) (a:=⟨pb,tt,none⟩) (Za W5 o _ HLT5.out.2.2.1)).trans vc5
  have HVO:=hid (own_below hvo hb5)
  have HPB5:=hid hpb5
  have HMX5:=hid (HMX.out.below hb5)
  have HV:=hid hv
  have HBL3:=hid hbl3
  have HPN:=hid hpn
  have HV5:=hid (Zh vc5 vf5)
  have HB5:=hid hb5
  obtain⟨i0,hi0,hi1',hi2',hi3'⟩:=info_parts JK
  have HI:=hid (Zh hi0 (Zh hi1' (Zh hi2' hi3')))
  have t0:(0:Int)≤(tt:Int):=oq
  have t1:(tt:Int)<(T:Int):=oq
  have hW3le:W3.heap.size≤W5.heap.size:=oq
  clear hi0 hi1' hi2' hi3' hv hvc hvf hvo hL hcs hbw5 hwb5 hpb5 hbl3 hpn hx5 hb5 d0 d1 d2 d3 d4 d5 d6 df vf5
  refine wpIn_wide.2 (wp_region_noPanic ?_)
  refine ZO (S:=S15 bw wb wx.heap.size pb T (tt:Int)) kq (by first|with_reducible exact KS1.out|with_reducible exact KS2.out _|with_reducible exact KS3.out|exact KS4.out _) (fun hHeld=>?_)
  refine tk 0 hHeld ?_
  refine tk 1 hHeld ?_
  refine tk 2 hHeld ?_
  refine tk 3 hHeld ?_
  refine tk 4 hHeld ?_
  refine tk 5 hHeld ?_
  refine tk 6 hHeld ?_
  refine tk 7 hHeld ?_
  refine tk 8 hHeld ?_
  refine tk 9 hHeld ?_
  refine tk 10 hHeld ?_
  refine tk 11 hHeld ?_
  refine tk 12 hHeld ?_
  refine tk 14 hHeld ?_
  refine rz 13 15 (fun K hK=>?_) fun K hK=>?_
  ·go_simp
   refine hK.out _ _ (fun hHeld=>?_)
   clear hK K
   refine ry 15 fun K hK=>?_
   go_simp
   refine hK.out _ _ (fun hHeld=>?_)
   clear hK K
   refine ry 16 fun K hK=>?_
   (refine step_append_lies _ (by rfl) _ _ _ (by rfl) W3.heap.size 3 i0 _ 1 8 Tryz.underlying41 HI.out.1 HI.out.2.1 HI.out.2.2.1 HI.out.2.2.2 rfl oq (.slice av L cv) L cs (by rfl) (own_below HVO.out bq) ⟨W5.heap.size,0,none⟩ 1 1 [.int .i64 (q:Int)] (by rfl) (by rfl) (World.news_of_block (Zz _ _)) (by simp[Value.oneCell']) oq (by unfold maxLen;omega) oq (by simp;omega) (W5.heap.size+1) (by simp) ?_;intro gg cap4 w4 hown4 hgrow4 hat4 hlt4;have hbt4:But (fun b=>(Value.slice av L cv).ownBlock=some b) W5 w4:=(But.of_below (bq:Below W5.heap.size W5 _)).then (But.of_grown hgrow4) (fun i _ e=>e);have KS3:=hid (KSK.out w4 (fun b hb=>hbt4.block b (HBL3.out b hb).1 (HBL3.out b hb).2.2));have vc4:=(Zn (w:=W5) (w':=w4) (a:=⟨pb,tt,none⟩) (hbt4.block pb HLT5.out.2.2.1 HPN.out)).trans HV5.out.1;have vf4:=(Z6 (w:=W5) (w':=w4) (a:=⟨pb,tt,none⟩) (hbt4.block pb HLT5.out.2.2.1 HPN.out)).trans HV5.out.2;have KS4:=hid (fun(v:Value)=>KSK.out (w4.setCell ⟨pb,tt,none⟩ v) (fun b hb=>(Zr _ _ _ _ (fun e=>(HBL3.out b hb).2.1 e)).trans (hbt4.block b (HBL3.out b hb).1 (HBL3.out b hb).2.2)));have HB4:=hid hbt4;have HO4:=hid hown4;have HA4:=hid hat4;clear hbt4 hown4 hgrow4 hat4 hlt4)
   refine hK.out _ _ (fun hHeld=>?_)
   clear hK K
   refine tk 17 hHeld ?_
   refine ry 18 fun K hK=>?_
   go_simp
   refine hK.out _ _ (fun hHeld=>?_) (by first|with_reducible exact KS3.out|exact KS4.out _)
   clear hK K
   refine Zy kq ?_ _
   refine NoPanic.normal ?_
   have HPW2:=hid (HPW.out.app htT HBB.out HV.out ((But.of_below HB5.out).then HB4.out (fun _ _ e=>e)) (by rw[HLL.out,HCS.out];exact HO4.out) (fun k2 e=>by have e2:gg=k2:=(by injection e);subst e2;rcases HA4.out with e|e<;>first|exact .inl e|exact .inr oq))
   have HMX2:=hid (HMX5.out.from (Vj (o:=tt) (v':=.slice (some ⟨gg,0,none⟩) (L+1) cap4) HVO.out HB4.out HPB5.out))
   gi_wp2
   refine⟨hid ⟨q+1,vs.set tt (.slice (some ⟨gg,0,none⟩) (L+1) cap4),by simp,by simp,by simp[slt],by simp[slt],by simp[slt],by first|(simp[slt];done)|(simp[slt];go_num),hlt,HPW2.out,HMX2.out⟩,?_⟩
   simp[slt,intOf]
   omega
  go_simp
  refine hK.out _ _ (fun hHeld=>?_)
  clear hK K
  refine ry 13 fun K hK=>?_
  go_simp
  refine hK.out _ _ (fun hHeld=>?_)
  clear hK K
  refine ry 16 fun K hK=>?_
  (refine step_append_lies _ (by rfl) _ _ _ (by rfl) W3.heap.size 3 i0 _ 1 8 Tryz.underlying41 HI.out.1 HI.out.2.1 HI.out.2.2.1 HI.out.2.2.2 rfl oq (.slice av L cv) L cs (by rfl) (own_below HVO.out bq) ⟨W5.heap.size,0,none⟩ 1 1 [.int .i64 (q:Int)] (by rfl) (by rfl) (World.news_of_block (Zz _ _)) (by simp[Value.oneCell']) oq (by unfold maxLen;omega) oq (by simp;omega) (W5.heap.size+1) (by simp) ?_;intro gg cap4 w4 hown4 hgrow4 hat4 hlt4;have hbt4:But (fun b=>(Value.slice av L cv).ownBlock=some b) W5 w4:=(But.of_below (bq:Below W5.heap.size W5 _)).then (But.of_grown hgrow4) (fun i _ e=>e);have KS3:=hid (KSK.out w4 (fun b hb=>hbt4.block b (HBL3.out b hb).1 (HBL3.out b hb).2.2));have vc4:=(Zn (w:=W5) (w':=w4) (a:=⟨pb,tt,none⟩) (hbt4.block pb HLT5.out.2.2.1 HPN.out)).trans HV5.out.1;have vf4:=(Z6 (w:=W5) (w':=w4) (a:=⟨pb,tt,none⟩) (hbt4.block pb HLT5.out.2.2.1 HPN.out)).trans HV5.out.2;have KS4:=hid (fun(v:Value)=>KSK.out (w4.setCell ⟨pb,tt,none⟩ v) (fun b hb=>(Zr _ _ _ _ (fun e=>(HBL3.out b hb).2.1 e)).trans (hbt4.block b (HBL3.out b hb).1 (HBL3.out b hb).2.2)));have HB4:=hid hbt4;have HO4:=hid hown4;have HA4:=hid hat4;clear hbt4 hown4 hgrow4 hat4 hlt4)
  refine hK.out _ _ (fun hHeld=>?_)
  clear hK K
  refine tk 17 hHeld ?_
  refine ry 18 fun K hK=>?_
  go_simp
  refine hK.out _ _ (fun hHeld=>?_) (by first|with_reducible exact KS3.out|exact KS4.out _)
  clear hK K
  refine Zy kq ?_ _
  refine NoPanic.normal ?_
  have HPW2:=hid (HPW.out.app htT HBB.out HV.out ((But.of_below HB5.out).then HB4.out (fun _ _ e=>e)) (by rw[HLL.out,HCS.out];exact HO4.out) (fun k2 e=>by have e2:gg=k2:=(by injection e);subst e2;rcases HA4.out with e|e<;>first|exact .inl e|exact .inr oq))
  have HMX2:=hid (HMX5.out.from (Vj (o:=tt) (v':=.slice (some ⟨gg,0,none⟩) (L+1) cap4) HVO.out HB4.out HPB5.out))
  gi_wp2
  refine⟨hid ⟨q+1,vs.set tt (.slice (some ⟨gg,0,none⟩) (L+1) cap4),by simp,by simp,by simp[slt],by simp[slt],by simp[slt],by first|(simp[slt];done)|(simp[slt];go_num),hlt,HPW2.out,HMX2.out⟩,?_⟩
  simp[slt,intOf]
  omega
 obtain rfl:q=N:=oq
 have q1:¬(q:Int)<(q:Int):=oq
 have HFIN:=hid (show Qs wx f ai an aT al ci cn ct cl u wb pb T ja cj B (B.map (mkJ f)).toArray from by
  have hsz:(B.map (mkJ f)).toArray.size=B.length:=by simp
  refine⟨by rw[hsz,HBN.out,HTT.out];exact HWX.out,nwb,HJX.out,fun W2 h2=>?_,hsz⟩
  rw[HTT.out,HBN.out]
  refine HPW.out.done (S:=fun b=>jaB ja=some b) (fun kk hk=>⟨?_,fun e=>npb (by rw[←e];exact hk)⟩) h2
  obtain⟨cs,t,fr,h1⟩:=HNC.out kk hk
  exact Zd (Zb h1) hsz3)
 have HLAST:=hid (show Below w.heap.size w wx from by
  have h1:=HLOW.out.size
  have h2:=HPLO.out
  have h3:=HLTS.out
  exact(HLOW.out.trans (HB3.out.below h1 (fun kk hk=>by have:=HGE.out kk hk;omega))).trans (HPW.out.but.below oq (fun kk e=>oq)))
 have HGEW:=hid (show ∀b,jaB ja=some b→w.heap.size≤b from fun b e=>by have:=HGE.out b e;have:=HLTS.out;omega)
 gi_wp2
 refine HMX.out.leaves (fun W' hW'=>⟨.pointer (some ⟨wb,0,none⟩),?_,?_⟩)
 ·simp only[results,Tryz.results24];go_simp
 exact⟨wb,pb,ja,cj,B,rfl,HB.out,(by rw[HTT.out];exact HFIN.out.mk' hW'),HLAST.out.trans (hW'.below.mono (by have:=HN.out.below.size;omega)),HGEW.out⟩
end Go.Proofs.YtgigilkpndhddaaGreatDoor.syn
