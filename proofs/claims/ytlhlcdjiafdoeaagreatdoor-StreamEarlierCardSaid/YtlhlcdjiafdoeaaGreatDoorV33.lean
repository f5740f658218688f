/- Parts of the proof. -/
import Derived.Test.YtlhlcdjiafdoeaaGreatDoorV32
set_option linter.all false
set_option maxRecDepth 100000
set_option maxHeartbeats 16000000
namespace Go.Proofs.YtlhlcdjiafdoeaaGreatDoor.syn
open Go.RowKit
theorem Zbt:(Tryz.prog.info? 44).map (fun i=>(i.zero,i.size,i.bytes))=some (some (.slice none 0 0),1,24):=by kernel_rfl
theorem YB {w:World} {o:Obj} {k:Nat} (h:k=w.heap.size):(w.alloc o).heap[k]?=some o:=by subst h;exact Yt w o
theorem cells3 {w:World} {b:Nat} {v0 v1 v2:Value} {t:TypeId} (h:w.heap[b]?=some (.cells #[v0,v1,v2] t (0,0))):(w.cell? ⟨b,0,none⟩=some v0∧w.cell? ⟨b,1,none⟩=some v1∧w.cell? ⟨b,2,none⟩=some v2)∧∀o,w.frozen? ⟨b,o,none⟩=false:=by
 refine⟨⟨?_,?_,?_⟩,?_⟩
 all_goals first|(intro o;simp[World.frozen?,h])|simp[World.cell?,h]
theorem Zas {w w':World} {base:Nat} {e:TypeId} {size n:Nat} {v:Value} {xs:List Value} (h:w.ownsRow base e size v n xs) (hk:∀k,base≤k→k<w.heap.size→w'.heap[k]?=w.heap[k]?):w'.ownsRow base e size v n xs:=by
 refine⟨h.1,?_⟩
 rcases h.2 with h0|⟨g,cap,cur,hv,hb,hg,rest⟩
 ·exact .inl h0
 exact .inr ⟨g,cap,cur,hv,hb,(hk g hb (Zb hg)).trans hg,rest⟩
theorem xM (l:Nat) (K:Act→World→Prop) (Q:Exit→Act→World→Prop):Exit.inBlock l (Exit.then K Q)=Exit.then K (Exit.inBlock l (Exit.then K Q)):=by
 funext e a w
 cases e<;>rfl
theorem yk (z:Value) (n:Nat):madeCells #[z] n=(List.replicate n z).toArray:=by rw[←toList_madeCells_one]
theorem xq {W:World} {T wb mb rb:Nat} (lt:mb<W.heap.size∧rb<W.heap.size∧wb<W.heap.size) (ne:mb≠rb∧mb≠wb∧rb≠wb)
  (box:W.heap[wb]?=some (.cells #[.slice none 0 0,.slice (some ⟨mb,0,none⟩) T T,.slice (some ⟨rb,0,none⟩) T T] 180 (0,0)))
  (many:W.heap[mb]?=some (.cells (madeCells #[.int .i64 0] T) 3 (0,0))) (rds:W.heap[rb]?=some (.cells (madeCells #[.slice none 0 0] T) 44 (0,0))) :
  WaM W W T wb mb rb (.slice none 0 0) (List.replicate T (.slice none 0 0)) ⟨[],List.replicate T 0,List.replicate T []⟩:=by
 refine⟨But.refl _ _,lt,ne,box,?_,?_,?_,⟨by simp,by simp,by simp,?_⟩⟩
 ·rw[yk] at many
  rw[many]
  simp[ints]
 ·rw[yk] at rds
  exact rds
 ·have:=Fam.nils W W.heap.size 3 (T+1)
  simpa [List.replicate_succ,ints] using this
 intro r hr x hx
 have:=List.eq_of_mem_replicate hr
 subst this
 cases hx
theorem K5 {w:World} (f:FD) (ai an aT al:Option Addr) (ci cn ct cl:Nat) (hf:FAP w f ai an aT al) :
  Calls Tryz.prog 89 #[fv f ai an aT al ci cn ct cl] w fun x w'=>∃W2 wb mb rb vq vs,x=.returned (.pointer (some ⟨wb,0,none⟩))∧WaM W2 w' f.tasks.length wb mb rb vq vs (Y2 f f.tasks.length)∧Below w.heap.size w W2∧w.heap.size≤mb∧w.heap.size≤rb∧w.heap.size≤wb:=by
 have hlens:=hf.lens
 have HHG:=hid (fun(W:World) (hW:Below w.heap.size w W) (i:Nat) (d:TD) (hd:f.tasks[i]?=some d)=>show Calls Tryz.prog 126 #[fv f ai an aT al ci cn ct cl,.int .i64 (i:Int)] W fun x w'=>(∃v,x=.returned v∧QV w' W.heap.size v (YU f d))∧Below W.heap.size W w' by obtain⟨hi,rfl⟩:=Zz.1 hd;exact vB (w:=W) f ai an aT al ci cn ct cl (hf.below hW) i hi)
 have HHL:=hid (fun(n:Nat) (d:TD) (hd:f.tasks[n]?=some d)=>show(YU f d).length≤1000 from by have h1:=JN ((GE f d).mergeSort (fun x y=>decide (x≤y)));rw[List.length_mergeSort] at h1;have h2:=V9 f d.args;have h3:=(hf.args d (Z8 hd)).1;unfold YU;unfold GE at *;omega)
 obtain⟨T,hT⟩:∃T,f.tasks.length=T:=⟨_,rfl⟩
 have hTl:T≤1000:=oq
 have hmk1:=fun W=>run_make_row' (P:=Tryz.prog) 44 3 (.int .i64 0) 8 Tryz.underlying44 V7 rfl .i64 .i64 T oq oq W
 have hmk2:=fun W=>run_make_row' (P:=Tryz.prog) 178 44 (.slice none 0 0) 24 Tryz.underlying178 Zbt rfl .i64 .i64 T oq oq W
 have HT:=hid hT
 unfold fv at *
 rw[hT] at HHG
 rw[hT]
 clear hf hlens hT
 go_enter Tryz.func89,Tryz.ntmps89
 go_upto_region 1 with fail
 obtain⟨W1,hW1⟩:∃W1,w.alloc (.cells #[.slice ai f.ins.length ci,.slice an f.nods.length cn,.slice aT T ct,.slice al f.tells.length cl] 35)=W1:=⟨_,rfl⟩
 rw[hW1]
 have hB1:Below w.heap.size w W1:=by rw[←hW1];exact bq
 have hq0:W1.heap[w.heap.size]?=some (.cells #[.slice ai f.ins.length ci,.slice an f.nods.length cn,.slice aT T ct,.slice al f.tells.length cl] 35 (0,0)):=by rw[←hW1];exact Yt w _
 obtain⟨⟨x0,x1,x2,x3⟩,xf⟩:=Yu hq0
 have hl0:=Zb hq0
 have HB1:=hid hB1
 have HQ0:=hid hq0
 clear hW1 hB1 hq0
 go_cut [3] (fun s3 W=>Hid (∃wb mb rb,s3=.pointer (some ⟨wb,0,none⟩)∧WaM W W T wb mb rb (.slice none 0 0) (List.replicate T (.slice none 0 0)) ⟨[],List.replicate T 0,List.replicate T []⟩∧Below W1.heap.size W1 W∧W1.heap.size≤mb∧W1.heap.size≤rb∧W1.heap.size≤wb))
 case first =>
  go_region
  all_goals (go_wp2_with fail;go_meet)
  ·refine hid ⟨W1.heap.size+1+1,W1.heap.size,W1.heap.size+1,by simp,xq ⟨oq,oq,oq⟩ ⟨oq,oq,oq⟩ (by first|exact YB (by simp)|exact(Za _ _ _ (by simp)).trans (YB (by simp))|exact(Za _ _ _ (by simp;omega)).trans ((Za _ _ _ (by simp)).trans (YB (by simp)))|exact(Za _ _ _ (by simp;omega)).trans (YB (by simp))|exact(Za _ _ _ (by simp)).trans ((Za _ _ _ (by simp)).trans (YB (by simp)))) (by first|exact YB (by simp)|exact(Za _ _ _ (by simp)).trans (YB (by simp))|exact(Za _ _ _ (by simp;omega)).trans ((Za _ _ _ (by simp)).trans (YB (by simp)))|exact(Za _ _ _ (by simp;omega)).trans (YB (by simp))|exact(Za _ _ _ (by simp)).trans ((Za _ _ _ (by simp)).trans (YB (by simp)))) (by first|exact YB (by simp)|exact(Za _ _ _ (by simp)).trans (YB (by simp))|exact(Za _ _ _ (by simp;omega)).trans ((Za _ _ _ (by simp)).trans (YB (by simp)))|exact(Za _ _ _ (by simp;omega)).trans (YB (by simp))|exact(Za _ _ _ (by simp)).trans ((Za _ _ _ (by simp)).trans (YB (by simp)))),bq,oq,oq,oq⟩
  refine hid ⟨W1.heap.size+1+1,W1.heap.size+1,W1.heap.size,by simp,xq ⟨oq,oq,oq⟩ ⟨oq,oq,oq⟩ (by first|exact YB (by simp)|exact(Za _ _ _ (by simp)).trans (YB (by simp))|exact(Za _ _ _ (by simp;omega)).trans ((Za _ _ _ (by simp)).trans (YB (by simp)))|exact(Za _ _ _ (by simp;omega)).trans (YB (by simp))|exact(Za _ _ _ (by simp)).trans ((Za _ _ _ (by simp)).trans (YB (by simp)))) (by first|exact YB (by simp)|exact(Za _ _ _ (by simp)).trans (YB (by simp))|exact(Za _ _ _ (by simp;omega)).trans ((Za _ _ _ (by simp)).trans (YB (by simp)))|exact(Za _ _ _ (by simp;omega)).trans (YB (by simp))|exact(Za _ _ _ (by simp)).trans ((Za _ _ _ (by simp)).trans (YB (by simp)))) (by first|exact YB (by simp)|exact(Za _ _ _ (by simp)).trans (YB (by simp))|exact(Za _ _ _ (by simp;omega)).trans ((Za _ _ _ (by simp)).trans (YB (by simp)))|exact(Za _ _ _ (by simp;omega)).trans (YB (by simp))|exact(Za _ _ _ (by simp)).trans ((Za _ _ _ (by simp)).trans (YB (by simp)))),bq,oq,oq,oq⟩
 obtain⟨wb,mb,rb,rfl,hwa,hB2,hm2,hr2,hw2⟩:=hcut.out
 clear hcut hmk1 hmk2
 obtain⟨W2,rfl⟩:∃W2:World,W2=wc:=⟨_,rfl⟩
 have hlt:=hwa.lt
 have HWA:=hid hwa
 have HB2:=hid hB2
 have HQ2:=hid ((hB2.block _ hl0).trans HQ0.out)
 obtain⟨⟨z0,z1,z2,z3⟩,zf⟩:=Yu HQ2.out
 have hs2:=hB2.size
 clear hwa hB2 x0 x1 x2 x3 xf
 go_wp2
 go_loopw [21] (fun s21 wr=>Hid (∃n vq vs,s21=.int .i64 ((n:Nat):Int)∧n≤T∧WaM W2 wr T wb mb rb vq vs (Y2 f n))) (fun s _=>T-(intOf s).toNat)
 case atStart =>
  refine⟨0,.slice none 0 0,List.replicate T (.slice none 0 0),rfl,Zk _,?_⟩
  have:=HWA.out
  unfold Y2
  rw[HT.out]
  exact this
 clear HWA z0 z1 z2 z3 zf
 obtain⟨wo,rfl⟩:∃wo:World,wo=wr:=⟨_,rfl⟩
 obtain⟨n,vq,vs,rfl,hn,hwa⟩:=hrel.out
 clear hrel
 have hsz:=hwa.size
 have hold:∀k,k<W2.heap.size→k≠mb→k≠rb→k≠wb→wo.heap[k]?=W2.heap[k]?:=fun k hk h1 h2 h3=>hwa.but.block k hk (fun e=>by
  rcases e with e|e|e
  ·exact h1 e
  ·exact h2 e
  exact h3 e)
 have hq:=(hold _ oq oq oq oq).trans HQ2.out
 obtain⟨⟨z0,z1,z2,z3⟩,zf⟩:=Yu hq
 have HQR:=hid hq
 have hlow:Below w.heap.size w wo:=(HB1.out.trans (HB2.out.mono oq)).trans (hwa.but.below oq (fun k e=>oq))
 have HLOW:=hid hlow
 have HWA:=hid hwa
 have hblk:w.heap.size<wo.heap.size:=oq
 clear hq hold hlow
 by_cases hnT:n<T
 ·have hn1:(n:Int)<(T:Int):=oq
  have hn0:(0:Int)≤(n:Int):=oq
  obtain⟨d,hd⟩:∃d,f.tasks[n]?=some d:=⟨_,Ze (by rw[HT.out];exact hnT)⟩
  have hstep:=(QP f n).trans (QY hd)
  have HS:=hid hstep
  have HH:=hid (HHG.out wo HLOW.out n d hd)
  have hhl:=HHL.out n d hd
  have HIN:=hid (zU (f:=f) (t:=d))
  have hql:=J8 f n
  have hrb:=E9 f HHL.out n
  obtain⟨s,hs⟩:∃s,Y2 f n=s:=⟨_,rfl⟩
  rw[hs] at HWA HS hql hrb
  have HRB:=hid hrb
  clear hrb
  obtain⟨h,hh⟩:∃h,YU f d=h:=⟨_,rfl⟩
  rw[hh] at HH HS HIN hhl
  rw[HT.out] at HIN
  clear hwa hs hh hstep hd
  go_upto_region 6 with (go_at_call 126;refine HH.out.mono ?_;rintro y w5 ⟨⟨v5,rfl,hq5⟩,hb5⟩;obtain⟨a5,c5,rfl⟩:=YD hq5)
  try simp only at hq5
  have HB5:=hid hb5
  have HQ5:=hid hq5
  have hs5:=hb5.size
  have hwa5:=HWA.out.turn hb5
  obtain⟨⟨b0,b1,b2⟩,bf⟩:=cells3 hwa5.box
  obtain⟨m0,m1⟩:=hwa5.manyAt hnT
  have HWA5:=hid hwa5
  clear hb5 hq5 hwa5
  go_wp2
  have HVS:=hid (show ∀(i:Nat) (v:Value) (k:Nat),vs[i]?=some v→v.ownBlock=some k→k<wo.heap.size∨w5.heap.size≤k from fun i v k hv hk=>.inl (HWA.out.fam.block (i:=i+1) (by rw[List.getElem?_cons_succ];exact hv) k hk).2)
  go_loopw [37] (fun s37 wi=>Hid (∃j vs',s37=.int .i64 ((j:Nat):Int)∧j≤h.length∧WaM W2 wi T wb mb rb vq vs' ⟨s.q,s.many.set n (h.length:Int),(h.take j).foldl (addR n) s.rd⟩∧(∀k,wo.heap.size≤k→k<w5.heap.size→wi.heap[k]?=w5.heap[k]?)∧(∀(i:Nat) (v:Value) (k:Nat),vs'[i]?=some v→v.ownBlock=some k→k<wo.heap.size∨w5.heap.size≤k)∧w5.heap.size≤wi.heap.size)) (fun s _=>h.length-(intOf s).toNat)
  case atStart=>exact⟨0,vs,rfl,Zk _,HWA5.out.setMany n (h.length:Int),fun k h1 h2=>Zr _ _ _ _ (by show k≠mb;omega),HVS.out,by simp⟩
  clear b0 b1 b2 bf m0 m1 z0 z1 z2 z3 zf HVS
  obtain⟨wi,rfl⟩:∃wi:World,wi=wr:=⟨_,rfl⟩
  obtain⟨j,vs',rfl,hj,hwi,hk5,hvb,hsi⟩:=hrel.out
  clear hrel
  have hqi:QV wi wo.heap.size (.slice a5 h.length c5) h:=Zas HQ5.out hk5
  obtain⟨⟨b0,b1,b2⟩,bf⟩:=cells3 hwi.box
  have HWI:=hid hwi
  have HK5:=hid hk5
  have HVB:=hid hvb
  have hbl2:=hwi.size
  by_cases hjl:j<h.length
  ·obtain⟨g5,c6,e5,hg5,hg6,hc5,_⟩:=hqi.form (by intro e;rw[e] at hjl;simp at hjl)
   injection e5 with e5 _ e6
   subst e5
   subst e6
   have hcj:=hc5 j hjl
   obtain⟨x0,x1⟩:=HIN.out (h.getD j 0) (Jj hjl)
   obtain⟨i,hi⟩:∃i:Nat,h.getD j 0=(i:Int):=⟨(h.getD j 0).toNat,oq⟩
   rw[hi] at hcj x1
   have hiT:i<T:=oq
   obtain⟨v,hv,r0,r1,hqv⟩:=hwi.rdAt hiT
   have htk:(h.take (j+1)).foldl (addR n) s.rd=addR n ((h.take j).foldl (addR n) s.rd) (i:Int):=by
    rw[Zu hjl,List.foldl_append]
    simp only[List.foldl_cons,List.foldl_nil]
    rw[←hi,Zf,Ze hjl]
    rfl
   obtain⟨rr,hrr⟩:∃rr,(h.take j).foldl (addR n) s.rd=rr:=⟨_,rfl⟩
   rw[hrr] at HWI htk hqv
   simp only at hqv
   have hrl:(rr.getD i []).length≤2000000:=by
    have h1:=(RB.adds (t:=n) (h.take j) _ _ HRB.out).getD i
    rw[hrr,Z9] at h1
    omega
   obtain⟨xs,hxs⟩:∃xs,rr.getD i []=xs:=⟨_,rfl⟩
   rw[hxs] at hqv hrl
   have HXS:=hid hxs
   have HTK:=hid htk
   have HV:=hid hv
   have HQV:=hid hqv
   obtain⟨av,cv,rfl⟩:=YD hqv
   have hj0:(0:Int)≤(j:Int):=oq
   have hj1:(j:Int)<(h.length:Int):=oq
   have hi0:(0:Int)≤(i:Int):=oq
   have hrbw:rb<wi.heap.size:=oq
   have hrbn:¬rb=wi.heap.size:=oq
   have hwbw:wb<wi.heap.size:=oq
   have hwbn:¬wb=wi.heap.size:=oq
   obtain⟨i0,hi0',hi1',hi2',hi3'⟩:=info_parts V7
   have HI:=hid (Zh hi0' (Zh hi1' (Zh hi2' hi3')))
   clear hi0' hi1' hi2' hi3' hwi hk5 hvb hqi hc5 htk hrr hxs hv hqv hi
   go_upto_region 10 with fail
   rw[xM]
   go_cut [] (fun W=>Hid (∃w4 gg cap4,W=w4.setCell ⟨rb,i,none⟩ (.slice (some ⟨gg,0,none⟩) (xs.length+1) cap4)∧w4.ownsRow W2.heap.size 3 1 (.slice (some ⟨gg,0,none⟩) (xs.length+1) cap4) (xs.length+1) (ints xs++[.int .i64 (n:Int)])∧But (fun k=>(Value.slice av xs.length cv).ownBlock=some k) wi w4∧((Value.slice av xs.length cv).ownBlock=some gg∨wi.heap.size≤gg)))
   case first =>
    clear HHG HHL HT HB1 HQ0 HB2 HQ2 HQR HLOW HWA HS HH HIN HB5 HQ5 HWA5 HWI HK5 HVB HXS HTK HV hcj x0 x1 hql hhl hj0 hj1 hjl hi0
    go_region_law (refine step_append_lies _ (by rfl) _ _ _ (by rfl) W2.heap.size 3 i0 _ 1 8 Tryz.underlying44 HI.out.1 HI.out.2.1 HI.out.2.2.1 HI.out.2.2.2 rfl oq (.slice av xs.length cv) xs.length (ints xs) (by rfl) (own_below HQV.out bq) ⟨wi.heap.size,0,none⟩ 1 1 [.int .i64 (n:Int)] (by rfl) (by rfl) (World.news_of_block (Zy _ _)) (by simp[Value.oneCell']) oq (by unfold maxLen;omega) oq (by simp;omega) (wi.heap.size+1) (by simp) ?_;intro gg cap4 w4 hown4 hgrow4 hat4 hlt4;have hbt4:But (fun k=>(Value.slice av xs.length cv).ownBlock=some k) wi w4:=(But.of_below (bq:Below wi.heap.size wi _)).then (But.of_grown hgrow4) (fun i _ e=>e);have hnr:¬(Value.slice av xs.length cv).ownBlock=some rb:=(fun e=>by have:=(JJ HQV.out rb e).1;omega);have c4:=(Zn (a:=⟨rb,i,none⟩) (hbt4.block rb oq hnr)).trans r0;have f4:=(Z4 (a:=⟨rb,i,none⟩) (hbt4.block rb oq hnr)).trans r1;have hnw:¬(Value.slice av xs.length cv).ownBlock=some wb:=(fun e=>by have:=(JJ HQV.out wb e).1;omega);have b24:=(Zn (a:=⟨wb,2,none⟩) (hbt4.block wb oq hnw)).trans b2;have HO4:=hid hown4;have HBT4:=hid hbt4;have HG4:=hid (show(Value.slice av xs.length cv).ownBlock=some gg∨wi.heap.size≤gg from hat4.elim .inl (fun e=>.inr oq));clear hown4 hgrow4 hat4 hbt4)
    all_goals (go_wp2_with fail;go_meet;exact hid ⟨w4,gg,cap4,rfl,HO4.out,HBT4.out,HG4.out⟩)
   obtain⟨w4,gg,cap4,hwc,ho4,hbt4,hg4⟩:=hcut.out
   clear hcut
   obtain⟨Wn,rfl⟩:∃Wn:World,Wn=wc:=⟨_,rfl⟩
   have hsw4:=hbt4.size
   have hap:=HWI.out.app (t:=n) hiT hnT HV.out hbt4 (by simp only;rw[HXS.out];exact ho4) (fun k hk=>by cases hk;exact hg4)
   rw[←hwc] at hap
   have HAP:=hid hap
   have hHK:∀k,wo.heap.size≤k→k<w5.heap.size→Wn.heap[k]?=w5.heap[k]?:=by
    intro k h1 h2
    rw[hwc]
    refine(Zr _ _ _ _ (by show k≠rb;omega)).trans ((hbt4.block k oq (fun e=>?_)).trans (HK5.out k h1 h2))
    rcases HVB.out i _ k HV.out e with h3|h3<;>omega
   have hHV:∀(i2:Nat) (v:Value) (k:Nat),(vs'.set i (.slice (some ⟨gg,0,none⟩) (xs.length+1) cap4))[i2]?=some v→v.ownBlock=some k→k<wo.heap.size∨w5.heap.size≤k:=by
    intro i2 v k h1 h2
    by_cases hii:i2=i
    ·subst hii
     rw[List.getElem?_set_self (by rw[HWI.out.vlen];exact hiT)] at h1
     cases h1
     cases h2
     rcases hg4 with h3|h3
     ·exact HVB.out i2 _ _ HV.out h3
     exact .inr (Zm hsi h3)
    rw[List.getElem?_set_ne (fun e=>hii e.symm)] at h1
    exact HVB.out i2 v k h1 h2
   have hHS:w5.heap.size≤Wn.heap.size:=by rw[hwc];simp;omega
   have HREST:=hid (Zh hHK (Zh hHV hHS))
   clear hwc ho4 hbt4 hg4 hap hHK hHV hHS
   go_wp2
   refine⟨hid ⟨j+1,vs'.set i (.slice (some ⟨gg,0,none⟩) (xs.length+1) cap4),by go_num,hjl,by rw[HTK.out];exact HAP.out,HREST.out⟩,by simp[intOf];omega⟩
  have hjn:j=h.length:=oq
  subst hjn
  rw[ZR] at HWI
  have hjf:¬(h.length:Int)<(h.length:Int):=oq
  by_cases hh0:h=[]
  ·have hN:Y2 f (n+1)=⟨QI s.q (n:Int),s.many.set n (h.length:Int),h.foldl (addR n) s.rd⟩:=by have:=HS.out;rw[Z0 hh0] at this;exact this
   have HN:=hid hN
   have hl0:h.length=0:=by rw[hh0];rfl
   have HPU:=hid (GY (w:=wi) HWI.out.qm HWI.out.box (show s.q.length≤10000 by omega) (n:Int))
   have HAL:=hid (J9 (l:=s.q) (x:=(n:Int)) HWI.out.ok.q ⟨hn0,hn1⟩)
   have he:((h.length:Int) == 0)=true:=by rw[beq_iff_eq];omega
   clear hwi hk5 hvb hqi hN hh0
   go_wp2_with (go_at_call 127;refine HPU.out.mono ?_;rintro y w7 ⟨rfl,hp7⟩;have HP7:=hid hp7;clear hp7)
   obtain⟨vq',hw7,_,_⟩:=HWI.out.queue HP7.out HAL.out
   exact⟨hid ⟨n+1,vq',vs',by go_num,hnT,by rw[HN.out];exact hw7⟩,by simp[intOf];omega⟩
  have hN:Y2 f (n+1)=⟨s.q,s.many.set n (h.length:Int),h.foldl (addR n) s.rd⟩:=by have:=HS.out;rw[ZZ hh0] at this;exact this
  have HN:=hid hN
  have hl0:0<h.length:=by
   cases h with
   | nil=>exact absurd rfl hh0
   | cons _ _=>simp
  have he:((h.length:Int) == 0)=false:=by rw[ZW];omega
  clear hwi hk5 hvb hqi hN hh0
  go_wp2
  exact⟨hid ⟨n+1,vq,vs',by go_num,hnT,by rw[HN.out];exact HWI.out⟩,by simp[intOf];omega⟩
 have hnn:n=T:=oq
 subst hnn
 clear hwa
 go_wp2
 go_ret
 exact⟨W2,wb,mb,rb,vq,vs,rfl,HWA.out,HB1.out.trans (HB2.out.mono HB1.out.size),Zm HB1.out.size hm2,Zm HB1.out.size hr2,Zm HB1.out.size hw2⟩
theorem U7 {w:World} {b:Nat} {v0 v1 v2:Value} {t:TypeId} (h:w.heap[b]?=some (.cells #[v0,v1,v2] t (0,0))):(w.cell? ⟨b,0,none⟩=some v0∧w.cell? ⟨b,1,none⟩=some v1∧w.cell? ⟨b,2,none⟩=some v2)∧∀o,w.frozen? ⟨b,o,none⟩=false:=by
 refine⟨⟨?_,?_,?_⟩,?_⟩
 all_goals first|(intro o;simp[World.frozen?,h])|simp[World.cell?,h]
theorem jT (x:Int) (w:World):(Instr.typeAssert (.iface 3 (.int .i64 x)) 20 3 false).run Tryz.prog w=.ok (.int .i64 x) w:=by kernel_rfl
theorem yE {W2 w:World} {T wb mb rb:Nat} {vq:Value} {vs:List Value} {s:WS} (hw:WaM W2 w T wb mb rb vq vs s) (hq:s.q≠[]) (hql:s.q.length≤5000) {c:Nat} (hc:c≤1000000000000) (hmb:MB c s.many) (hrb:RB 2000000 s.rd) (hmu:muW s≤5000) :
  Calls Tryz.prog 91 #[.pointer (some ⟨wb,0,none⟩)] w fun x w'=>x=.returned (.int .i64 (YH s).1)∧∃vq',WaM W2 w' T wb mb rb vq' vs (YH s).2∧(∀k,vq'.ownBlock=some k→vq.ownBlock=some k∨w.heap.size≤k)∧But (fun k=>k=mb∨k=wb∨vq.ownBlock=some k) w w':=by
 have hpq:=Gf hq hw.ok.q
 obtain⟨i,hi⟩:∃i:Nat,(Qe s.q).1=(i:Int):=⟨(Qe s.q).1.toNat,oq⟩
 have hiT:i<T:=oq
 have HPO:=hid (kD (w:=w) hw.qm hw.box hq oq)
 have hnx:YH s=((i:Int),(s.rd.getD i []).foldl Yy ⟨(Qe s.q).2,s.many,s.rd⟩):=by unfold YH;rw[hi,ZP]
 have hpl:=yN s.q
 have HALL:=hid hpq.2
 have h0:0<s.q.length:=by cases hq':s.q with
  | nil=>exact absurd hq' hq
  | cons _ _=>simp
 rw[hnx]
 rw[hi] at HPO
 simp only
 obtain⟨q',hq'⟩:∃q',(Qe s.q).2=q':=⟨_,rfl⟩
 rw[hq'] at HPO HALL hpl ⊢
 have hmu2:muW ⟨q',s.many,s.rd⟩≤5000:=by unfold muW at hmu ⊢;simp only at hmu ⊢;omega
 have HW:=hid hw
 have HMB:=hid hmb
 have hta:=jT (i:Int)
 have hrl:=hrb.getD i
 have i0:(0:Int)≤(i:Int):=oq
 have i1:(i:Int)<(T:Int):=oq
 obtain⟨rr,hrr⟩:∃rr,s.rd.getD i []=rr:=⟨_,rfl⟩
 rw[hrr] at hrl ⊢
 clear hw hpq hnx hmb hrb hq hq' hi
 go_enter Tryz.func91,Tryz.ntmps91
 go_upto_region 2 with (go_at_call 128;refine HPO.out.mono ?_;rintro y w1 ⟨rfl,hp1⟩;have HP1:=hid hp1;clear hp1)
 obtain⟨vq1,hw1,hv1,hbt1⟩:=HW.out.queue HP1.out HALL.out
 have HVB:=hid (Zh hv1 (show But (fun k=>k=mb∨k=wb∨vq.ownBlock=some k) w w1 from hbt1.imp (fun k _ e=>.inr e)))
 clear hv1 hbt1
 obtain⟨⟨b0,b1,b2⟩,bf⟩:=U7 hw1.box
 obtain⟨v,hv,r0,r1,hqv⟩:=hw1.rdAt hiT
 simp only at hqv
 rw[hrr] at hqv
 obtain⟨av,cv,rfl⟩:=YD hqv
 have HW1:=hid hw1
 have HV:=hid hv
 clear hw1 hv hqv
 go_wp2
 go_loopw [20] (fun s20 wr=>Hid (∃j vq2,s20=.int .i64 ((j:Nat):Int)∧j≤rr.length∧WaM W2 wr T wb mb rb vq2 vs ((rr.take j).foldl Yy ⟨q',s.many,s.rd⟩)∧(∀k,vq2.ownBlock=some k→vq.ownBlock=some k∨w.heap.size≤k)∧But (fun k=>k=mb∨k=wb∨vq.ownBlock=some k) w wr)) (fun s _=>rr.length-(intOf s).toNat)
 case atStart=>exact⟨0,vq1,rfl,Zk _,HW1.out,HVB.out⟩
 clear b0 b1 b2 bf r0 r1 HVB
 obtain⟨wi,rfl⟩:∃wi:World,wi=wr:=⟨_,rfl⟩
 obtain⟨j,vq2,rfl,hj,hwi,hv2,hbt2⟩:=hrel.out
 clear hrel
 have HVB:=hid (Zh hv2 hbt2)
 clear hv2 hbt2
 by_cases hjl:j<rr.length
 ·have hst:(rr.take (j+1)).foldl Yy ⟨q',s.many,s.rd⟩=Yy ((rr.take j).foldl Yy ⟨q',s.many,s.rd⟩) (rr.getD j 0):=by
   rw[Zu hjl,List.foldl_append]
   simp only[List.foldl_cons,List.foldl_nil]
   rw[Zf,Ze hjl]
   rfl
  have hms:=MB.reads (rr.take j) c ⟨q',s.many,s.rd⟩ HMB.out
  have hmu3:=Zm (ZcE _) (Zm (Gh (rr.take j) ⟨q',s.many,s.rd⟩) hmu2)
  have hrd:=Gi (rr.take j) ⟨q',s.many,s.rd⟩
  rw[Z9] at hms
  obtain⟨s2,hs2⟩:∃s2,(rr.take j).foldl Yy ⟨q',s.many,s.rd⟩=s2:=⟨_,rfl⟩
  rw[hs2] at hwi hst hms hmu3 hrd
  simp only at hrd
  have hin:=gx hwi.ok i
  rw[hrd,hrr] at hin
  obtain⟨x0,x1⟩:=hin _ (Jj hjl)
  obtain⟨k,hk⟩:∃k:Nat,rr.getD j 0=(k:Int):=⟨(rr.getD j 0).toNat,oq⟩
  rw[hk] at hst x1
  have hkT:k<T:=oq
  obtain⟨v2,hv2,r0,r1,hqv⟩:=hwi.rdAt hiT
  rw[HV.out] at hv2
  injection hv2 with hv2
  subst hv2
  rw[hrd,hrr] at hqv
  obtain⟨gv,cv2,ev,_,_,hcv,_⟩:=hqv.form (by intro e;rw[e] at hjl;simp at hjl)
  injection ev with ev _ ev2
  subst ev
  subst ev2
  have c0:=hcv j hjl
  rw[hk] at c0
  obtain⟨⟨b0,b1,b2⟩,bf⟩:=U7 hwi.box
  obtain⟨m0,m1⟩:=hwi.manyAt hkT
  have hmk:=hms.getD k
  obtain⟨m,hm⟩:∃m,s2.many.getD k 0=m:=⟨_,rfl⟩
  rw[hm] at m0 hmk
  have hrs:Yy s2 (k:Int)=⟨if m-1=0 then QI s2.q (k:Int) else s2.q,s2.many.set k (m-1),s2.rd⟩:=by unfold Yy;rw[ZP,hm]
  have HST:=hid (hst.trans hrs)
  have hw2:=hwi.setMany k (m-1)
  obtain⟨n0,n1⟩:=hw2.manyAt hkT
  simp only at n0
  have hgd:(s2.many.set k (m-1)).getD k 0=m-1:=by rw[Zf,List.getElem?_set_self (by rw[hwi.ok.many];exact hkT)];rfl
  rw[hgd] at n0
  obtain⟨⟨d0,d1,d2⟩,df⟩:=U7 hw2.box
  have HW2:=hid hw2
  have HPU:=hid (GY (w:=wi.setCell ⟨mb,k,none⟩ (.int .i64 (m-1))) hw2.qm hw2.box (show s2.q.length≤10000 by omega) (k:Int))
  have HAL:=hid (J9 (l:=s2.q) (x:=(k:Int)) hwi.ok.q ⟨oq,x1⟩)
  have hj0:(0:Int)≤(j:Int):=oq
  have hj1:(j:Int)<(rr.length:Int):=oq
  have k0:(0:Int)≤(k:Int):=oq
  have hml:m≤100000:=hmk.2
  have hmg:-9000000000000000000≤m:=oq
  clear hst hrs hs2 hrd hin x0 hk hcv hw2 hgd hm hms hqv hmk
  by_cases hm1:m-1=0
  ·have HS2:=hid (show(rr.take (j+1)).foldl Yy ⟨q',s.many,s.rd⟩=⟨QI s2.q (k:Int),s2.many.set k (m-1),s2.rd⟩ by have:=HST.out;rw[Z0 hm1] at this;exact this)
   have he:(m-1 == 0)=true:=by rw[beq_iff_eq];exact hm1
   have HM1:=hid hm1
   clear hm1 hwi
   go_wp2_with (go_at_call 127;refine HPU.out.mono ?_;rintro y w7 ⟨rfl,hp7⟩;have HP7:=hid hp7;clear hp7)
   obtain⟨vq',hw7,hv7,hbt7⟩:=HW2.out.queue HP7.out HAL.out
   obtain⟨hv3,hbt3⟩:=HVB.out
   have hs3:=hbt3.size
   have hbt4:But (fun k=>k=mb∨k=wb∨vq.ownBlock=some k) w (wi.setCell ⟨mb,k,none⟩ (.int .i64 (m-1))):=hbt3.trans (But.set (S:=fun k=>k=mb∨k=wb∨vq.ownBlock=some k) (.inl rfl) _)
   have hs4:=hbt4.size
   refine⟨hid ⟨j+1,vq',by go_num,hjl,by rw[HS2.out];exact hw7,fun k hk=>?_,hbt4.then hbt7 (fun k hk e=>?_)⟩,by simp[intOf];omega⟩
   ·rcases hv7 k hk with h1|h1
    ·exact hv3 k h1
    exact .inr oq
   rcases e with e|e
   ·exact .inr (.inl e)
   rcases hv3 k e with h1|h1
   ·exact .inr (.inr h1)
   omega
  have HS2:=hid (show(rr.take (j+1)).foldl Yy ⟨q',s.many,s.rd⟩=⟨s2.q,s2.many.set k (m-1),s2.rd⟩ by have:=HST.out;rw[ZZ hm1] at this;exact this)
  have he:(m-1 == 0)=false:=by rw[ZW];exact hm1
  clear hwi
  go_wp2
  exact⟨hid ⟨j+1,vq2,by go_num,hjl,by rw[HS2.out];exact HW2.out,HVB.out.1,HVB.out.2.trans (But.set (S:=fun k=>k=mb∨k=wb∨vq.ownBlock=some k) (.inl rfl) _)⟩,by simp[intOf];omega⟩
 have hjn:j=rr.length:=oq
 subst hjn
 rw[ZR] at hwi
 have HWI:=hid hwi
 clear hwi
 go_wp2
 go_ret
 exact⟨rfl,vq2,HWI.out,HVB.out⟩
def uI (w:World) (o:Option (List Int)) (x:Ending) (w':World):Prop:=match o with
 | none=>x=.returned (.tuple #[.slice none 0 0,.int .i64 6])
 | some l=>∃v,x=.returned (.tuple #[v,.int .i64 0])∧QV w' w.heap.size v l
theorem Ea (f:FD):K4 f=Y2 f f.tasks.length:=rfl
theorem Zae (f:FD):muW (Y2 f f.tasks.length)≤2000∨1000<f.tasks.length:=by
 by_cases h:f.tasks.length≤1000
 ·left
  have h1:=J8 f f.tasks.length
  have h2:=(J7 f f.tasks.length (Zc _)).many
  have h3:=List.countP_le_length (p:=fun x:Int=>decide (0<x)) (l:=(Y2 f f.tasks.length).many)
  unfold muW
  omega
 right;omega
theorem ZbA {w:World} (f:FD) (ai an aT al:Option Addr) (ci cn ct cl:Nat) (hf:FAP w f ai an aT al) :
  Calls Tryz.prog 51 #[fv f ai an aT al ci cn ct cl] w fun x w'=>uI w (ofP f) x w'∧Below w.heap.size w w':=by
 have hlens:=hf.lens
 have HHL:∀(n:Nat) (d:TD),f.tasks[n]?=some d→(YU f d).length≤1000:=fun n d hd=>by
  have h1:=JN ((GE f d).mergeSort (fun x y=>decide (x≤y)))
  rw[List.length_mergeSort] at h1
  have h2:=V9 f d.args
  have h3:=(hf.args d (Z8 hd)).1
  unfold YU
  unfold GE at *
  omega
 have HNW:=hid (fun(W:World) (hW:Below w.heap.size w W)=>K5 (w:=W) f ai an aT al ci cn ct cl (hf.below hW))
 obtain⟨T,hT⟩:∃T,f.tasks.length=T:=⟨_,rfl⟩
 have hTl:T≤1000:=oq
 have hmu:muW (Y2 f T)≤2000:=by
  rcases Zae f with h|h
  ·rw[←hT];exact h
  omega
 have hrb:RB 2000000 (Y2 f T).rd:=(E9 f HHL T).mono oq
 have hmb:=jA f HHL T
 have hof:ofP f=if (YY (muW (Y2 f T)) (Y2 f T) []).length<T then none else some (YY (muW (Y2 f T)) (Y2 f T) []):=by unfold ofP;rw[Ea,hT]
 rw[hof]
 obtain⟨ans,hans⟩:∃ans,YY (muW (Y2 f T)) (Y2 f T) []=ans:=⟨_,rfl⟩
 have HANS:=hid hans
 rw[hans]
 obtain⟨oo,hoo⟩:∃oo,(if ans.length<T then none else some ans)=oo:=⟨_,rfl⟩
 rw[hoo]
 have HOO:=hid hoo
 clear hoo
 have HMU:=hid hmu
 have HRB:=hid hrb
 have HMB:=hid hmb
 unfold fv at *
 rw[hT] at HNW ⊢
 clear hf hlens HHL hof hans hrb hmb hmu hT
 go_enter Tryz.func51,Tryz.ntmps51
 go_upto_region 2 with (go_at_call 89;refine(HNW.out _ bq).mono ?_;rintro y w1 ⟨W2,wb,mb,rb,vq,vs,rfl,hw1,hb1,hm1,hr1,hq1⟩;have HW1:=hid hw1;have HB1:=hid hb1;have hs1:=hb1.size;have hs2:=hw1.but.size;have hlt1:=hw1.lt;have q1:=(hb1.block w.heap.size (by simp)).trans (Yt w _);have HQ:=hid q1;clear hw1 hb1 q1)
 have HWB:=hid (Zh hm1 (Zh hr1 hq1))
 have HW1LT:=hid hlt1
 clear hm1 hr1 hq1
 have hW2:w.heap.size<W2.heap.size:=by simp at hs1;omega
 go_wp2
 go_loopw [5] (fun s5 wr=>Hid (∃s l vq2 c,WaM W2 wr T wb mb rb vq2 vs s∧QV wr W2.heap.size s5 l∧YY (muW s) s l=ans∧muW s+l.length≤2000∧c=l.length*2000000∧MB c s.many∧RB 2000000 s.rd∧(∀k,s5.ownBlock=some k→vq2.ownBlock≠some k∧∀(i:Nat) (v:Value),vs[i]?=some v→v.ownBlock≠some k))) (fun s _=>2000-(match s with|.slice _ n _=>n|_=>0))
 case atStart=>exact⟨Y2 f T,[],vq,0,HW1.out,Yd _ _ _ _,HANS.out,by have:=HMU.out;simp;exact this,rfl,HMB.out,HRB.out,fun k hk=>by simp[Value.ownBlock] at hk⟩
 clear HW1 HMU HRB HMB HANS
 obtain⟨wo,rfl⟩:∃wo:World,wo=wr:=⟨_,rfl⟩
 obtain⟨s,l,vq2,c,hwa,hql,hgo,hmu,hc,hmb,hrb,hdis⟩:=hrel.out
 clear hrel
 obtain⟨a5,c5,rfl⟩:=YD hql
 obtain⟨⟨b0,b1,b2⟩,bf⟩:=U7 hwa.box
 have hsz:=hwa.size
 have HLEN:=hid (Kb (w:=wo) vq2 s.q hwa.qm.own)
 have HDIS:=hid hdis
 have HQL:=hid hql
 have HWA:=hid hwa
 have hlo:=HWB.out
 simp only[Zt] at hlo
 have hq:=(hwa.but.block w.heap.size hW2 (fun e=>oq)).trans HQ.out
 have HLOW:=hid (show Below w.heap.size w wo from(bq:Below w.heap.size w W2).trans (hwa.but.below oq (fun k e=>oq)))
 by_cases hqe:s.q=[]
 ·rw[qC _ _ hqe] at hgo
  subst hgo
  have hle:¬(0:Int)<(s.q.length:Int):=by rw[hqe];simp
  have hle2:¬(s.q.length:Int) > 0:=hle
  obtain⟨⟨z0,z1,z2,z3⟩,zf⟩:=Yu hq
  clear hwa hql hdis hq hqe hmb hrb
  by_cases hlt:l.length<T
  ·have hlt1:(l.length:Int)<(T:Int):=oq
   obtain rfl:none=oo:=by have:=HOO.out;rw[Z0 hlt] at this;exact this
   go_wp2_with (go_at_call 90;refine HLEN.out.mono ?_;rintro y w2 ⟨rfl,rfl⟩)
   go_ret2
   exact⟨rfl,HLOW.out⟩
  have hlt1:¬(l.length:Int)<(T:Int):=oq
  obtain rfl:some l=oo:=by have:=HOO.out;rw[ZZ hlt] at this;exact this
  go_wp2_with (go_at_call 90;refine HLEN.out.mono ?_;rintro y w2 ⟨rfl,rfl⟩)
  go_ret2
  exact⟨⟨_,rfl,Y6 HQL.out oq⟩,HLOW.out⟩
 have h0:0<s.q.length:=by
  cases hq':s.q with
  | nil=>exact absurd hq' hqe
  | cons _ _=>simp
 have hle:(0:Int)<(s.q.length:Int):=oq
 rw[yB l hqe] at hgo
 have hmu2:=za hqe
 have hmq:=ZcE s
 have HNX:=hid (yE (w:=wo) hwa hqe oq (c:=c) oq hmb hrb oq)
 have HMB2:=hid ((MB.next hmb hrb).mono (show c+2000000≤(l.length+1)*2000000 by omega))
 have HRB2:=hid (show RB 2000000 (YH s).2.rd by rw[Zag];exact hrb)
 obtain⟨tk9,htk⟩:∃tk9,(YH s).1=tk9:=⟨_,rfl⟩
 obtain⟨s',hs'⟩:∃s',(YH s).2=s':=⟨_,rfl⟩
 rw[htk,hs'] at HNX
 rw[hs'] at HMB2 HRB2 hmu2
 rw[htk,hs'] at hgo
 have HGO:=hid hgo
 obtain⟨i0,hi0',hi1',hi2',hi3'⟩:=info_parts V7
 have HI:=hid (Zh hi0' (Zh hi1' (Zh hi2' hi3')))
 have hll:l.length≤2000:=oq
 clear hi0' hi1' hi2' hi3' hwa hql hdis hq hqe hmb hrb hgo htk hs'
 go_wp2_with (first|(go_at_call 90;refine HLEN.out.mono ?_;rintro y w2 ⟨rfl,rfl⟩)|(go_at_call 91;refine HNX.out.mono ?_;rintro y w3 ⟨rfl,vq3,hw3,hv3,hbt3⟩;have HW3:=hid hw3;have HV3:=hid hv3;have HB3:=hid hbt3;have hs3:=hbt3.size;have HQ3:=hid (show QV w3 W2.heap.size (.slice a5 l.length c5) l from hbt3.own HQL.out (fun k hk e=>by have h1:=(JJ HQL.out k hk).1;have h2:=HW1LT.out;rcases e with e|e|e<;>first|omega|exact(HDIS.out k hk).1 e));clear hw3 hv3 hbt3)|(refine lite.Xd _ (by rfl) _ _ _ (by rfl) W2.heap.size 3 i0 _ 1 8 Tryz.underlying44 HI.out.1 HI.out.2.1 HI.out.2.2.1 HI.out.2.2.2 rfl oq (.slice a5 l.length c5) l.length (ints l) (by rfl) (own_below HQ3.out bq) (some ⟨w3.heap.size,0,none⟩) 1 1 [.int .i64 tk9] (by rfl) (by rfl) (fun j u h=>⟨_,rfl,World.news_of_block (Zy _ _) j u h⟩) (by simp[Value.oneCell']) (by unfold maxLen;omega) oq oq ?_;intro v4 w4 hown4 hg4 hl4;have HO4:=hid hown4;have HL4:=hid hl4;have hb4:But (fun k=>(Value.slice a5 l.length c5).ownBlock=some k) w3 w4:=(But.of_below ((Zg _ _).alloc (Zc _) _)).then (But.of_grown hg4) (fun _ _ e=>e);have HB4:=hid hb4;clear hown4 hg4 hl4 hb4))
 have hob:=JJ HQL.out
 have hw4:WaM W2 w4 T wb mb rb vq3 vs s':=HW3.out.other HB4.out (fun k hk=>⟨(hob k hk).1,fun e=>by
  rcases HV3.out k e with h1|h1
  ·exact(HDIS.out k hk).1 h1
  have:=(hob k hk).2;omega,(HDIS.out k hk).2⟩)
 obtain⟨a6,c6,rfl⟩:=YD HO4.out
 refine⟨hid ⟨s',l++[tk9],vq3,(l.length+1)*2000000,hw4,?_,HGO.out,by simp;omega,by simp,HMB2.out,HRB2.out,?_⟩,?_⟩
 ·unfold QV
  rw[Zw,←JU]
  exact HO4.out
 ·intro k hk
  have hq3:=JJ HW3.out.qm.own
  rcases HL4.out with h1|h1
  ·rw[h1] at hk
   refine⟨fun e=>?_,(HDIS.out k hk).2⟩
   rcases HV3.out k e with h2|h2
   ·exact(HDIS.out k hk).1 h2
   have:=(hob k hk).2;omega
  rw[h1] at hk
  injection hk with hk
  simp only[Zt] at hk
  refine⟨fun e=>by have:=(hq3 k e).2;omega,fun i v hv e=>?_⟩
  have:=(HW3.out.fam.block (i:=i+1) (by rw[List.getElem?_cons_succ];exact hv) k e).2
  omega
 show 2000-(l.length+1)<2000-l.length
 omega
end Go.Proofs.YtlhlcdjiafdoeaaGreatDoor.syn
