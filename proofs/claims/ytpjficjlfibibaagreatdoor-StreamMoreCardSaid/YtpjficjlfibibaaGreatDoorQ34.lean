/-
  Parts of the proof: StrL.
-/
import Derived.StillTailTactics
import Derived.Test.YtpjficjlfibibaaGreatDoorQ33
namespace Go.Proofs.YtpjficjlfibibaaGreatDoor.syn
open Go.RowKit
set_option linter.unusedVariables false
set_option linter.unusedSimpArgs false
def MdAns (x:Ending) (w':World):Prop :=
 x = .returned (.tuple #[.agg #[.slice none 0 0,.slice none 0 0,.slice none 0 0,.slice none 0 0],.bool false]) ∨ ∃ f nds ai an aT al ci cn ct cl,x = .returned (.tuple #[fv f ai an aT al ci cn ct cl,.bool true]) ∧ FAP w' f ai an aT al ∧ StrP w' f an nds
theorem errV_same (f:FD) {u v:Int} (hu:0 ≤ u ∧ u ≤ 20000) (hv:0 ≤ v ∧ v ≤ 20000):errV f u = errV f v:=by
 unfold errV
 by_cases h:rightP f = true
 ·rw [if_pos ⟨h,hu⟩,if_pos ⟨h,hv⟩]
 ·rw [if_neg (fun e => h e.1),if_neg (fun e => h e.1)]
theorem pre_vals (f:FD) (nds:List NE) (inl:List (List Int)) {u v:Int} (hu:0 ≤ u) (h:u ≤ v):Pre (valsV f nds inl u) (valsV f nds inl v):=by
 unfold valsV
 obtain ⟨m,hm⟩:∃ m,v.toNat = u.toNat + m:=⟨v.toNat - u.toNat,by omega⟩
 rw [hm]
 exact pre_reck _ _ _ _ _ _ _
theorem pre_at {a b:List (List Int)} (h:Pre a b) {t:Nat} (ha:t < a.length):∃ hb:t < b.length,∃ r,b[t] = a[t] ++ r:=by
 have hb:t < b.length:=by have:=h.1;omega
 obtain ⟨r,hr⟩:=h.2 t
 refine ⟨hb,r,?_⟩
 simp only [List.getD,List.getElem?_eq_getElem ha,List.getElem?_eq_getElem hb,Option.getD_some] at hr
 exact hr.symm
theorem RowLL.at {w:World} {ad:Option Addr} {ll:List (List Int)} (h:RowLL w ad ll) {t:Nat} (ht:t < ll.length):∃ b o a c,ad = some ⟨b,o,none⟩ ∧ b < w.heap.size ∧ w.cell? ⟨b,o + t,none⟩ = some (.slice a ll[t].length c) ∧ RowL w (Value.int .i64) a ll[t]:=by
 obtain ⟨b,o,e,hb,hc⟩:=h.resolve_left (fun e => by rw [e] at ht;simp at ht)
 obtain ⟨a,c,h1,h2⟩:=hc t _ (List.getElem?_eq_getElem ht)
 exact ⟨b,o,a,c,e,hb,h1,h2⟩
theorem RowL.at {w:World} {ad:Option Addr} {l:List Int} (h:RowL w (Value.int .i64) ad l) {t:Nat} (ht:t < l.length):∃ b o,ad = some ⟨b,o,none⟩ ∧ b < w.heap.size ∧ w.cell? ⟨b,o + t,none⟩ = some (.int .i64 l[t]):=by
 obtain ⟨b,o,e,hb,hc⟩:=h.resolve_left (fun e => by rw [e] at ht;simp at ht)
 exact ⟨b,o,e,hb,hc t _ (List.getElem?_eq_getElem ht)⟩
set_option maxRecDepth 100000 in
set_option maxHeartbeats 8000000 in
theorem more_law {w:World} (p0 p1 p2 p3:Option Addr) (n0 n1 n2 n3 c0 c1 c2 c3:Nat)
  (hM:∀ W,Below w.heap.size w W → Calls Tryz.prog 8 #[.agg #[.slice p0 n0 c0,.slice p1 n1 c1,.slice p2 n2 c2,.slice p3 n3 c3]] W fun x w' => MdAns x w' ∧ Below W.heap.size W w')
  (inl:List (List Int)) (ain:Option Addr) (cin:Nat) (hin:RowLL w ain inl) {m':Nat} (hbi:Bv m' inl) (d0 d1:Nat) (hd0:d0 ≤ 255) (hd1:d1 ≤ 255) :
  Calls Tryz.prog 3 #[.agg #[.slice p0 n0 c0,.slice p1 n1 c1,.slice p2 n2 c2,.slice p3 n3 c3],.slice ain inl.length cin,.agg #[.int .u8 (d0:Int),.int .u8 (d1:Int)]] w fun x w' => x = .returned (.bool true) ∧ Below w.heap.size w w':=by
 have HM:=hid hM
 have HIN:=hid (And.intro hin hbi)
 have HAW:=hid (fun W => awake10_any W)
 have HFE:=hid (fun W (hb:Below w.heap.size w W) => few10_any (w:=W) inl ain cin (hin.keep hb.block))
 have HVA:=hid (fun (w0 W:World) (hb:Below w.heap.size w W) (f:FD) (nds:List NE) ai an aT al ci cn ct cl (hf:FAP w0 f ai an aT al) (hn:StrP w0 f an nds) (h0:Below w0.heap.size w0 W) (u:Int) => values_any (w:=W) f ai an aT al ci cn ct cl (hf.below h0) nds (hn.below h0) inl ain cin (hin.keep hb.block) hbi u)
 clear hM hin hbi
 unfold fv at HVA
 obtain ⟨W1,hW1⟩:∃ W1,((w.alloc (.cells #[.slice p0 n0 c0,.slice p1 n1 c1,.slice p2 n2 c2,.slice p3 n3 c3] 27)).alloc (.cells #[.int .u8 (d0:Int),.int .u8 (d1:Int)] 29)) = W1:=⟨_,rfl⟩
 have hB:Below w.heap.size w W1:=by rw [← hW1];exact bq
 have hs1:W1.heap.size = w.heap.size + 2:=by rw [← hW1];simp
 have hq0:W1.heap[w.heap.size]? = some (.cells #[.slice p0 n0 c0,.slice p1 n1 c1,.slice p2 n2 c2,.slice p3 n3 c3] 27 (0,0)):=by rw [← hW1];exact (Below.heap_alloc _ _ _ (by simp)).trans (heap_new w _)
 have hr0:W1.heap[w.heap.size + 1]? = some (.cells #[.int .u8 (d0:Int),.int .u8 (d1:Int)] 29 (0,0)):=by rw [← hW1];simpa using heap_new (w.alloc (.cells #[.slice p0 n0 c0,.slice p1 n1 c1,.slice p2 n2 c2,.slice p3 n3 c3] 27)) _
 have hl0:=lt_of_block hq0
 have hl1:=lt_of_block hr0
 have HB:=hid hB
 have HQ:=hid hq0
 have HR:=hid hr0
 clear hB hq0 hr0
 obtain ⟨u1,ra⟩:∃ u1:Int,(d0:Int).tmod 100 = u1:=⟨_,rfl⟩
 obtain ⟨e1,re⟩:∃ e1:Int,(d1:Int).tmod 100 = e1:=⟨_,rfl⟩
 have bu:0 ≤ u1 ∧ u1 < 100:=by rw [← ra,Int.tmod_eq_emod_of_nonneg oq];omega
 have be:0 ≤ e1 ∧ e1 < 100:=by rw [← re,Int.tmod_eq_emod_of_nonneg oq];omega
 have wa:IntKind.u8.wrap u1 = u1:=by unfold IntKind.wrap;simp [IntKind.signed,IntKind.bits];omega
 have we:IntKind.u8.wrap e1 = e1:=by unfold IntKind.wrap;simp [IntKind.signed,IntKind.bits];omega
 have xa:IntKind.i64.wrap u1 = u1:=IntWalk.i64_in _ oq
 have xe:IntKind.i64.wrap e1 = e1:=IntWalk.i64_in _ oq
 obtain ⟨u2,hu2⟩:∃ u2,u1 + e1 = u2:=⟨_,rfl⟩
 have xs:IntKind.i64.wrap (u1 + e1) = u2:=by rw [IntWalk.i64_in _ oq,hu2]
 have HU:=hid (show (0 ≤ u1 ∧ u1 ≤ 20000) ∧ (0 ≤ u2 ∧ u2 ≤ 20000) ∧ u1 ≤ u2 by omega)
 clear bu be hu2
 go_enter Tryz.func3,Tryz.ntmps3
 go_upto_region 1 with fail
 first | rw [hW1] | skip
 clear hW1
 go_upto_region 6 with (first
  | (go_at_call 6;refine (HAW.out _).mono ?_;rintro x w2 ⟨rfl,hb2⟩;first | (have HB3:=hid (HB2.out.trans (hb2.mono HB2.out.size));clear hb2) | (have HB2:=hid (HB.out.trans (hb2.mono HB.out.size));have HL2:=hid hb2;have hs2:=hb2.size;obtain ⟨⟨x0,x1,x2,x3⟩,xf⟩:=cells4 ((hb2.block _ hl0).trans HQ.out);clear hb2))
  | (go_at_call 7;refine (HFE.out _ HB2.out).mono ?_;rintro x w3 ⟨⟨b3,rfl⟩,rfl⟩;cases b3)
  | (go_at_call 8;refine (HM.out _ HB2.out).mono ?_;rintro x w4 ⟨hans,hb4⟩;have HB4:=hid (HB2.out.trans (hb4.mono HB2.out.size));have hs4:=hb4.size;have HR4:=hid ((hb4.block _ oq).trans ((HL2.out.block _ hl1).trans HR.out));clear hb4;rcases hans with rfl | ⟨f,nds,ai,an,aT,al,ci,cn,ct,cl,rfl,hf4,hn4⟩ <;> (try (have HF4:=hid (And.intro hf4 hn4);clear hf4 hn4;unfold fv))))
 ·exact bodyPost_ret (v:=.bool true) (by simp only [results,Tryz.results3];go_simp) rfl ⟨rfl,HB3.out⟩
 ·exact bodyPost_ret (v:=.bool true) (by simp only [results,Tryz.results3];go_simp) rfl ⟨rfl,bq⟩
 ·obtain ⟨W5,hW5⟩:∃ W5,w4.alloc (.cells #[.slice ai f.ins.length ci,.slice an f.nods.length cn,.slice aT f.tasks.length ct,.slice al f.tells.length cl] 36) = W5:=⟨_,rfl⟩
  have hq5:W5.heap[w4.heap.size]? = some (.cells #[.slice ai f.ins.length ci,.slice an f.nods.length cn,.slice aT f.tasks.length ct,.slice al f.tells.length cl] 36 (0,0)):=by rw [← hW5];exact heap_new w4 _
  have hb5:Below w4.heap.size w4 W5:=by rw [← hW5];exact bq
  have hs5:w4.heap.size < W5.heap.size:=lt_of_block hq5
  have HB5:=hid (HB4.out.trans (hb5.mono HB4.out.size))
  have HQ5:=hid hq5
  have HL5:=hid hb5
  have h5:=HB4.out.size
  obtain ⟨⟨r0,r1⟩,rf⟩:=cells2 ((hb5.block _ oq).trans HR4.out)
  obtain ⟨⟨y0,y1,y2,y3⟩,yf⟩:=cells4 hq5
  obtain ⟨er,her⟩:∃ er,errV f u1 = er:=⟨_,rfl⟩
  have her2:errV f u2 = er:=(errV_same f HU.out.2.1 HU.out.1).trans her
  have HV:=hid (fun (W:World) (hb:Below W5.heap.size W5 W) (u:Int) => HVA.out w4 W (HB5.out.trans (hb.mono HB5.out.size)) f nds ai an aT al ci cn ct cl HF4.out.1 HF4.out.2 (HL5.out.trans (hb.mono HL5.out.size)) u)
  have hT1:=HF4.out.1.lens.2.2.1
  rw [hW5]
  clear hW5 hq5 hb5 x0 x1 x2 x3 xf HM HFE HAW HVA HR HQ HR4 HF4 HL2
  by_cases he0:er = 0
  ·subst he0
   have HVa:=hid (fun (W:World) (hb:Below W5.heap.size W5 W) => (HV.out W hb u1).mono (fun x w' h => And.intro (h.1.resolve_right (fun k => k.1 her)).2 h.2))
   have HVb:=hid (fun (W:World) (hb:Below W5.heap.size W5 W) => (HV.out W hb u2).mono (fun x w' h => And.intro (h.1.resolve_right (fun k => k.1 her2)).2 h.2))
   clear her her2 HV
   obtain ⟨va,hva⟩:∃ va,valsV f nds inl u1 = va:=⟨_,rfl⟩
   obtain ⟨vb,hvb⟩:∃ vb,valsV f nds inl u2 = vb:=⟨_,rfl⟩
   have hpre:Pre va vb:=by rw [← hva,← hvb];exact pre_vals f nds inl HU.out.1.1 HU.out.2.2
   have hal:va.length = f.tasks.length:=by rw [← hva];exact valsV_len _ _ _ _
   have hbl:vb.length = f.tasks.length:=by rw [← hvb];exact valsV_len _ _ _ _
   rw [hva] at HVa
   rw [hvb] at HVb
   have HP:=hid (And.intro hpre (And.intro hal hbl))
   clear hva hvb hpre hal hbl
   go_upto_region 9 with (go_at_call 9;refine (HVa.out _ (Below.refl _ _)).mono ?_;rintro x w6 ⟨⟨aa,ca,rfl,hra,hva⟩,hb6⟩;have HB6:=hid hb6;have HRA:=hid hra;have HVV:=hid hva;clear hva;have hs6:=hb6.size;obtain ⟨⟨q0,q1,q2,q3⟩,qf⟩:=cells4 ((hb6.block _ hs5).trans HQ5.out);clear hb6 hra)
   clear y0 y1 y2 y3 yf
   go_upto_region 10 with (go_at_call 9;refine (HVb.out _ HB6.out).mono ?_;rintro x w7 ⟨⟨ab,cb,rfl,hrb,_⟩,hb7⟩;have HB7:=hid (HB5.out.trans ((HB6.out.trans (hb7.mono hs6)).mono HB5.out.size));have HRA7:=hid (HRA.out.keep hb7.block);have HRB:=hid hrb;clear hb7 hrb)
   clear q0 q1 q2 q3 qf
   go_upto_region 12 with fail
   clear r0 r1 rf HRA HVa HVb ra re wa we xa xe xs HU hd0 hd1 hs5 hs6 h5 hs4 hs2 hl0 hl1 hs1
   obtain ⟨W7,rfl⟩:∃ W7:World,W7 = w7:=⟨_,rfl⟩
   go_wp2
   go_loopw [15] (fun s wr => Hid (∃ t:Nat,s = .int .i64 (t:Int) ∧ t ≤ f.tasks.length ∧ Below W7.heap.size W7 wr)) (fun s _ => f.tasks.length - (intOf s).toNat)
   case atStart => exact ⟨0,rfl,Nat.zero_le _,Below.refl _ _⟩
   case round =>
    obtain ⟨W8,rfl⟩:∃ W8:World,W8 = wr:=⟨_,rfl⟩
    obtain ⟨t,rfl,ht,hb8⟩:=hrel.out
    clear hrel
    by_cases hlt:t < f.tasks.length
    ·have hil:(t:Int) < (f.tasks.length:Int):=by omega
     have hi0:(0:Int) ≤ (t:Int):=by omega
     have hal:=HP.out.2.1
     have hbl:=HP.out.2.2
     obtain ⟨hb,rs,hrs⟩:=pre_at HP.out.1 (t:=t) oq
     obtain ⟨b1,o1,a1,k1,rfl,hb1,z1,zr1⟩:=HRA7.out.at (t:=t) oq
     obtain ⟨b2,o2,a2,k2,rfl,hb2,z2,zr2⟩:=HRB.out.at (t:=t) hb
     rw [hrs] at z2 zr2
     have e1:=(hb8.cell (p:=⟨b1,_,none⟩) hb1).trans z1
     have e2:=(hb8.cell (p:=⟨b2,_,none⟩) hb2).trans z2
     rw [List.length_append] at e2
     obtain ⟨la,hla⟩:∃ la,va[t] = la:=⟨_,rfl⟩
     rw [hla] at e1 e2 zr1 zr2
     have HZ1:=hid (zr1.keep hb8.block)
     have HZ2:=hid (zr2.keep hb8.block)
     have HB8:=hid hb8
     obtain ⟨n1,hn1⟩:∃ n1,la.length = n1:=⟨_,rfl⟩
     obtain ⟨n2,hn2⟩:∃ n2,n1 + rs.length = n2:=⟨_,rfl⟩
     rw [hn1] at e1
     rw [hn1,hn2] at e2
     have hle:n1 ≤ n2:=by omega
     have HN1:=hid hn1
     have hnb:n1 ≤ 2000000:=by rw [← hn1,← hla];exact (HVV.out _ (List.getElem_mem oq)).1
     have hgt:¬ (n1:Int) > (n2:Int):=by omega
     have hgt2:decide ((n2:Int) < (n1:Int)) = false:=decide_eq_false oq
     clear z1 z2 zr1 zr2 hrs hla hb8 hn2 hn1 hb hal hbl
     go_upto_region 15 with fail
     go_still (by kernel_rfl)
     change Exit.then _ _ Exit.normal _ W8.drew
     obtain ⟨W9,hW9⟩:∃ W9,W8.drew = W9:=⟨_,rfl⟩
     rw [hW9]
     have HB9:=hid (show Below W7.heap.size W7 W9 by rw [← hW9];exact HB8.out.drew)
     have f1:=(show W9.cell? ⟨b1,o1 + t,none⟩ = W8.cell? ⟨b1,o1 + t,none⟩ by rw [← hW9];rfl).trans e1
     have f2:=(show W9.cell? ⟨b2,o2 + t,none⟩ = W8.cell? ⟨b2,o2 + t,none⟩ by rw [← hW9];rfl).trans e2
     have HY1:=hid (show RowL W9 (Value.int .i64) a1 la from HZ1.out.keep (fun _ _ => by rw [← hW9];rfl))
     have HY2:=hid (show RowL W9 (Value.int .i64) a2 (la ++ rs) from HZ2.out.keep (fun _ _ => by rw [← hW9];rfl))
     have hz9:W7.heap.size ≤ W9.heap.size:=HB9.out.size
     have hb19:b1 < W9.heap.size:=by omega
     have hb29:b2 < W9.heap.size:=by omega
     clear hW9 e1 e2 HZ1 HZ2
     go_wp2
     go_loopw [16] (fun s wr => Hid (∃ n:Nat,s = .int .i64 (n:Int) ∧ n ≤ n1 ∧ Below W9.heap.size W9 wr)) (fun s _ => n1 - (intOf s).toNat)
     case atStart => exact ⟨0,rfl,Nat.zero_le _,Below.refl _ _⟩
     case round =>
      obtain ⟨Wa,rfl⟩:∃ Wa:World,Wa = wr:=⟨_,rfl⟩
      obtain ⟨n,rfl,hn,hba⟩:=hrel.out
      clear hrel
      have g1:=(hba.cell (p:=⟨b1,_,none⟩) hb19).trans f1
      have g2:=(hba.cell (p:=⟨b2,_,none⟩) hb29).trans f2
      have HBA:=hid hba
      have hza:=hba.size
      by_cases hnl:n < n1
      ·have hin:(n:Int) < (n1:Int):=by omega
       have hin2:(n:Int) < (n2:Int):=by omega
       have hn0:(0:Int) ≤ (n:Int):=by omega
       obtain ⟨b3,o3,rfl,hb3,z3⟩:=HY1.out.at (t:=n) (by rw [HN1.out];exact hnl)
       obtain ⟨b4,o4,rfl,hb4,z4⟩:=HY2.out.at (t:=n) (by rw [List.length_append,HN1.out];omega)
       rw [List.getElem_append_left (by rw [HN1.out];exact hnl)] at z4
       obtain ⟨x,hx⟩:∃ x,la[n]'(by rw [HN1.out];exact hnl) = x:=⟨_,rfl⟩
       rw [hx] at z3 z4
       have g3:=(hba.cell (p:=⟨b3,_,none⟩) hb3).trans z3
       have g4:=(hba.cell (p:=⟨b4,_,none⟩) hb4).trans z4
       have hxx:(x != x) = false:=by simp
       clear z3 z4 hx hba
       go_upto_region 20 with fail
       go_still (by kernel_rfl)
       change Exit.then _ _ Exit.normal _ Wa.drew
       go_wp2
       exact ⟨hid ⟨n + 1,by go_num,hnl,HBA.out.drew⟩,by simp [intOf];omega⟩
      ·have hin:¬ (n:Int) < (n1:Int):=by omega
       clear hba
       go_wp2
       exact ⟨hid ⟨t + 1,by go_num,hlt,HB9.out.trans (HBA.out.mono hz9)⟩,by simp [intOf];omega⟩
    ·have hil:¬ (t:Int) < (f.tasks.length:Int):=by omega
     have HB8:=hid hb8
     clear hb8
     go_wp2
     exact bodyPost_ret (v:=.bool true) (by simp only [results,Tryz.results3];go_simp) rfl ⟨rfl,HB7.out.trans (HB8.out.mono HB7.out.size)⟩
  ·have hne:(er != 0) = true:=bne_iff_ne.2 he0
   have hee:(er == er) = true:=beq_self_eq_true er
   have HVa:=hid (fun (W:World) (hb:Below W5.heap.size W5 W) => (HV.out W hb u1).mono (fun x w' h => And.intro (h.1.resolve_left (fun k => he0 (her.symm.trans k.1))).2 h.2))
   have HVb:=hid (fun (W:World) (hb:Below W5.heap.size W5 W) => (HV.out W hb u2).mono (fun x w' h => And.intro (h.1.resolve_left (fun k => he0 (her2.symm.trans k.1))).2 h.2))
   rw [her] at HVa
   rw [her2] at HVb
   clear her her2 HV
   go_upto_region 9 with (go_at_call 9;refine (HVa.out _ (Below.refl _ _)).mono ?_;rintro x w6 ⟨rfl,hb6⟩;have HB6:=hid hb6;have hs6:=hb6.size;obtain ⟨⟨q0,q1,q2,q3⟩,qf⟩:=cells4 ((hb6.block _ hs5).trans HQ5.out);clear hb6)
   clear y0 y1 y2 y3 yf
   go_wp2_with (go_at_call 9;refine (HVb.out _ HB6.out).mono ?_;rintro x w7 ⟨rfl,hb7⟩;have HB7:=hid (HB6.out.trans (hb7.mono hs6));clear hb7)
   exact bodyPost_ret (v:=.bool true) (by simp only [results,Tryz.results3];go_simp) rfl ⟨rfl,HB5.out.trans (HB7.out.mono HB5.out.size)⟩
end Go.Proofs.YtpjficjlfibibaaGreatDoor.syn
