/-
  Parts of the proof: Gath4, Gath5, Gath6, Chk3, Chk4, Chk5.
-/
import Derived.StillTailTactics
import Derived.Test.YtpjficjlfibibaaGreatDoorQ14
import Derived.Test.YtpjficjlfibibaaGreatDoorQ08
namespace Go.Proofs.YtpjficjlfibibaaGreatDoor.syn
open Go.RowKit
set_option linter.unusedVariables false
set_option linter.unusedSimpArgs false
theorem meet_any {W1 w:World} {gb mb nn:Nat} {stk:List SE} (h:GW W1 gb mb nn stk w) {b o:Nat} {e:PE} (he:ExpAt W1 b o e) (hn:nn ≤ 60000000000) (hso:stk.length ≤ 1000) (har:Ar2E e) :
  Calls Tryz.prog 198 #[.pointer (some ⟨gb,0,none⟩),.pointer (some ⟨b,o,none⟩)] w fun x w' => x = .returned (.tuple #[]) ∧ ((∃ m,(m ≤ nn + 1 ∨ (e.args.len ≠ 0 ∧ m ≤ 2 * nn)) ∧ GW W1 gb mb m stk w') ∨ GW W1 gb mb nn (stk ++ [⟨b,o,0,nn,e⟩]) w'):=by
 by_cases hk:e.k = 11
 ·exact (meet_par h he hk hn).mono fun x w' ⟨h1,h2⟩ => ⟨h1,.inl ⟨_,.inl (Nat.le_refl _),h2⟩⟩
 ·by_cases hl:e.args.len = 0
  ·exact (meet_nil h he hk (len0 hl)).mono fun x w' ⟨h1,h2⟩ => ⟨h1,.inl ⟨nn,.inl (Nat.le_succ _),h2 ▸ h⟩⟩
  ·refine (meet_more h he hk hl hn hso har).mono fun x w' ⟨h1,h2⟩ => ⟨h1,?_⟩
   rcases h2 with ⟨m,hm,h2⟩ | h2
   ·exact .inl ⟨m,.inr ⟨hl,hm⟩,h2⟩
   ·exact .inr h2
structure LastAt (w:World) (gb g co:Nat) (vn:Value) (mb:Nat) (stk0:List SE) (s:SE):Prop where
 gbk:w.heap[gb]? = some (gbObj vn (.slice (some ⟨g,0,none⟩) (stk0.length + 1) co) mb)
 c0:w.cell? ⟨g,stk0.length * 3,none⟩ = some (.pointer (some ⟨s.b,s.o,none⟩))
 c1:w.cell? ⟨g,stk0.length * 3 + 1,none⟩ = some (.int .i64 s.next)
 c2:w.cell? ⟨g,stk0.length * 3 + 2,none⟩ = some (.int .i64 s.fr)
 fz:w.frozen? ⟨g,stk0.length * 3 + 1,none⟩ = false
 cap:stk0.length + 1 ≤ co
theorem last_at {W1 w:World} {gb mb nn:Nat} {stk0:List SE} {s:SE} (h:GW W1 gb mb nn (stk0 ++ [s]) w):∃ vn g co xs,LastAt w gb g co vn mb stk0 s ∧ w.ownsRow W1.heap.size 95 6 vn nn xs ∧ NmR xs nn ∧ w.ownsRow W1.heap.size 314 3 (.slice (some ⟨g,0,none⟩) (stk0.length + 1) co) (stk0.length + 1) (ysOf stk0 ++ s.v):=by
 obtain ⟨vn,vo,xs,hg,hon,hnm,hoo⟩:=h.sta
 have hl:(stk0 ++ [s]).length = stk0.length + 1:=by simp
 rw [hl,ysOf_append] at hoo
 obtain ⟨g,co,rfl,_,_⟩:=hoo.form oq
 have hc:∀ j,j < 3 → w.cell? ⟨g,stk0.length * 3 + j,none⟩ = (SE.v s)[j]?:=by
  intro j hj
  rw [hoo.cellAt _ oq,List.getElem?_append_right (by rw [ysOf_len];omega),ysOf_len,Nat.add_sub_cancel_left]
  show (s.v ++ [])[j]? = _
  rw [List.append_nil]
 exact ⟨vn,g,co,xs,⟨hg,hc 0 oq,hc 1 oq,hc 2 oq,hoo.frozenAt _,own_cap hoo⟩,hon,hnm,by simpa [ysOf] using hoo⟩
theorem GW.next {W1 w:World} {gb mb nn g co:Nat} {stk0:List SE} {s:SE} {vn:Value} (h:GW W1 gb mb nn (stk0 ++ [s]) w) (hg:w.heap[gb]? = some (gbObj vn (.slice (some ⟨g,0,none⟩) (stk0.length + 1) co) mb)) (hlt:s.next + 1 ≤ s.e.args.len) :
  GW W1 gb mb nn (stk0 ++ [⟨s.b,s.o,s.next + 1,s.fr,s.e⟩]) (w.setCell ⟨g,stk0.length * 3 + 1,none⟩ (.int .i64 ((s.next:Int) + 1))):=by
 obtain ⟨⟨xs,hon,hnm⟩,hoo⟩:=own_at h hg
 have hl:(stk0 ++ [s]).length = stk0.length + 1:=by simp
 rw [hl,ysOf_append] at hoo
 have hgo:g ≠ gb:=fun e => own_other hoo hg (by decide) (by rw [← e];rfl)
 obtain ⟨arr,clock,hmm,_⟩:=id h.map
 have hgm:g ≠ mb:=fun e => ne_own hoo (b:=mb) (fun cur e2 => by rw [hmm] at e2;cases e2) (by rw [← e];rfl)
 have hgl:=(hoo.lt g rfl)
 have hlow:=h.low.size
 have hk:∀ k,k ≠ g → (w.setCell ⟨g,stk0.length * 3 + 1,none⟩ (.int .i64 ((s.next:Int) + 1))).heap[k]? = w.heap[k]?:=fun k hk => heap_setCell_other _ _ _ _ hk
 have hl2:(stk0 ++ [(⟨s.b,s.o,s.next + 1,s.fr,s.e⟩:SE)]).length = stk0.length + 1:=by simp
 refine ⟨⟨h.low.os,h.low.tape,h.low.output,by simpa [World.setCell] using hlow,fun k hk1 => (hk k oq).trans (h.low.block k hk1)⟩,h.hgb,h.hmb,⟨vn,.slice (some ⟨g,0,none⟩) (stk0.length + 1) co,xs,(hk gb (fun e => hgo e.symm)).trans hg,?_,hnm,?_⟩,h.map.keep (hk mb (fun e => hgm e.symm)) (fun _ h => h),fun x hx => ?_⟩
 ·refine ownsRow_to hon fun k hk1 => hk k fun e => ?_
  rcases hoo.2 with ⟨h1,_⟩ | ⟨g2,cap2,cur,h1,_,hgo2,_⟩
  ·cases h1
  ·injection h1 with h1 _ _;injection h1 with h1;injection h1 with h1
   rw [e] at hk1
   exact own_other hon (b:=g) (by rw [h1];exact hgo2) (by decide) hk1.symm
 ·rw [hl2,ysOf_append]
  have:=(hoo.stored (stk0.length * 3 + 1) (.int .i64 ((s.next:Int) + 1))).1
  rw [List.set_append_right _ _ (by rw [ysOf_len];omega),ysOf_len,Nat.add_sub_cancel_left] at this
  simpa [ysOf,SE.v] using this
 ·rcases List.mem_append.1 hx with hx | hx
  ·exact h.stk x (List.mem_append_left _ hx)
  ·rw [List.mem_singleton.1 hx]
   obtain ⟨h1,h2,h3,h4⟩:=h.stk s (by simp)
   exact ⟨h1,hlt,h3,h4⟩
set_option maxRecDepth 100000 in
set_option maxHeartbeats 1000000 in
theorem step_next {W1 w:World} {gb mb nn:Nat} {stk0:List SE} {s:SE} (h:GW W1 gb mb nn (stk0 ++ [s]) w) (hn:nn ≤ 60000000000) (hso:stk0.length ≤ 900) (hlt:s.next < s.e.args.len) :
  Calls Tryz.prog 199 #[.pointer (some ⟨gb,0,none⟩)] w fun x w' => x = .returned (.tuple #[]) ∧ ∃ e,s.e.args.at s.next = some e ∧ ((∃ m,(m ≤ nn + 1 ∨ (e.args.len ≠ 0 ∧ m ≤ 2 * nn)) ∧ GW W1 gb mb m (stk0 ++ [{ s with next:=s.next + 1 }]) w') ∨ ∃ b o,GW W1 gb mb nn (stk0 ++ [{ s with next:=s.next + 1 }] ++ [⟨b,o,0,nn,e⟩]) w'):=by
 obtain ⟨vn,g,co,xs,hla,hon,hnm,hoo⟩:=last_at h
 obtain ⟨hex,hnx,hfr,har⟩:=h.stk s (by simp)
 obtain ⟨e,hat,hsz⟩:=s.e.args.at_some s.next hlt
 have HLA:=hid hla
 obtain ⟨⟨g0,g1,g2⟩,gf⟩:=cells3g hla.gbk
 have hc0:=hla.c0
 have hc1:=hla.c1
 have hcf:=hla.fz
 obtain ⟨ad,cap,c4,hargs⟩:=hex.c4
 have hlen:=hex.len
 obtain ⟨b',o',rfl,hb',hac,hnf⟩:∃ b' o',ad = some ⟨b',o',none⟩ ∧ b' < W1.heap.size ∧ AC W1 s.e.args b' o' ∧ NF W1 s.e.args b' o':=by
  rcases hargs with h0 | h0
  ·rw [h0] at hlt;exact absurd hlt (Nat.not_lt_zero _)
  ·exact h0
 have HCH:=hid (ExpAt.child s.e.args hb' hac hnf s.next e hat)
 have HAR:=hid (Ar2.at s.e.args s.next e har.2 hat)
 have d4:=(h.low.cell (p:=⟨s.b,s.o + 4,none⟩) hex.lt).trans c4
 have HGW:=hid h
 have HAT:=hid hat
 have HEX:=hid (And.intro hex.lt c4)
 obtain ⟨m,hmm⟩:∃ m,stk0.length = m:=⟨_,rfl⟩
 rw [hmm] at hc0 hc1 hcf g1 hso
 obtain ⟨sb,so,snx,sfr,se⟩:=s
 simp only at *
 have hw0:IntKind.i64.wrap (m:Int) = (m:Int):=IntWalk.i64_in _ oq
 have hw4:IntKind.i64.wrap (snx:Int) = (snx:Int):=IntWalk.i64_in _ oq
 have hw1:IntKind.i64.wrap ((m:Int) + 1 - 1) = (m:Int):=by rw [show (m:Int) + 1 - 1 = m by omega];exact IntWalk.i64_in _ oq
 have hm0:(0:Int) ≤ (m:Int):=by omega
 have hm1:(m:Int) < (m:Int) + 1:=by omega
 have hxl:(snx:Int) < (se.args.len:Int):=by omega
 have hw2:IntKind.i64.wrap ((snx:Int) + 1) = (snx:Int) + 1:=IntWalk.i64_in _ oq
 have hw3:IntKind.i64.wrap ((snx:Int) + 1 - 1) = (snx:Int):=by rw [show (snx:Int) + 1 - 1 = snx by omega];exact IntWalk.i64_in _ oq
 have hx0:(0:Int) ≤ (snx:Int):=by omega
 clear hla hon hnm hoo hex hargs hac hnf hat hsz h c4 har
 go_enter Tryz.func199,Tryz.ntmps199
 go_wp2
 go_still_tail 11,(by kernel_rfl)
 change wpList _ _ _ _ _ (w).drew;have hhwa:(w).drew.heap = (w).heap:=rfl;have hbwa:Below (w).heap.size (w) (w).drew:=(Below.refl _ _).drew;have Hwa:=hid (And.intro hhwa hbwa);clear hhwa hbwa;change (w).drew.cell? _ = _ at g1 hc0 hc1 d4;change (w).drew.frozen? _ = _ at hcf;generalize (w).drew = wa at *
 go_wp2
 go_still_tail 12,(by kernel_rfl)
 change wpList _ _ _ _ _ (wa).drew;have hhwb:(wa).drew.heap = (wa).heap:=rfl;have hbwb:Below (wa).heap.size (wa) (wa).drew:=(Below.refl _ _).drew;have Hwb:=hid (And.intro hhwb hbwb);clear hhwb hbwb;change (wa).drew.cell? _ = _ at g1 hc0 hc1 d4;change (wa).drew.frozen? _ = _ at hcf;generalize (wa).drew = wb at *
 go_wp2
 have hgw5:GW W1 gb mb nn (stk0 ++ [⟨sb,so,snx + 1,sfr,se⟩]) (wb.setCell ⟨g,m * 3 + 1,none⟩ (.int .i64 ((snx:Int) + 1))):=by
  have hb:Below w.heap.size w wb:=Hwa.out.2.trans (Hwb.out.2.mono (by rw [Hwa.out.1];exact Nat.le_refl _))
  have hhb:wb.heap = w.heap:=Hwb.out.1.trans Hwa.out.1
  have:=GW.next (HGW.out.same hb) (stk0:=stk0) (s:=⟨sb,so,snx,sfr,se⟩) (by rw [hhb];exact HLA.out.gbk) (by show snx + 1 ≤ se.args.len;omega)
  rw [hmm] at this
  exact this
 have e0:(wb.setCell ⟨g,m * 3 + 1,none⟩ (.int .i64 ((snx:Int) + 1))).cell? ⟨g,m * 3,none⟩ = some (.pointer (some ⟨sb,so,none⟩)):=by go_simp
 have e1:(wb.setCell ⟨g,m * 3 + 1,none⟩ (.int .i64 ((snx:Int) + 1))).cell? ⟨g,m * 3 + 1,none⟩ = some (.int .i64 ((snx:Int) + 1)):=by go_simp
 have e4:(wb.setCell ⟨g,m * 3 + 1,none⟩ (.int .i64 ((snx:Int) + 1))).cell? ⟨sb,so + 4,none⟩ = some (.slice (some ⟨b',o',none⟩) se.args.len cap):=(hgw5.low.cell (p:=⟨sb,so + 4,none⟩) HEX.out.1).trans HEX.out.2
 have ef:=gf
 clear hc0 hc1 d4 hcf g1
 generalize wb.setCell ⟨g,m * 3 + 1,none⟩ (.int .i64 ((snx:Int) + 1)) = w5 at *
 have HG5:=hid hgw5
 have ef:w5.frozen? ⟨gb,0,none⟩ = false:=by
  obtain ⟨_,_,_,hg,_⟩:=hgw5.sta
  exact (cells3g hg).2 0
 clear hgw5
 go_still_tail 14,(by kernel_rfl)
 change wpList _ _ _ _ _ (w5).drew;have hhwc:(w5).drew.heap = (w5).heap:=rfl;have hbwc:Below (w5).heap.size (w5) (w5).drew:=(Below.refl _ _).drew;have Hwc:=hid (And.intro hhwc hbwc);clear hhwc hbwc;change (w5).drew.cell? _ = _ at e0 e1 e4;change (w5).drew.frozen? _ = _ at ef;generalize (w5).drew = wc at *
 have HMT:=hid (meet_any (HG5.out.same Hwc.out.2) HCH.out hn (by simp;omega) HAR.out)
 go_wp2_with (go_at_call 198;refine HMT.out.mono ?_;rintro x w6 ⟨rfl,h6⟩;have H6:=hid h6;clear h6)
 refine bodyPost_ret (v:=.tuple #[]) ?_ rfl ?_
 ·simp [results,Tryz.results199]
 ·refine ⟨rfl,e,HAT.out,?_⟩
  rcases H6.out with h6 | h6
  ·exact .inl h6
  ·exact .inr ⟨_,_,h6⟩
theorem GW.pop {W1 w:World} {gb mb nn g co:Nat} {stk0:List SE} {s:SE} {vn:Value} (h:GW W1 gb mb nn (stk0 ++ [s]) w) (hg:w.heap[gb]? = some (gbObj vn (.slice (some ⟨g,0,none⟩) (stk0.length + 1) co) mb)) :
  GW W1 gb mb nn stk0 (w.setCell ⟨gb,1,none⟩ (.slice (some ⟨g,0,none⟩) stk0.length co)):=by
 obtain ⟨⟨xs,hon,hnm⟩,hoo⟩:=own_at h hg
 have hl:(stk0 ++ [s]).length = stk0.length + 1:=by simp
 rw [hl,ysOf_append] at hoo
 obtain ⟨arr,clock,hmm,_⟩:=id h.map
 have hgm:mb ≠ gb:=fun e => by rw [← e,hmm] at hg;cases hg
 have hgl:=lt_of_block hg
 have hlow:=h.low.size
 have hgb:=h.hgb
 have hk:∀ k,k ≠ gb → (w.setCell ⟨gb,1,none⟩ (.slice (some ⟨g,0,none⟩) stk0.length co)).heap[k]? = w.heap[k]?:=fun k hk => heap_setCell_other _ _ _ _ hk
 refine ⟨⟨h.low.os,h.low.tape,h.low.output,by simpa [World.setCell] using hlow,fun k hk1 => (hk k oq).trans (h.low.block k hk1)⟩,h.hgb,h.hmb,⟨vn,_,xs,gb_set1 hg _,?_,hnm,?_⟩,h.map.keep (hk mb hgm) (fun _ h => h),fun x hx => h.stk x (List.mem_append_left _ hx)⟩
 ·exact ownsRow_to hon fun k hk1 => hk k fun e => own_other hon hg (by decide) (by rw [← e];exact hk1.symm)
 ·have h1:w.ownsRow W1.heap.size 314 3 (.slice (some ⟨g,0,none⟩) stk0.length co) stk0.length (ysOf stk0):=by
   refine ⟨ysOf_len _,?_⟩
   rcases hoo.2 with ⟨h1,_⟩ | ⟨g2,cap2,cur,h1,h2,h3,h4,h5,h6,h7⟩
   ·cases h1
   ·injection h1 with h1 h1b h1c;injection h1 with h1;injection h1 with h1
    subst h1;subst h1c
    refine .inr ⟨g,co,cur,rfl,h2,h3,by omega,h5,h6,?_⟩
    have:=congrArg (List.take (stk0.length * 3)) h7
    rw [List.take_take,Nat.min_eq_left oq] at this
    rw [this,List.take_append_of_le_length (by rw [ysOf_len];exact Nat.le_refl _),List.take_of_length_le (by rw [ysOf_len];exact Nat.le_refl _)]
  exact ownsRow_to h1 fun k hk1 => hk k fun e => own_other h1 hg (by decide) (by rw [← e];exact hk1.symm)
theorem gw_map {W1 w w3:World} {gb mb nn:Nat} {stk:List SE} {vn vo:Value} (h:GW W1 gb mb nn stk w) (hg:w.heap[gb]? = some (gbObj vn vo mb)) (hu:Upon mb w w3) (hm:MapP w3 mb (KeyG W1) (PcV nn)):GW W1 gb mb nn stk w3 ∧ w3.heap[gb]? = some (gbObj vn vo mb):=by
 obtain ⟨arr,clock,hmm,_⟩:=id h.map
 have hk:∀ k,k < w.heap.size → k ≠ mb → w3.heap[k]? = w.heap[k]?:=fun k hk hne => hu.block k hk hne
 have hlow:=h.low.size
 have hg3:w3.heap[gb]? = some (gbObj vn vo mb):=(hk gb (lt_of_block hg) (fun e => by rw [e,hmm] at hg;cases hg)).trans hg
 obtain ⟨⟨xs,hon,hnm⟩,hoo⟩:=own_at h hg
 have ho:∀ {e:TypeId} {size n:Nat} {v:Value} {xs:List Value},w.ownsRow W1.heap.size e size v n xs → w3.ownsRow W1.heap.size e size v n xs:=fun h => ownsRow_to h fun k hk2 => hk k (h.lt k hk2).2 (fun e => ne_own h (b:=mb) (fun cur e2 => by rw [hmm] at e2;cases e2) (by rw [← e];exact hk2))
 exact ⟨⟨⟨hu.os.trans h.low.os,hu.tape.trans h.low.tape,hu.output.trans h.low.output,Nat.le_trans hlow hu.size,fun k hk1 => (hk k oq (by have:=h.hmb;omega)).trans (h.low.block k hk1)⟩,h.hgb,h.hmb,⟨vn,vo,xs,hg3,ho hon,hnm,ho hoo⟩,hm,h.stk⟩,hg3⟩
set_option maxRecDepth 100000 in
set_option maxHeartbeats 1000000 in
theorem step_close {W1 w:World} {gb mb nn:Nat} {stk0:List SE} {s:SE} (h:GW W1 gb mb nn (stk0 ++ [s]) w) (hn:nn ≤ 60000000000) (hso:stk0.length ≤ 900) (heq:s.next = s.e.args.len) :
  Calls Tryz.prog 199 #[.pointer (some ⟨gb,0,none⟩)] w fun x w' => x = .returned (.tuple #[]) ∧ GW W1 gb mb nn stk0 w':=by
 obtain ⟨vn,g,co,xs,hla,hon,hnm,hoo⟩:=last_at h
 obtain ⟨hex,hnx,hfr,har⟩:=h.stk s (by simp)
 have HLA:=hid hla
 obtain ⟨ln,cn,hvn⟩:∃ ad cn,vn = .slice ad nn cn:=own_form hon
 subst hvn
 obtain ⟨⟨g0,g1,g2⟩,gf⟩:=cells3g hla.gbk
 have hc0:=hla.c0
 have hc1:=hla.c1
 have hc2:=hla.c2
 have hcap:=hla.cap
 obtain ⟨ad,cap,c4,hargs⟩:=hex.c4
 have hlen:=hex.len
 have d4:=(h.low.cell (p:=⟨s.b,s.o + 4,none⟩) hex.lt).trans c4
 have HGW:=hid h
 have HEX:=hid hex
 obtain ⟨m,hmm⟩:∃ m,stk0.length = m:=⟨_,rfl⟩
 rw [hmm] at hc0 hc1 hc2 g1 hso hcap
 obtain ⟨sb,so,snx,sfr,se⟩:=s
 simp only at *
 subst heq
 have hgf:=gf 1
 have hw0:IntKind.i64.wrap (m:Int) = (m:Int):=IntWalk.i64_in _ oq
 have hm0:(0:Int) ≤ (m:Int):=by omega
 have hm1:(m:Int) < (m:Int) + 1:=by omega
 have hm2:(m:Int) ≤ (co:Int):=by omega
 clear hla hon hnm hoo hex hargs h c4 har gf
 go_enter Tryz.func199,Tryz.ntmps199
 go_wp2
 go_still_tail 11,(by kernel_rfl)
 change wpList _ _ _ _ _ (w).drew;have hhwa:(w).drew.heap = (w).heap:=rfl;have hbwa:Below (w).heap.size (w) (w).drew:=(Below.refl _ _).drew;have Hwa:=hid (And.intro hhwa hbwa);clear hhwa hbwa;change (w).drew.cell? _ = _ at g0 g1 g2 hc0 hc1 hc2 d4;change (w).drew.frozen? _ = _ at hgf;generalize (w).drew = wa at *
 go_wp2
 go_still_tail 12,(by kernel_rfl)
 change wpList _ _ _ _ _ (wa).drew;have hhwb:(wa).drew.heap = (wa).heap:=rfl;have hbwb:Below (wa).heap.size (wa) (wa).drew:=(Below.refl _ _).drew;have Hwb:=hid (And.intro hhwb hbwb);clear hhwb hbwb;change (wa).drew.cell? _ = _ at g0 g1 g2 hc0 hc1 hc2 d4;change (wa).drew.frozen? _ = _ at hgf;generalize (wa).drew = wb at *
 go_wp2
 go_still_tail 18,(by kernel_rfl)
 change wpList _ _ _ _ _ (wb).drew;have hhwc:(wb).drew.heap = (wb).heap:=rfl;have hbwc:Below (wb).heap.size (wb) (wb).drew:=(Below.refl _ _).drew;have Hwc:=hid (And.intro hhwc hbwc);clear hhwc hbwc;change (wb).drew.cell? _ = _ at g0 g1 g2 hc0 hc1 hc2 d4;change (wb).drew.frozen? _ = _ at hgf;generalize (wb).drew = wc at *
 have hbc:Below w.heap.size w wc ∧ wc.heap = w.heap:=by
  have h1:=Hwa.out
  have h2:=Hwb.out
  have h3:=Hwc.out
  exact ⟨h1.2.trans ((h2.2.trans (h3.2.mono (by rw [h2.1];exact Nat.le_refl _))).mono (by rw [h1.1];exact Nat.le_refl _)),h3.1.trans (h2.1.trans h1.1)⟩
 have HGC:=hid (HGW.out.same hbc.1)
 have HBC:=hid hbc
 clear hbc Hwa Hwb Hwc hc0 hc1 hc2 d4 g0 g1 g2 hgf
 have g0:wc.cell? ⟨gb,0,none⟩ = some (.slice ln nn cn):=by have:=(cells3g HLA.out.gbk).1.1;simpa [World.cell?,HBC.out.2] using this
 go_wp2_with (at_mapUpdate;refine wpList_putP piecesMap _ rfl _ _ _ rfl mb (KeyG W1) (PcV nn) _ (.agg #[.int .i64 (sfr:Int),.int .i64 (nn:Int)]) rfl rfl rfl HGC.out.map (fun v hv => KeyG.ptr HGC.out.low v hv) ⟨sb,so,_,rfl,HEX.out⟩ ⟨sfr,nn,rfl,hfr,Nat.le_refl _⟩ ?_;intro w3 hu3 hs3 hm3;have HU3:=hid hu3;have HM3:=hid hm3;clear hu3 hm3)
 have hgc:wc.heap[gb]? = some (gbObj (.slice ln nn cn) (.slice (some ⟨g,0,none⟩) (stk0.length + 1) co) mb):=by rw [HBC.out.2];exact HLA.out.gbk
 obtain ⟨hgw3,hg3⟩:=gw_map HGC.out hgc HU3.out HM3.out
 have HG3:=hid hg3
 have HGW3:=hid hgw3
 obtain ⟨⟨q0,q1,q2⟩,qf⟩:=cells3g hg3
 have qf1:=qf 1
 rw [hmm] at q1
 clear hgc hgw3 hg3 g0 qf HGC HBC HU3 HM3 HGW
 go_still_tail 12,(by kernel_rfl)
 change wpList _ _ _ _ _ (w3).drew;have hhwd:(w3).drew.heap = (w3).heap:=rfl;have hbwd:Below (w3).heap.size (w3) (w3).drew:=(Below.refl _ _).drew;have Hwd:=hid (And.intro hhwd hbwd);clear hhwd hbwd;change (w3).drew.cell? _ = _ at q0 q1 q2;change (w3).drew.frozen? _ = _ at qf1;generalize (w3).drew = wd at *
 go_wp2
 refine bodyPost_end (v:=.tuple #[]) ?_ rfl ?_
 ·simp [results,Tryz.results199]
 ·have hgd:wd.heap[gb]? = some (gbObj (.slice ln nn cn) (.slice (some ⟨g,0,none⟩) (stk0.length + 1) co) mb):=by rw [Hwd.out.1];exact HG3.out
  have:=GW.pop (HGW3.out.same Hwd.out.2) hgd
  rw [hmm] at this
  exact ⟨rfl,this⟩
structure GS (W1:World) (gb mb N:Nat) (stk:List SE) (w:World):Prop where
 ex:∃ nn p,GW W1 gb mb nn stk w ∧ nn ≤ T3 p ∧ p + remS stk ≤ N ∧ stk.length ≤ p
theorem T3_three (p:Nat):T3 (p + 3) = 2 * T3 p:=rfl
theorem GS.one {W1 w:World} {gb mb N nn p m:Nat} {stk:List SE} {e:PE} (h:GW W1 gb mb m stk w) (hn:nn ≤ T3 p) (hm:m ≤ nn + 1 ∨ (e.args.len ≠ 0 ∧ m ≤ 2 * nn)) (har:Ar2E e) (hp:p + e.sz + remS stk ≤ N) (hs:stk.length ≤ p):GS W1 gb mb N stk w:=by
 refine ⟨m,p + e.sz,h,?_,by omega,by omega⟩
 rcases hm with hm | ⟨h0,hm⟩
 ·have h1:=T3_succ p
  have h2:T3 (p + 1) ≤ T3 (p + e.sz):=T3_mono (by unfold PE.sz;omega)
  omega
 ·have h1:=T3_three p
  have h2:T3 (p + 3) ≤ T3 (p + e.sz):=T3_mono (by have:=har.three h0;omega)
  omega
def NmAns (w:World) (x:Ending) (w':World):Prop:=(∃ ln nn cn xs,x = .returned (.slice ln nn cn) ∧ w'.ownsRow w.heap.size 95 6 (.slice ln nn cn) nn xs ∧ NmR xs nn ∧ nn ≤ 60000000000) ∧ Below w.heap.size w w'
def measS (stk:List SE):Nat:=2 * remS stk + stk.length
theorem least {P:Nat → Prop} (h:∃ n,P n):∃ n,P n ∧ ∀ m,P m → n ≤ m:=by
 obtain ⟨n,hn⟩:=h
 induction n using Nat.strongRecOn with
 | _ n ih =>
  by_cases hx:∃ m,m < n ∧ P m
  ·obtain ⟨m,h1,h2⟩:=hx
   exact ih m h1 h2
  ·exact ⟨n,hn,fun m hm => Nat.le_of_not_lt fun hlt => hx ⟨m,hlt,hm⟩⟩
def HasM (W1:World) (gb mb N:Nat) (w:World) (n:Nat):Prop:=∃ stk,GS W1 gb mb N stk w ∧ measS stk = n
noncomputable def muG (W1:World) (gb mb N:Nat) (w:World):Nat:=@Classical.epsilon Nat ⟨0⟩ (fun n => HasM W1 gb mb N w n ∧ ∀ m,HasM W1 gb mb N w m → n ≤ m)
theorem muG_spec {W1:World} {gb mb N:Nat} {w:World} (h:∃ stk,GS W1 gb mb N stk w):HasM W1 gb mb N w (muG W1 gb mb N w) ∧ ∀ m,HasM W1 gb mb N w m → muG W1 gb mb N w ≤ m :=
 Classical.epsilon_spec (least (by obtain ⟨stk,h⟩:=h;exact ⟨_,stk,h,rfl⟩))
theorem GS.child {W1 w:World} {gb mb N nn p:Nat} {stk0:List SE} {s:SE} {e:PE} (hn:nn ≤ T3 p) (hp:p + remS (stk0 ++ [s]) ≤ N) (hs:(stk0 ++ [s]).length ≤ p) (har:Ar2E e) (hat:s.e.args.at s.next = some e) (hlt:s.next < s.e.args.len)
  (hw:(∃ m,(m ≤ nn + 1 ∨ (e.args.len ≠ 0 ∧ m ≤ 2 * nn)) ∧ GW W1 gb mb m (stk0 ++ [{ s with next:=s.next + 1 }]) w) ∨ ∃ b o,GW W1 gb mb nn (stk0 ++ [{ s with next:=s.next + 1 }] ++ [⟨b,o,0,nn,e⟩]) w) :
  ∃ stk,GS W1 gb mb N stk w ∧ measS stk < measS (stk0 ++ [s]):=by
 obtain ⟨e2,h1,h2⟩:=s.e.args.at_some s.next hlt
 obtain rfl:e2 = e:=Option.some.inj (h1.symm.trans hat)
 have hr:remS (stk0 ++ [s]) = remS stk0 + s.e.args.szFrom s.next:=by rw [remS_append];simp [remS]
 have hr2:remS (stk0 ++ [{ s with next:=s.next + 1 }]) = remS stk0 + s.e.args.szFrom (s.next + 1):=by rw [remS_append];simp [remS]
 have hl:(stk0 ++ [s]).length = stk0.length + 1:=by simp
 have hl2:(stk0 ++ [{ s with next:=s.next + 1 }]).length = stk0.length + 1:=by simp
 have hz:e2.sz = e2.args.sz + 1:=rfl
 rcases hw with ⟨m,hm,hw⟩ | ⟨b,o,hw⟩
 ·refine ⟨_,GS.one hw hn hm har oq oq,?_⟩
  unfold measS
  omega
 ·have hr3:remS (stk0 ++ [{ s with next:=s.next + 1 }] ++ [⟨b,o,0,nn,e2⟩]) = remS stk0 + s.e.args.szFrom (s.next + 1) + e2.args.sz:=by rw [remS_append,hr2];simp [remS,PL.szFrom0]
  have hl3:(stk0 ++ [{ s with next:=s.next + 1 }] ++ [(⟨b,o,0,nn,e2⟩:SE)]).length = stk0.length + 2:=by simp
  refine ⟨_,⟨nn,p + 1,hw,Nat.le_trans hn (T3_mono (Nat.le_succ _)),by omega,by omega⟩,?_⟩
  unfold measS
  omega
set_option maxRecDepth 100000 in
set_option maxHeartbeats 1000000 in
theorem bodyNames_any {w:World} {e:PE} {ad:Option Addr} {cap:Nat} (h:AE w e ad cap) (hnf:∀ b o,ad = some ⟨b,o,none⟩ → NF w e.args b o) (har:Ar2E e) (hsz:e.sz ≤ 100) :
  Calls Tryz.prog 189 #[ev e ad cap] w (NmAns w):=by
 obtain ⟨W1,hW1⟩:∃ W1,W1 = w.alloc (.cells #[.int .i64 e.k,.string e.nm,.int .i64 e.n,.int .i64 e.d,.slice ad e.args.len cap,.int .i64 e.a] 95):=⟨_,rfl⟩
 have hb1:Below w.heap.size w W1:=by rw [hW1];exact (Below.refl _ _).alloc (Nat.le_refl _) _
 have hs1:W1.heap.size = w.heap.size + 1:=by rw [hW1];simp
 have hex:ExpAt W1 w.heap.size 0 e:=by
  have hn:=heap_new w (.cells #[.int .i64 e.k,.string e.nm,.int .i64 e.n,.int .i64 e.d,.slice ad e.args.len cap,.int .i64 e.a] 95)
  rw [← hW1] at hn
  obtain ⟨⟨c0,c1,c2,c3,c4,c5⟩,cf⟩:=cells6' hn
  refine ⟨by omega,cf 0,c0,c1,c2,c3,c5,⟨ad,cap,c4,?_⟩,Nat.le_trans h.len.1 h.len.2⟩
  rcases h.args with h0 | ⟨b,o,rfl,hlt,hac⟩
  ·exact .inl h0
  ·exact .inr ⟨b,o,rfl,by omega,hac.below hb1 _ _ _ hlt,(hnf b o rfl).below hb1 _ _ _ hlt hac⟩
 have hgw:GW W1 (w.heap.size + 1 + 1) (w.heap.size + 1) 0 [] ((W1.alloc (.map #[] 0)).alloc (Obj.cells #[.slice none 0 0,.slice none 0 0,.map (some (w.heap.size + 1))] 300)):=by
  have hm:=MapP.new W1 (KeyG W1) (PcV 0)
  have hs2:(W1.alloc (.map #[] 0)).heap.size = w.heap.size + 1 + 1:=by simp [hs1]
  refine ⟨((Below.refl _ _).alloc (Nat.le_refl _) _).alloc (by simp) _,by omega,by omega,⟨.slice none 0 0,.slice none 0 0,[],?_,World.ownsRow_nil _ _ _ _,NmR.nil,World.ownsRow_nil _ _ _ _⟩,?_,fun s hs => (by cases hs)⟩
  ·have:=heap_new (W1.alloc (.map #[] 0)) (Obj.cells #[.slice none 0 0,.slice none 0 0,.map (some (w.heap.size + 1))] 300)
   rw [hs2] at this
   exact this
  ·rw [hs1] at hm
   exact hm.keep (Below.heap_alloc _ _ _ (by rw [hs2];omega)) (fun _ h => h)
 have HMT:=hid (meet_any hgw hex oq (by simp) har)
 have HB1:=hid hb1
 have HS:=hid hsz
 rw [hW1] at HMT
 obtain ⟨k,nm,n,d,args,a⟩:=e
 unfold ev
 simp only at hW1 HMT ⊢
 have HW1:=hid hW1
 have hmk:=fun w => run_makeMap (P:=Tryz.prog) 297 w
 clear h hnf hex hgw hb1 hW1 hsz
 have HAR:=hid har
 clear har
 go_enter Tryz.func189,Tryz.ntmps189
 go_wp2_with (go_at_call 198;refine HMT.out.mono ?_;rintro x w4 ⟨rfl,h4⟩;have H4:=hid h4;clear h4)
 clear HMT
 have hgs:∃ stk,GS W1 (w.heap.size + 1 + 1) (w.heap.size + 1) 100 stk w4:=by
  have h4:=H4.out
  rw [← HW1.out] at h4
  have hz:(⟨k,nm,n,d,args,a⟩:PE).sz = args.sz + 1:=rfl
  have hsz:=HS.out
  rcases h4 with ⟨m,hm,h4⟩ | h4
  ·exact ⟨[],GS.one (nn:=0) (p:=0) h4 (Nat.zero_le _) hm HAR.out (by simp [remS];omega) (by simp)⟩
  ·exact ⟨_,⟨0,1,h4,Nat.zero_le _,by simp [remS,PL.szFrom0];omega,by simp⟩⟩
 have HGS:=hid hgs
 clear hgs H4 HW1 HAR HS hmk
 go_loopw [] (fun wr => Hid (∃ stk,GS W1 (w.heap.size + 1 + 1) (w.heap.size + 1) 100 stk wr)) (fun wr => muG W1 (w.heap.size + 1 + 1) (w.heap.size + 1) 100 wr)
 case atStart => exact HGS.out
 case round =>
  have hgs:=hrel.out
  clear hrel
  obtain ⟨⟨stk,hgs,hms⟩,hmin⟩:=muG_spec hgs
  obtain ⟨nn,p,hgw,hnn,hp,hsl⟩:=hgs.ex
  have htop:nn ≤ 60000000000:=Nat.le_trans hnn (T3_top oq)
  obtain ⟨vn,vo,xs,hg,hon,hnm,hoo⟩:=hgw.sta
  obtain ⟨ln,cn,rfl⟩:=own_form hon
  obtain ⟨lo,co,rfl⟩:=own_form hoo
  obtain ⟨⟨g0,g1,g2⟩,gf⟩:=cells3g hg
  have HON:=hid hon
  have HNM:=hid hnm
  have HGW:=hid hgw
  have HMS:=hid hms
  clear hon hnm hgw hg hms hmin hgs hoo
  rcases List.eq_nil_or_concat stk with rfl | ⟨stk0,s,hst⟩
  ·simp only [List.length_nil] at g1
   go_wp2
   go_ret
   refine ⟨⟨ln,nn,cn,xs,rfl,HON.out.mono oq,HNM.out,htop⟩,HB1.out.trans (HGW.out.low.mono oq)⟩
  ·rw [List.concat_eq_append] at hst
   subst hst
   have hlen:(stk0 ++ [s]).length = stk0.length + 1:=by simp
   rw [hlen] at g1 hsl
   have hpos:(0:Int) < (stk0.length:Int) + 1:=by omega
   obtain ⟨hex,hnx,hfr,har⟩:=HGW.out.stk s (by simp)
   have hst0:stk0.length ≤ 900:=by omega
   by_cases hlt:s.next < s.e.args.len
   ·have HST:=hid (step_next HGW.out htop hst0 hlt)
    have HFIN:=hid (fun (w':World) (e:PE) (hat:s.e.args.at s.next = some e) (hw) => GS.child (W1:=W1) (gb:=w.heap.size + 1 + 1) (mb:=w.heap.size + 1) (N:=100) (w:=w') hnn hp (by rw [hlen];exact hsl) (Ar2.at _ _ _ har.2 hat) hat hlt hw)
    clear hex har hnn hp
    go_wp2_with (go_at_call 199;refine HST.out.mono ?_;rintro x w5 ⟨rfl,e,hat,h5⟩;have H5:=hid (HFIN.out w5 e hat h5);clear h5 hat)
    obtain ⟨stk',hg5,hm5⟩:=H5.out
    refine ⟨⟨stk',hg5⟩,?_⟩
    have h6:=(muG_spec ⟨stk',hg5⟩).2 _ ⟨stk',hg5,rfl⟩
    have h7:=HMS.out
    omega
   ·have HST:=hid (step_close HGW.out htop hst0 oq)
    have hr:remS (stk0 ++ [s]) = remS stk0 + s.e.args.szFrom s.next:=by rw [remS_append];simp [remS]
    have HFIN:=hid (fun (w':World) (hw:GW W1 (w.heap.size + 1 + 1) (w.heap.size + 1) nn stk0 w') => (⟨nn,p,hw,hnn,by omega,by omega⟩:∃ nn p,GW W1 (w.heap.size + 1 + 1) (w.heap.size + 1) nn stk0 w' ∧ nn ≤ T3 p ∧ p + remS stk0 ≤ 100 ∧ stk0.length ≤ p))
    have HR:=hid hr
    clear hex har hnn hp hr
    go_wp2_with (go_at_call 199;refine HST.out.mono ?_;rintro x w5 ⟨rfl,h5⟩;have H5:=hid (HFIN.out w5 h5);clear h5)
    refine ⟨⟨stk0,⟨H5.out⟩⟩,?_⟩
    have h6:=(muG_spec (W1:=W1) (gb:=w.heap.size + 1 + 1) (mb:=w.heap.size + 1) (N:=100) (w:=w5) ⟨stk0,⟨H5.out⟩⟩).2 _ ⟨stk0,⟨H5.out⟩,rfl⟩
    have h7:=HMS.out
    have h8:=HR.out
    unfold measS at h6 h7
    simp only [hlen] at h7
    omega
def OkPair:Ending:=.returned (.tuple #[.int .i64 0,.int .i64 0])
theorem eq_clock (p q p' q':Int) (w:World):(Op.equal 49 (.agg #[.int .i64 p,.int .i64 q]) (.agg #[.int .i64 p',.int .i64 q'])).run Tryz.prog w = .ok (decide (p = p' ∧ q = q')) w:=by
 have hu:Tryz.prog.underlying 49 = some (.struct (Tryz.prog.fieldsOf 49)):=by kernel_rfl
 have hs:Tryz.prog.stoodInHeld 49 = false:=by kernel_rfl
 have hf : (Tryz.prog.fieldsOf 49).toList.map (fun f => (f.name, f.type, f.offset)) = [("Period", 2, 0), ("Phase", 2, 1)] := by kernel_rfl
 obtain ⟨f1, f2, hl, n1, t1, o1, n2, t2, o2⟩ : ∃ f1 f2, (Tryz.prog.fieldsOf 49).toList = [f1, f2] ∧ f1.name = "Period" ∧ f1.type = 2 ∧ f1.offset = 0 ∧ f2.name = "Phase" ∧ f2.type = 2 ∧ f2.offset = 1 := by
  generalize (Tryz.prog.fieldsOf 49).toList = l at hf
  cases l with
  | nil => simp at hf
  | cons f1 l =>
   cases l with
   | nil => simp at hf
   | cons f2 l =>
    cases l with
    | nil => simp at hf;exact ⟨f1,f2,rfl,hf.1.1,hf.1.2.1,hf.1.2.2,hf.2.1,hf.2.2.1,hf.2.2.2⟩
    | cons f3 l => simp at hf
 unfold Op.equal
 rw [show Op.maxDepth = 9998 + 1 + 1 from rfl,run_equalIn_agg w (9998 + 1) 49 _ _ hu hs,hl]
 have hi:(isAgg 2).run Tryz.prog w = .ok false w:=by kernel_rfl
 have hp:(Op.equalIn (9998 + 1) 2 (.int .i64 p) (.int .i64 p')).run Tryz.prog w = .ok (p == p') w:=run_equalIn_int w 9998 2 .i64 .i64 _ _ Tryz.underlying2
 have hn:(Op.equalIn (9998 + 1) 2 (.int .i64 q) (.int .i64 q')).run Tryz.prog w = .ok (q == q') w:=run_equalIn_int w 9998 2 .i64 .i64 _ _ Tryz.underlying2
 simp only [Op.eqFields,n1,t1,o1,n2,t2,o2]
 simp [part,hi,hp,hn]
 by_cases h1:p = p' <;> by_cases h2:q = q' <;> simp [h1,h2]
def ckL (env:Env) (c:Int × Int):PL → Bool
 | .nil => true
 | .cons k nm n d args a tl => match tell1 env k nm n d a (tellL env args) with
  | .bad _ _ => false
  | .unk => decide ((0,0) = c) && ckL env c tl
  | .ok p f => decide ((p,f) = c) && ckL env c tl
def ckA (env:Env):PL → Bool
 | .nil => true
 | .cons k nm n d args a tl => match tell1 env k nm n d a (tellL env args) with
  | .bad _ _ => false
  | .unk => ckL env (0,0) tl
  | .ok p f => ckL env (p,f) tl
theorem cells2c {w:World} {b:Nat} {v0 v1:Value} {t:TypeId} (h:w.heap[b]? = some (.cells #[v0,v1] t (0,0))) :
  (w.cell? ⟨b,0,none⟩ = some v0 ∧ w.cell? ⟨b,1,none⟩ = some v1) ∧ ∀ o,w.frozen? ⟨b,o,none⟩ = false:=by
 refine ⟨⟨?_,?_⟩,?_⟩
 all_goals first | (intro o;simp [World.frozen?,h]) | simp [World.cell?,h]
theorem set_at2 {w:World} {r:Nat} {a b:Value} {t:TypeId} (h:w.heap[r]? = some (.cells #[a,b] t (0,0))) (o:Nat) (u:Value) :
  (w.setCell ⟨r,o,none⟩ u).heap[r]? = some (.cells (#[a,b].setIfInBounds o u) t (0,0)):=by
 have hlt:=lt_of_block h
 have h':w.heap[r] = .cells #[a,b] t (0,0):=by simpa [Array.getElem?_eq_getElem hlt] using h
 show (w.heap.modify r _)[r]? = _
 rw [Array.getElem?_eq_getElem (by simpa using hlt),Array.getElem_modify_self,h']
 rfl
theorem set2 {w:World} {r:Nat} {a b a' b':Value} {t:TypeId} (h:w.heap[r]? = some (.cells #[a,b] t (0,0))) :
  ((w.setCell ⟨r,0,none⟩ a').setCell ⟨r,1,none⟩ b').heap[r]? = some (.cells #[a',b'] t (0,0)):=set_at2 (a:=a') (b:=b) (set_at2 h 0 a') 1 b'
theorem told_form (env:Env) (k:Int) (nm:ByteArray) (n d a:Int) (args:PL):(∃ ab eb,tell1 env k nm n d a (tellL env args) = .bad ab eb) ∨
  ∃ p f kb,(tell1 env k nm n d a (tellL env args)).v = .agg #[.int .i64 p,.int .i64 f,.bool kb,.int .i64 0,.int .i64 0] ∧
   (∀ c tl,ckL env c (.cons k nm n d args a tl) = (decide ((p,f) = c) && ckL env c tl)) ∧ ∀ tl,ckA env (.cons k nm n d args a tl) = ckL env (p,f) tl:=by
 cases h:tell1 env k nm n d a (tellL env args) with
 | bad ab eb => exact .inl ⟨ab,eb,rfl⟩
 | unk => exact .inr ⟨0,0,false,rfl,fun c tl => by rw [ckL,h],fun tl => by rw [ckA,h]⟩
 | ok p f => exact .inr ⟨p,f,true,rfl,fun c tl => by rw [ckL,h],fun tl => by rw [ckA,h]⟩
theorem ckL_bad {env:Env} {k:Int} {nm:ByteArray} {n d a ab eb:Int} {args:PL} (h:tell1 env k nm n d a (tellL env args) = .bad ab eb) (c:Int × Int) (tl:PL):ckL env c (.cons k nm n d args a tl) = false:=by rw [ckL,h]
theorem ckA_bad {env:Env} {k:Int} {nm:ByteArray} {n d a ab eb:Int} {args:PL} (h:tell1 env k nm n d a (tellL env args) = .bad ab eb) (tl:PL):ckA env (.cons k nm n d args a tl) = false:=by rw [ckA,h]
def AskAns (b:Bool) (x:Ending):Prop:=if b = true then x = OkPair else ∃ a e,e ≠ 0 ∧ x = .returned (.tuple #[.int .i64 a,.int .i64 e])
def AkRel (w:World) (env:Env) (e:PE) (ad:Option Addr) (cap:Nat) (v:Value) (wr:World):Prop :=
 ∃ (i:Nat) (rest:PL) (c1 c2:Int),v = .int .i64 (i:Int) ∧ RestP w ad e.args rest i ∧ (i = 0 → rest = e.args) ∧ (i ≠ 0 → ckL env (c1,c2) rest = ckA env e.args) ∧
  wr.heap[w.heap.size]? = some (.cells #[.int .i64 e.k,.string e.nm,.int .i64 e.n,.int .i64 e.d,.slice ad e.args.len cap,.int .i64 e.a] 95 (0,0)) ∧
  wr.heap[w.heap.size + 1]? = some (.cells #[.int .i64 c1,.int .i64 c2] 49 (0,0)) ∧ Below w.heap.size w wr
set_option maxRecDepth 100000 in
set_option maxHeartbeats 4000000 in
theorem askCall_any {w:World} (e:PE) (ad:Option Addr) (cap mb:Nat) (L:List (ByteArray × Value)) (env:Env) (hae:AE w e ad cap) (hM:MapS w mb L) (hE:EnvIs L env) :
  Calls Tryz.prog 90 #[.map (some mb),.agg #[.int .i64 e.k,.string e.nm,.int .i64 e.n,.int .i64 e.d,.slice ad e.args.len cap,.int .i64 e.a]] w fun x w' => AskAns (ckA env e.args) x ∧ Below w.heap.size w w':=by
 obtain ⟨k,nm,n,d,args,a⟩:=e
 have hlen:=hae.len
 simp only at hlen ⊢
 have HA:=hid hae
 have HM:=hid hM
 clear hae hM
 obtain ⟨r,hr⟩:∃ r,ckA env args = r:=⟨_,rfl⟩
 rw [hr]
 have HR:=hid hr
 clear hr
 go_enter Tryz.func90,Tryz.ntmps90
 go_wp2
 go_loopw [13] (fun v wr => Hid (AkRel w env ⟨k,nm,n,d,args,a⟩ ad cap v wr)) (fun i _ => args.len - (intOf i).toNat)
 case atStart => exact ⟨0,args,0,0,rfl,RestP.start HA.out.args,fun _ => rfl,fun h => absurd rfl h,(heap_alloc_old _ _ (by simp)).trans (heap_new w _),by simpa using heap_new (w.alloc _) _,bq⟩
 case round =>
  obtain ⟨i,rest,c1,c2,rfl,hrest,hz,hnz,hbox,hfir,hbel⟩:=hrel.out
  clear hrel
  simp only at hz hnz
  obtain ⟨⟨x0,x1,x2,x3,x4,x5⟩,xf⟩:=cells6' hbox
  obtain ⟨⟨g0,g1⟩,gf⟩:=cells2c hfir
  have HBOX:=hid hbox
  have HFIR:=hid hfir
  have HBEL:=hid hbel
  have hil:=hrest.1
  simp only at hil
  have hbl:=lt_of_block hbox
  have hbl2:=lt_of_block hfir
  have hsB:=hbel.size
  have HRS0:=hid hrest
  have HRS:=hid (hrest.below hbel)
  clear hbox hfir hbel hrest
  cases rest with
  | nil =>
   have hil':(i:Int) = (args.len:Int):=by simp only [PL.len] at hil;omega
   have h1:r = true:=by
    rw [← HR.out]
    by_cases h0:i = 0
    ·rw [← hz h0];rfl
    ·rw [← hnz h0];rfl
   subst h1
   clear hz hnz
   go_wp2
   go_ret2
   exact ⟨rfl,HBEL.out⟩
  | cons k1 nm1 n1 d1 args1 a1 tl =>
   have hil':(i:Int) < (args.len:Int):=by simp only [PL.len] at hil;omega
   obtain ⟨b,o,rfl,hb,h0,h1,h2,h3,h5,hn,⟨ad1,cap1,h4,hcap1,hcm1,hd1⟩,ht⟩:=HRS.out.2.2.resolve_left (by intro h;cases h)
   have HC:=hid (tell_any hE ⟨k1,nm1,n1,d1,args1,a1⟩)
   have HE:=hid (show AE wr ⟨k1,nm1,n1,d1,args1,a1⟩ ad1 cap1 from ⟨hn,⟨hcap1,hcm1⟩,hd1⟩)
   have hgd:=tellE_good env ⟨k1,nm1,n1,d1,args1,a1⟩
   unfold TellSaid at HC
   simp only at HC
   have hte:tellE env ⟨k1,nm1,n1,d1,args1,a1⟩ = tell1 env k1 nm1 n1 d1 a1 (tellL env args1):=rfl
   rw [hte] at HC hgd
   clear hte ht hn hd1
   rcases told_form env k1 nm1 n1 d1 a1 args1 with ⟨ab,eb,hbad⟩ | ⟨p,f,kb,hv,hckl,hcka⟩
   ·have h1:r = false:=by
     rw [← HR.out]
     by_cases h0:i = 0
     ·rw [← hz h0];exact ckA_bad hbad tl
     ·rw [← hnz h0];exact ckL_bad hbad (c1,c2) tl
    subst h1
    rw [hbad] at HC hgd
    simp only [TT.v] at HC
    have heb:(eb == 0) = false:=beq_eq_false_iff_ne.2 hgd
    clear hz hnz hbad
    go_wp2_with (go_at_call 88;(with_reducible refine (HC.out _ _ _ _ (HE.out.below bq) (HM.out.below bq)).mono ?_);rintro x w2 ⟨rfl,hb2⟩;obtain ⟨hc2,hf2⟩:=bcell hb2;have a2:w.heap.size < w2.heap.size:=sz_of hb2 oq;have a2':w.heap.size + 1 < w2.heap.size:=sz_of hb2 oq;have a3:wr.heap.size < w2.heap.size:=sz_of hb2 oq;have hbx2:=(hb2.block w.heap.size oq).trans ((heap_alloc_old _ _ hbl).trans HBOX.out);obtain ⟨⟨y0,y1,y2,y3,y4,y5⟩,yf⟩:=cells6' hbx2;have hby2:=(hb2.block (w.heap.size + 1) oq).trans ((heap_alloc_old _ _ hbl2).trans HFIR.out);obtain ⟨⟨z0,z1⟩,zf⟩:=cells2c hby2;have HY2:=hid hby2;clear hbx2 hby2)
    go_quiet (fail)
    go_wp2
    go_ret2
    exact ⟨⟨ab,eb,hgd,rfl⟩,bq⟩
   ·rw [hv] at HC
    clear hv hgd
    by_cases h0:i = 0
    ·have hi0:((i:Int) == 0) = true:=by rw [beq_iff_eq];omega
     have hq:=fun w => eq_clock p f p f w
     simp only [and_self,decide_true] at hq
     have h2:ckL env (p,f) tl = ckA env args:=by rw [← hz h0,hcka tl]
     have H2:=hid h2
     have HZ0:=hid h0
     clear hz hnz hckl hcka h0 h2
     go_wp2_with (go_at_call 88;(with_reducible refine (HC.out _ _ _ _ (HE.out.below bq) (HM.out.below bq)).mono ?_);rintro x w2 ⟨rfl,hb2⟩;obtain ⟨hc2,hf2⟩:=bcell hb2;have a2:w.heap.size < w2.heap.size:=sz_of hb2 oq;have a2':w.heap.size + 1 < w2.heap.size:=sz_of hb2 oq;have a3:wr.heap.size < w2.heap.size:=sz_of hb2 oq;have hbx2:=(hb2.block w.heap.size oq).trans ((heap_alloc_old _ _ hbl).trans HBOX.out);obtain ⟨⟨y0,y1,y2,y3,y4,y5⟩,yf⟩:=cells6' hbx2;have hby2:=(hb2.block (w.heap.size + 1) oq).trans ((heap_alloc_old _ _ hbl2).trans HFIR.out);obtain ⟨⟨z0,z1⟩,zf⟩:=cells2c hby2;have HY2:=hid hby2;clear hbx2 hby2)
     refine ⟨⟨i + 1,tl,p,f,by go_num,HRS0.out.tail,fun h => by omega,fun _ => H2.out,?_,?_,bq⟩,by simp [intOf];omega⟩
     ·exact (Below.block (show Below (w.heap.size + 1) wr _ from bq) _ oq).trans HBOX.out
     ·exact (heap_alloc_old _ _ (by simpa [World.setCell] using a2')).trans (set2 HY2.out)
    ·have hi0:((i:Int) == 0) = false:=by rw [beq_eq_false_iff_ne];omega
     have hck:=hnz h0
     rw [hckl (c1,c2) tl] at hck
     have HI0:=hid h0
     by_cases hcc:p = c1 ∧ f = c2
     ·obtain ⟨rfl,rfl⟩:=hcc
      have hq:=fun w => eq_clock p f p f w
      simp only [and_self,decide_true] at hq
      have H2:=hid (show ckL env (p,f) tl = ckA env args by rw [← hck];simp)
      clear hz hnz hckl hcka h0 hck
      go_wp2_with (go_at_call 88;(with_reducible refine (HC.out _ _ _ _ (HE.out.below bq) (HM.out.below bq)).mono ?_);rintro x w2 ⟨rfl,hb2⟩;obtain ⟨hc2,hf2⟩:=bcell hb2;have a2:w.heap.size < w2.heap.size:=sz_of hb2 oq;have a2':w.heap.size + 1 < w2.heap.size:=sz_of hb2 oq;have a3:wr.heap.size < w2.heap.size:=sz_of hb2 oq;have hbx2:=(hb2.block w.heap.size oq).trans ((heap_alloc_old _ _ hbl).trans HBOX.out);obtain ⟨⟨y0,y1,y2,y3,y4,y5⟩,yf⟩:=cells6' hbx2;have hby2:=(hb2.block (w.heap.size + 1) oq).trans ((heap_alloc_old _ _ hbl2).trans HFIR.out);obtain ⟨⟨z0,z1⟩,zf⟩:=cells2c hby2;have HY2:=hid hby2;clear hbx2 hby2)
      refine ⟨⟨i + 1,tl,p,f,by go_num,HRS0.out.tail,fun h => by omega,fun _ => H2.out,?_,?_,bq⟩,by simp [intOf];omega⟩
      ·exact (Below.block (show Below (w.heap.size + 1) wr _ from bq) _ oq).trans HBOX.out
      ·exact (heap_alloc_old _ _ a2').trans HY2.out
     ·have hq:=fun w => eq_clock p f c1 c2 w
      simp only [hcc,decide_false] at hq
      have h1:r = false:=by
       rw [← HR.out,← hck]
       have:¬ ((p,f) = (c1,c2)):=by intro e;injection e with e1 e2;exact hcc ⟨e1,e2⟩
       rw [decide_eq_false this];rfl
      subst h1
      have HCC:=hid hcc
      clear hz hnz hckl hcka h0 hck hcc
      go_wp2_with (go_at_call 88;(with_reducible refine (HC.out _ _ _ _ (HE.out.below bq) (HM.out.below bq)).mono ?_);rintro x w2 ⟨rfl,hb2⟩;obtain ⟨hc2,hf2⟩:=bcell hb2;have a2:w.heap.size < w2.heap.size:=sz_of hb2 oq;have a2':w.heap.size + 1 < w2.heap.size:=sz_of hb2 oq;have a3:wr.heap.size < w2.heap.size:=sz_of hb2 oq;have hbx2:=(hb2.block w.heap.size oq).trans ((heap_alloc_old _ _ hbl).trans HBOX.out);obtain ⟨⟨y0,y1,y2,y3,y4,y5⟩,yf⟩:=cells6' hbx2;have hby2:=(hb2.block (w.heap.size + 1) oq).trans ((heap_alloc_old _ _ hbl2).trans HFIR.out);obtain ⟨⟨z0,z1⟩,zf⟩:=cells2c hby2;have HY2:=hid hby2;clear hbx2 hby2)
      all_goals first | (exact (HCC.out ⟨rfl,rfl⟩).elim) | (exact (HCC.out ⟨by assumption,by assumption⟩).elim) | (exact (HCC.out ⟨by first | rfl | (symm;assumption),by first | rfl | (symm;assumption)⟩).elim) | (go_ret2;exact ⟨⟨a,5,by decide,rfl⟩,bq⟩)
theorem told_field (w:World) (p f a e:Int) (kb:Bool):(Instr.field 170 (.agg #[.int .i64 p,.int .i64 f,.bool kb,.int .i64 a,.int .i64 e]) 0).run Tryz.prog w = .ok (.agg #[.int .i64 p,.int .i64 f]) w:=by kernel_rfl
theorem look_yes {w:World} {mb:Nat} {L:List (ByteArray × Value)} {nm:ByteArray} {v:Value} (h:MapS w mb L) (hs:getS nm L = some v) :
  (Instr.lookup 115 (.map (some mb)) (.string nm) false).run Tryz.prog w = .ok v w:=by
 have:=map_lookS clocksMap h nm false
 rw [hs] at this;exact this
end Go.Proofs.YtpjficjlfibibaaGreatDoor.syn
