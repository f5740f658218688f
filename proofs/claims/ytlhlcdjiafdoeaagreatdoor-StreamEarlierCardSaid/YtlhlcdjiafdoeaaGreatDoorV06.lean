/- Parts of the proof. -/
import Derived.StillTailTactics
import Derived.Test.YtlhlcdjiafdoeaaGreatDoorV05
set_option linter.all false
set_option maxRecDepth 100000
set_option maxHeartbeats 16000000
namespace Go.Proofs.YtlhlcdjiafdoeaaGreatDoor.syn
open Go.RowKit
theorem yo {W1 w:World} {gb mb nn:Nat} {stk:List SE} (h:GW W1 gb mb nn stk w) {b o:Nat} {e:PE} (he:Q3 W1 b o e) (hn:nn≤60000000000) (hso:stk.length≤1000) (har:VJ e) :
  Calls Tryz.prog 166 #[.pointer (some ⟨gb,0,none⟩),.pointer (some ⟨b,o,none⟩)] w fun x w'=>x=.returned (.tuple #[])∧((∃m,(m≤nn+1∨(e.args.len≠0∧m≤2*nn))∧GW W1 gb mb m stk w')∨GW W1 gb mb nn (stk++[⟨b,o,0,nn,e⟩]) w'):=by
 by_cases hk:e.k=11
 ·exact(kQ h he hk hn).mono fun x w' ⟨h1,h2⟩=>⟨h1,.inl ⟨_,.inl (Zc _),h2⟩⟩
 by_cases hl:e.args.len=0
 ·exact(kP h he hk (E6 hl)).mono fun x w' ⟨h1,h2⟩=>⟨h1,.inl ⟨nn,.inl (Nat.le_succ _),h2▸h⟩⟩
 refine(vH h he hk hl hn hso har).mono fun x w' ⟨h1,h2⟩=>⟨h1,?_⟩
 rcases h2 with ⟨m,hm,h2⟩|h2
 ·exact .inl ⟨m,.inr ⟨hl,hm⟩,h2⟩
 exact .inr h2
structure Zba (w:World) (gb g co:Nat) (vn:Value) (mb:Nat) (stk0:List SE) (s:SE):Prop where
 gbk:w.heap[gb]?=some (Xh vn (.slice (some ⟨g,0,none⟩) (stk0.length+1) co) mb)
 c0:w.cell? ⟨g,stk0.length*3,none⟩=some (.pointer (some ⟨s.b,s.o,none⟩))
 c1:w.cell? ⟨g,stk0.length*3+1,none⟩=some (.int .i64 s.next)
 c2:w.cell? ⟨g,stk0.length*3+2,none⟩=some (.int .i64 s.fr)
 fz:w.frozen? ⟨g,stk0.length*3+1,none⟩=false
 cap:stk0.length+1≤co
theorem last_at {W1 w:World} {gb mb nn:Nat} {stk0:List SE} {s:SE} (h:GW W1 gb mb nn (stk0++[s]) w):∃vn g co xs,Zba w gb g co vn mb stk0 s∧w.ownsRow W1.heap.size 92 6 vn nn xs∧NmR xs nn∧w.ownsRow W1.heap.size 289 3 (.slice (some ⟨g,0,none⟩) (stk0.length+1) co) (stk0.length+1) (VI stk0++s.v):=by
 obtain⟨vn,vo,xs,hg,hon,hnm,hoo⟩:=h.sta
 have hl:(stk0++[s]).length=stk0.length+1:=by simp
 rw[hl,QE] at hoo
 obtain⟨g,co,rfl,_,_⟩:=hoo.form oq
 have hc:∀j,j<3→w.cell? ⟨g,stk0.length*3+j,none⟩=(SE.v s)[j]?:=by
  intro j hj
  rw[hoo.cellAt _ oq,List.getElem?_append_right (by rw[Q0];omega),Q0,Nat.add_sub_cancel_left]
  show(s.v++[])[j]?=_
  rw[List.append_nil]
 exact⟨vn,g,co,xs,⟨hg,hc 0 oq,hc 1 oq,hc 2 oq,hoo.frozenAt _,zb hoo⟩,hon,hnm,by simpa [VI] using hoo⟩
theorem GW.next {W1 w:World} {gb mb nn g co:Nat} {stk0:List SE} {s:SE} {vn:Value} (h:GW W1 gb mb nn (stk0++[s]) w) (hg:w.heap[gb]?=some (Xh vn (.slice (some ⟨g,0,none⟩) (stk0.length+1) co) mb)) (hlt:s.next+1≤s.e.args.len) :
  GW W1 gb mb nn (stk0++[⟨s.b,s.o,s.next+1,s.fr,s.e⟩]) (w.setCell ⟨g,stk0.length*3+1,none⟩ (.int .i64 ((s.next:Int)+1))):=by
 obtain⟨⟨xs,hon,hnm⟩,hoo⟩:=VC h hg
 have hl:(stk0++[s]).length=stk0.length+1:=by simp
 rw[hl,QE] at hoo
 have hgo:g≠gb:=fun e=>Xm hoo hg (by decide) (by rw[←e];rfl)
 obtain⟨arr,clock,hmm,_⟩:=id h.map
 have hgm:g≠mb:=fun e=>VB hoo (b:=mb) (fun cur e2=>by rw[hmm] at e2;cases e2) (by rw[←e];rfl)
 have hgl:=(hoo.lt g rfl)
 have hlow:=h.low.size
 have hk:∀k,k≠g→(w.setCell ⟨g,stk0.length*3+1,none⟩ (.int .i64 ((s.next:Int)+1))).heap[k]?=w.heap[k]?:=fun k hk=>heap_setCell_other _ _ _ _ hk
 have hl2:(stk0++[(⟨s.b,s.o,s.next+1,s.fr,s.e⟩:SE)]).length=stk0.length+1:=by simp
 refine⟨⟨h.low.os,h.low.tape,h.low.output,by simpa [World.setCell] using hlow,fun k hk1=>(hk k oq).trans (h.low.block k hk1)⟩,h.hgb,h.hmb,⟨vn,.slice (some ⟨g,0,none⟩) (stk0.length+1) co,xs,(hk gb (fun e=>hgo e.symm)).trans hg,?_,hnm,?_⟩,h.map.keep (hk mb (fun e=>hgm e.symm)) (fun _ h=>h),fun x hx=>?_⟩
 ·refine YZ hon fun k hk1=>hk k fun e=>?_
  rcases hoo.2 with ⟨h1,_⟩|⟨g2,cap2,cur,h1,_,hgo2,_⟩
  ·cases h1
  injection h1 with h1 _ _;injection h1 with h1;injection h1 with h1
  rw[e] at hk1
  exact Xm hon (b:=g) (by rw[h1];exact hgo2) (by decide) hk1.symm
 ·rw[hl2,QE]
  have:=(hoo.stored (stk0.length*3+1) (.int .i64 ((s.next:Int)+1))).1
  rw[List.set_append_right _ _ (by rw[Q0];omega),Q0,Nat.add_sub_cancel_left] at this
  simpa [VI,SE.v] using this
 rcases List.mem_append.1 hx with hx|hx
 ·exact h.stk x (List.mem_append_left _ hx)
 rw[List.mem_singleton.1 hx]
 obtain⟨h1,h2,h3,h4⟩:=h.stk s (by simp)
 exact⟨h1,hlt,h3,h4⟩
theorem uk {W1 w:World} {gb mb nn:Nat} {stk0:List SE} {s:SE} (h:GW W1 gb mb nn (stk0++[s]) w) (hn:nn≤60000000000) (hso:stk0.length≤900) (hlt:s.next<s.e.args.len) :
  Calls Tryz.prog 167 #[.pointer (some ⟨gb,0,none⟩)] w fun x w'=>x=.returned (.tuple #[])∧∃e,s.e.args.at s.next=some e∧((∃m,(m≤nn+1∨(e.args.len≠0∧m≤2*nn))∧GW W1 gb mb m (stk0++[{ s with next:=s.next+1 }]) w')∨∃b o,GW W1 gb mb nn (stk0++[{ s with next:=s.next+1 }]++[⟨b,o,0,nn,e⟩]) w'):=by
 obtain⟨vn,g,co,xs,hla,hon,hnm,hoo⟩:=last_at h
 obtain⟨hex,hnx,hfr,har⟩:=h.stk s (by simp)
 obtain⟨e,hat,hsz⟩:=s.e.args.at_some s.next hlt
 have HLA:=hid hla
 obtain⟨⟨g0,g1,g2⟩,gf⟩:=Xv hla.gbk
 have hc0:=hla.c0
 have hc1:=hla.c1
 have hcf:=hla.fz
 obtain⟨ad,cap,c4,hargs⟩:=hex.c4
 have hlen:=hex.len
 obtain⟨b',o',rfl,hb',hac,hnf⟩:∃b' o',ad=some ⟨b',o',none⟩∧b'<W1.heap.size∧AC W1 s.e.args b' o'∧NF W1 s.e.args b' o':=by
  rcases hargs with h0|h0
  ·rw[h0] at hlt;exact absurd hlt (Yi _)
  exact h0
 have HCH:=hid (Q3.child s.e.args hb' hac hnf s.next e hat)
 have HAR:=hid (Ar2.at s.e.args s.next e har.2 hat)
 have d4:=(h.low.cell (p:=⟨s.b,s.o+4,none⟩) hex.lt).trans c4
 have HGW:=hid h
 have HAT:=hid hat
 have HEX:=hid (Zh hex.lt c4)
 obtain⟨m,hmm⟩:∃m,stk0.length=m:=⟨_,rfl⟩
 rw[hmm] at hc0 hc1 hcf g1 hso
 obtain⟨sb,so,snx,sfr,se⟩:=s
 simp only at *
 have hw0:IntKind.i64.wrap (m:Int)=(m:Int):=ZJ _ oq
 have hw4:IntKind.i64.wrap (snx:Int)=(snx:Int):=ZJ _ oq
 have hw1:IntKind.i64.wrap ((m:Int)+1-1)=(m:Int):=by rw[show(m:Int)+1-1=m by omega];exact ZJ _ oq
 have hm0:(0:Int)≤(m:Int):=oq
 have hm1:(m:Int)<(m:Int)+1:=oq
 have hxl:(snx:Int)<(se.args.len:Int):=oq
 have hw2:IntKind.i64.wrap ((snx:Int)+1)=(snx:Int)+1:=ZJ _ oq
 have hw3:IntKind.i64.wrap ((snx:Int)+1-1)=(snx:Int):=by rw[show(snx:Int)+1-1=snx by omega];exact ZJ _ oq
 have hx0:(0:Int)≤(snx:Int):=oq
 clear hla hon hnm hoo hex hargs hac hnf hat hsz h c4 har
 go_enter Tryz.func167,Tryz.ntmps167
 go_wp2
 go_still_tail 11,kq
 change wpList _ _ _ _ _ (w).drew;have hhwa:(w).drew.heap=(w).heap:=rfl;have hbwa:Below (w).heap.size (w) (w).drew:=(Zg _ _).drew;have Hwa:=hid (Zh hhwa hbwa);clear hhwa hbwa;change (w).drew.cell? _=_ at g1 hc0 hc1 d4;change (w).drew.frozen? _=_ at hcf;generalize (w).drew=wa at *
 go_wp2
 go_still_tail 12,kq
 change wpList _ _ _ _ _ (wa).drew;have hhwb:(wa).drew.heap=(wa).heap:=rfl;have hbwb:Below (wa).heap.size (wa) (wa).drew:=(Zg _ _).drew;have Hwb:=hid (Zh hhwb hbwb);clear hhwb hbwb;change (wa).drew.cell? _=_ at g1 hc0 hc1 d4;change (wa).drew.frozen? _=_ at hcf;generalize (wa).drew=wb at *
 go_wp2
 have hgw5:GW W1 gb mb nn (stk0++[⟨sb,so,snx+1,sfr,se⟩]) (wb.setCell ⟨g,m*3+1,none⟩ (.int .i64 ((snx:Int)+1))):=by
  have hb:Below w.heap.size w wb:=Hwa.out.2.trans (Hwb.out.2.mono (by rw[Hwa.out.1];exact Zc _))
  have hhb:wb.heap=w.heap:=Hwb.out.1.trans Hwa.out.1
  have:=GW.next (HGW.out.same hb) (stk0:=stk0) (s:=⟨sb,so,snx,sfr,se⟩) (by rw[hhb];exact HLA.out.gbk) (by show snx+1≤se.args.len;omega)
  rw[hmm] at this
  exact this
 have e0:(wb.setCell ⟨g,m*3+1,none⟩ (.int .i64 ((snx:Int)+1))).cell? ⟨g,m*3,none⟩=some (.pointer (some ⟨sb,so,none⟩)):=by go_simp
 have e1:(wb.setCell ⟨g,m*3+1,none⟩ (.int .i64 ((snx:Int)+1))).cell? ⟨g,m*3+1,none⟩=some (.int .i64 ((snx:Int)+1)):=by go_simp
 have e4:(wb.setCell ⟨g,m*3+1,none⟩ (.int .i64 ((snx:Int)+1))).cell? ⟨sb,so+4,none⟩=some (.slice (some ⟨b',o',none⟩) se.args.len cap):=(hgw5.low.cell (p:=⟨sb,so+4,none⟩) HEX.out.1).trans HEX.out.2
 have ef:=gf
 clear hc0 hc1 d4 hcf g1
 generalize wb.setCell ⟨g,m*3+1,none⟩ (.int .i64 ((snx:Int)+1))=w5 at *
 have HG5:=hid hgw5
 have ef:w5.frozen? ⟨gb,0,none⟩=false:=by
  obtain⟨_,_,_,hg,_⟩:=hgw5.sta
  exact(Xv hg).2 0
 clear hgw5
 go_still_tail 14,kq
 change wpList _ _ _ _ _ (w5).drew;have hhwc:(w5).drew.heap=(w5).heap:=rfl;have hbwc:Below (w5).heap.size (w5) (w5).drew:=(Zg _ _).drew;have Hwc:=hid (Zh hhwc hbwc);clear hhwc hbwc;change (w5).drew.cell? _=_ at e0 e1 e4;change (w5).drew.frozen? _=_ at ef;generalize (w5).drew=wc at *
 have HMT:=hid (yo (HG5.out.same Hwc.out.2) HCH.out hn (by simp;omega) HAR.out)
 go_wp2_with (go_at_call 166;refine HMT.out.mono ?_;rintro x w6 ⟨rfl,h6⟩;have H6:=hid h6;clear h6)
 refine Zl (v:=.tuple #[]) ?_ rfl ?_
 ·simp[results,Tryz.results167]
 refine⟨rfl,e,HAT.out,?_⟩
 rcases H6.out with h6|h6
 ·exact .inl h6
 exact .inr ⟨_,_,h6⟩
theorem GW.pop {W1 w:World} {gb mb nn g co:Nat} {stk0:List SE} {s:SE} {vn:Value} (h:GW W1 gb mb nn (stk0++[s]) w) (hg:w.heap[gb]?=some (Xh vn (.slice (some ⟨g,0,none⟩) (stk0.length+1) co) mb)) :
  GW W1 gb mb nn stk0 (w.setCell ⟨gb,1,none⟩ (.slice (some ⟨g,0,none⟩) stk0.length co)):=by
 obtain⟨⟨xs,hon,hnm⟩,hoo⟩:=VC h hg
 have hl:(stk0++[s]).length=stk0.length+1:=by simp
 rw[hl,QE] at hoo
 obtain⟨arr,clock,hmm,_⟩:=id h.map
 have hgm:mb≠gb:=fun e=>by rw[←e,hmm] at hg;cases hg
 have hgl:=Zb hg
 have hlow:=h.low.size
 have hgb:=h.hgb
 have hk:∀k,k≠gb→(w.setCell ⟨gb,1,none⟩ (.slice (some ⟨g,0,none⟩) stk0.length co)).heap[k]?=w.heap[k]?:=fun k hk=>heap_setCell_other _ _ _ _ hk
 refine⟨⟨h.low.os,h.low.tape,h.low.output,by simpa [World.setCell] using hlow,fun k hk1=>(hk k oq).trans (h.low.block k hk1)⟩,h.hgb,h.hmb,⟨vn,_,xs,jw hg _,?_,hnm,?_⟩,h.map.keep (hk mb hgm) (fun _ h=>h),fun x hx=>h.stk x (List.mem_append_left _ hx)⟩
 ·exact YZ hon fun k hk1=>hk k fun e=>Xm hon hg (by decide) (by rw[←e];exact hk1.symm)
 have h1:w.ownsRow W1.heap.size 289 3 (.slice (some ⟨g,0,none⟩) stk0.length co) stk0.length (VI stk0):=by
  refine⟨Q0 _,?_⟩
  rcases hoo.2 with ⟨h1,_⟩|⟨g2,cap2,cur,h1,h2,h3,h4,h5,h6,h7⟩
  ·cases h1
  injection h1 with h1 h1b h1c;injection h1 with h1;injection h1 with h1
  subst h1;subst h1c
  refine .inr ⟨g,co,cur,rfl,h2,h3,oq,h5,h6,?_⟩
  have:=Z1 (List.take (stk0.length*3)) h7
  rw[List.take_take,Nat.min_eq_left oq] at this
  rw[this,List.take_append_of_le_length (by rw[Q0];exact Zc _),List.take_of_length_le (by rw[Q0];exact Zc _)]
 exact YZ h1 fun k hk1=>hk k fun e=>Xm h1 hg (by decide) (by rw[←e];exact hk1.symm)
theorem Zbp {W1 w w3:World} {gb mb nn:Nat} {stk:List SE} {vn vo:Value} (h:GW W1 gb mb nn stk w) (hg:w.heap[gb]?=some (Xh vn vo mb)) (hu:Upon mb w w3) (hm:JM w3 mb (Ki W1) (PcV nn)):GW W1 gb mb nn stk w3∧w3.heap[gb]?=some (Xh vn vo mb):=by
 obtain⟨arr,clock,hmm,_⟩:=id h.map
 have hk:∀k,k<w.heap.size→k≠mb→w3.heap[k]?=w.heap[k]?:=fun k hk hne=>hu.block k hk hne
 have hlow:=h.low.size
 have hg3:w3.heap[gb]?=some (Xh vn vo mb):=(hk gb (Zb hg) (fun e=>by rw[e,hmm] at hg;cases hg)).trans hg
 obtain⟨⟨xs,hon,hnm⟩,hoo⟩:=VC h hg
 have ho:∀{e:TypeId} {size n:Nat} {v:Value} {xs:List Value},w.ownsRow W1.heap.size e size v n xs→w3.ownsRow W1.heap.size e size v n xs:=fun h=>YZ h fun k hk2=>hk k (h.lt k hk2).2 (fun e=>VB h (b:=mb) (fun cur e2=>by rw[hmm] at e2;cases e2) (by rw[←e];exact hk2))
 exact⟨⟨⟨hu.os.trans h.low.os,hu.tape.trans h.low.tape,hu.output.trans h.low.output,Zm hlow hu.size,fun k hk1=>(hk k oq (by have:=h.hmb;omega)).trans (h.low.block k hk1)⟩,h.hgb,h.hmb,⟨vn,vo,xs,hg3,ho hon,hnm,ho hoo⟩,hm,h.stk⟩,hg3⟩
theorem qP {W1 w:World} {gb mb nn:Nat} {stk0:List SE} {s:SE} (h:GW W1 gb mb nn (stk0++[s]) w) (hn:nn≤60000000000) (hso:stk0.length≤900) (heq:s.next=s.e.args.len) :
  Calls Tryz.prog 167 #[.pointer (some ⟨gb,0,none⟩)] w fun x w'=>x=.returned (.tuple #[])∧GW W1 gb mb nn stk0 w':=by
 obtain⟨vn,g,co,xs,hla,hon,hnm,hoo⟩:=last_at h
 obtain⟨hex,hnx,hfr,har⟩:=h.stk s (by simp)
 have HLA:=hid hla
 obtain⟨ln,cn,hvn⟩:∃ad cn,vn=.slice ad nn cn:=XV hon
 subst hvn
 obtain⟨⟨g0,g1,g2⟩,gf⟩:=Xv hla.gbk
 have hc0:=hla.c0
 have hc1:=hla.c1
 have hc2:=hla.c2
 have hcap:=hla.cap
 obtain⟨ad,cap,c4,hargs⟩:=hex.c4
 have hlen:=hex.len
 have d4:=(h.low.cell (p:=⟨s.b,s.o+4,none⟩) hex.lt).trans c4
 have HGW:=hid h
 have HEX:=hid hex
 obtain⟨m,hmm⟩:∃m,stk0.length=m:=⟨_,rfl⟩
 rw[hmm] at hc0 hc1 hc2 g1 hso hcap
 obtain⟨sb,so,snx,sfr,se⟩:=s
 simp only at *
 subst heq
 have hgf:=gf 1
 have hw0:IntKind.i64.wrap (m:Int)=(m:Int):=ZJ _ oq
 have hm0:(0:Int)≤(m:Int):=oq
 have hm1:(m:Int)<(m:Int)+1:=oq
 have hm2:(m:Int)≤(co:Int):=oq
 clear hla hon hnm hoo hex hargs h c4 har gf
 go_enter Tryz.func167,Tryz.ntmps167
 go_wp2
 go_still_tail 11,kq
 change wpList _ _ _ _ _ (w).drew;have hhwa:(w).drew.heap=(w).heap:=rfl;have hbwa:Below (w).heap.size (w) (w).drew:=(Zg _ _).drew;have Hwa:=hid (Zh hhwa hbwa);clear hhwa hbwa;change (w).drew.cell? _=_ at g0 g1 g2 hc0 hc1 hc2 d4;change (w).drew.frozen? _=_ at hgf;generalize (w).drew=wa at *
 go_wp2
 go_still_tail 12,kq
 change wpList _ _ _ _ _ (wa).drew;have hhwb:(wa).drew.heap=(wa).heap:=rfl;have hbwb:Below (wa).heap.size (wa) (wa).drew:=(Zg _ _).drew;have Hwb:=hid (Zh hhwb hbwb);clear hhwb hbwb;change (wa).drew.cell? _=_ at g0 g1 g2 hc0 hc1 hc2 d4;change (wa).drew.frozen? _=_ at hgf;generalize (wa).drew=wb at *
 go_wp2
 go_still_tail 18,kq
 change wpList _ _ _ _ _ (wb).drew;have hhwc:(wb).drew.heap=(wb).heap:=rfl;have hbwc:Below (wb).heap.size (wb) (wb).drew:=(Zg _ _).drew;have Hwc:=hid (Zh hhwc hbwc);clear hhwc hbwc;change (wb).drew.cell? _=_ at g0 g1 g2 hc0 hc1 hc2 d4;change (wb).drew.frozen? _=_ at hgf;generalize (wb).drew=wc at *
 have hbc:Below w.heap.size w wc∧wc.heap=w.heap:=by
  have h1:=Hwa.out
  have h2:=Hwb.out
  have h3:=Hwc.out
  exact⟨h1.2.trans ((h2.2.trans (h3.2.mono (by rw[h2.1];exact Zc _))).mono (by rw[h1.1];exact Zc _)),h3.1.trans (h2.1.trans h1.1)⟩
 have HGC:=hid (HGW.out.same hbc.1)
 have HBC:=hid hbc
 clear hbc Hwa Hwb Hwc hc0 hc1 hc2 d4 g0 g1 g2 hgf
 have g0:wc.cell? ⟨gb,0,none⟩=some (.slice ln nn cn):=by have:=(Xv HLA.out.gbk).1.1;simpa [World.cell?,HBC.out.2] using this
 go_wp2_with (at_mapUpdate;refine UU Uz _ rfl _ _ _ rfl mb (Ki W1) (PcV nn) _ (.agg #[.int .i64 (sfr:Int),.int .i64 (nn:Int)]) rfl rfl rfl HGC.out.map (fun v hv=>Ki.ptr HGC.out.low v hv) ⟨sb,so,_,rfl,HEX.out⟩ ⟨sfr,nn,rfl,hfr,Zc _⟩ ?_;intro w3 hu3 hs3 hm3;have HU3:=hid hu3;have HM3:=hid hm3;clear hu3 hm3)
 have hgc:wc.heap[gb]?=some (Xh (.slice ln nn cn) (.slice (some ⟨g,0,none⟩) (stk0.length+1) co) mb):=by rw[HBC.out.2];exact HLA.out.gbk
 obtain⟨hgw3,hg3⟩:=Zbp HGC.out hgc HU3.out HM3.out
 have HG3:=hid hg3
 have HGW3:=hid hgw3
 obtain⟨⟨q0,q1,q2⟩,qf⟩:=Xv hg3
 have qf1:=qf 1
 rw[hmm] at q1
 clear hgc hgw3 hg3 g0 qf HGC HBC HU3 HM3 HGW
 go_still_tail 12,kq
 change wpList _ _ _ _ _ (w3).drew;have hhwd:(w3).drew.heap=(w3).heap:=rfl;have hbwd:Below (w3).heap.size (w3) (w3).drew:=(Zg _ _).drew;have Hwd:=hid (Zh hhwd hbwd);clear hhwd hbwd;change (w3).drew.cell? _=_ at q0 q1 q2;change (w3).drew.frozen? _=_ at qf1;generalize (w3).drew=wd at *
 go_wp2
 refine bodyPost_end (v:=.tuple #[]) ?_ rfl ?_
 ·simp[results,Tryz.results167]
 have hgd:wd.heap[gb]?=some (Xh (.slice ln nn cn) (.slice (some ⟨g,0,none⟩) (stk0.length+1) co) mb):=by rw[Hwd.out.1];exact HG3.out
 have:=GW.pop (HGW3.out.same Hwd.out.2) hgd
 rw[hmm] at this
 exact⟨rfl,this⟩
structure GS (W1:World) (gb mb N:Nat) (stk:List SE) (w:World):Prop where
 ex:∃nn p,GW W1 gb mb nn stk w∧nn≤T3 p∧p+QG stk≤N∧stk.length≤p
theorem uM (p:Nat):T3 (p+3)=2*T3 p:=rfl
theorem GS.one {W1 w:World} {gb mb N nn p m:Nat} {stk:List SE} {e:PE} (h:GW W1 gb mb m stk w) (hn:nn≤T3 p) (hm:m≤nn+1∨(e.args.len≠0∧m≤2*nn)) (har:VJ e) (hp:p+e.sz+QG stk≤N) (hs:stk.length≤p):GS W1 gb mb N stk w:=by
 refine⟨m,p+e.sz,h,?_,oq,oq⟩
 rcases hm with hm|⟨h0,hm⟩
 ·have h1:=EA p
  have h2:T3 (p+1)≤T3 (p+e.sz):=U4 (by unfold PE.sz;omega)
  omega
 have h1:=uM p
 have h2:T3 (p+3)≤T3 (p+e.sz):=U4 (by have:=har.three h0;omega)
 omega
def Zch (w:World) (x:Ending) (w':World):Prop:=(∃ln nn cn xs,x=.returned (.slice ln nn cn)∧w'.ownsRow w.heap.size 92 6 (.slice ln nn cn) nn xs∧NmR xs nn∧nn≤60000000000)∧Below w.heap.size w w'
def G7 (stk:List SE):Nat:=2*QG stk+stk.length
theorem least {P:Nat→Prop} (h:∃n,P n):∃n,P n∧∀m,P m→n≤m:=by
 obtain⟨n,hn⟩:=h
 induction n using Nat.strongRecOn with
 | _ n ih =>
  by_cases hx:∃m,m<n∧P m
  ·obtain⟨m,h1,h2⟩:=hx
   exact ih m h1 h2
  exact⟨n,hn,fun m hm=>Nat.le_of_not_lt fun hlt=>hx ⟨m,hlt,hm⟩⟩
def eA (W1:World) (gb mb N:Nat) (w:World) (n:Nat):Prop:=∃stk,GS W1 gb mb N stk w∧G7 stk=n
noncomputable def muG (W1:World) (gb mb N:Nat) (w:World):Nat:=@Classical.epsilon Nat ⟨0⟩ (fun n=>eA W1 gb mb N w n∧∀m,eA W1 gb mb N w m→n≤m)
theorem K1 {W1:World} {gb mb N:Nat} {w:World} (h:∃stk,GS W1 gb mb N stk w):eA W1 gb mb N w (muG W1 gb mb N w)∧∀m,eA W1 gb mb N w m→muG W1 gb mb N w≤m :=
 Classical.epsilon_spec (least (by obtain⟨stk,h⟩:=h;exact⟨_,stk,h,rfl⟩))
theorem GS.child {W1 w:World} {gb mb N nn p:Nat} {stk0:List SE} {s:SE} {e:PE} (hn:nn≤T3 p) (hp:p+QG (stk0++[s])≤N) (hs:(stk0++[s]).length≤p) (har:VJ e) (hat:s.e.args.at s.next=some e) (hlt:s.next<s.e.args.len)
  (hw:(∃m,(m≤nn+1∨(e.args.len≠0∧m≤2*nn))∧GW W1 gb mb m (stk0++[{ s with next:=s.next+1 }]) w)∨∃b o,GW W1 gb mb nn (stk0++[{ s with next:=s.next+1 }]++[⟨b,o,0,nn,e⟩]) w) :
  ∃stk,GS W1 gb mb N stk w∧G7 stk<G7 (stk0++[s]):=by
 obtain⟨e2,h1,h2⟩:=s.e.args.at_some s.next hlt
 obtain rfl:e2=e:=Option.some.inj (h1.symm.trans hat)
 have hr:QG (stk0++[s])=QG stk0+s.e.args.szFrom s.next:=by rw[Q8];simp[QG]
 have hr2:QG (stk0++[{ s with next:=s.next+1 }])=QG stk0+s.e.args.szFrom (s.next+1):=by rw[Q8];simp[QG]
 have hl:(stk0++[s]).length=stk0.length+1:=by simp
 have hl2:(stk0++[{ s with next:=s.next+1 }]).length=stk0.length+1:=by simp
 have hz:e2.sz=e2.args.sz+1:=rfl
 rcases hw with ⟨m,hm,hw⟩|⟨b,o,hw⟩
 ·refine⟨_,GS.one hw hn hm har oq oq,?_⟩
  unfold G7
  omega
 have hr3:QG (stk0++[{ s with next:=s.next+1 }]++[⟨b,o,0,nn,e2⟩])=QG stk0+s.e.args.szFrom (s.next+1)+e2.args.sz:=by rw[Q8,hr2];simp[QG,PL.szFrom0]
 have hl3:(stk0++[{ s with next:=s.next+1 }]++[(⟨b,o,0,nn,e2⟩:SE)]).length=stk0.length+2:=by simp
 refine⟨_,⟨nn,p+1,hw,Zm hn (U4 (Nat.le_succ _)),oq,oq⟩,?_⟩
 unfold G7
 omega
theorem GA {w:World} {e:PE} {ad:Option Addr} {cap:Nat} (h:AE w e ad cap) (hnf:∀b o,ad=some ⟨b,o,none⟩→NF w e.args b o) (har:VJ e) (hsz:e.sz≤100) :
  Calls Tryz.prog 157 #[ev e ad cap] w (Zch w):=by
 obtain⟨W1,hW1⟩:∃W1,W1=w.alloc (.cells #[.int .i64 e.k,.string e.nm,.int .i64 e.n,.int .i64 e.d,.slice ad e.args.len cap,.int .i64 e.a] 92):=⟨_,rfl⟩
 have hb1:Below w.heap.size w W1:=by rw[hW1];exact(Zg _ _).alloc (Zc _) _
 have hs1:W1.heap.size=w.heap.size+1:=by rw[hW1];simp
 have hex:Q3 W1 w.heap.size 0 e:=by
  have hn:=Yt w (.cells #[.int .i64 e.k,.string e.nm,.int .i64 e.n,.int .i64 e.d,.slice ad e.args.len cap,.int .i64 e.a] 92)
  rw[←hW1] at hn
  obtain⟨⟨c0,c1,c2,c3,c4,c5⟩,cf⟩:=Y0 hn
  refine⟨oq,cf 0,c0,c1,c2,c3,c5,⟨ad,cap,c4,?_⟩,Zm h.len.1 h.len.2⟩
  rcases h.args with h0|⟨b,o,rfl,hlt,hac⟩
  ·exact .inl h0
  exact .inr ⟨b,o,rfl,oq,hac.below hb1 _ _ _ hlt,(hnf b o rfl).below hb1 _ _ _ hlt hac⟩
 have hgw:GW W1 (w.heap.size+1+1) (w.heap.size+1) 0 [] ((W1.alloc (.map #[] 0)).alloc (Obj.cells #[.slice none 0 0,.slice none 0 0,.map (some (w.heap.size+1))] 271)):=by
  have hm:=JM.new W1 (Ki W1) (PcV 0)
  have hs2:(W1.alloc (.map #[] 0)).heap.size=w.heap.size+1+1:=by simp[hs1]
  refine⟨((Zg _ _).alloc (Zc _) _).alloc (by simp) _,oq,oq,⟨.slice none 0 0,.slice none 0 0,[],?_,Yd _ _ _ _,NmR.nil,Yd _ _ _ _⟩,?_,fun s hs=>(by cases hs)⟩
  ·have:=Yt (W1.alloc (.map #[] 0)) (Obj.cells #[.slice none 0 0,.slice none 0 0,.map (some (w.heap.size+1))] 271)
   rw[hs2] at this
   exact this
  rw[hs1] at hm
  exact hm.keep (Za _ _ _ (by rw[hs2];omega)) (fun _ h=>h)
 have HMT:=hid (yo hgw hex oq (by simp) har)
 have HB1:=hid hb1
 have HS:=hid hsz
 rw[hW1] at HMT
 obtain⟨k,nm,n,d,args,a⟩:=e
 unfold ev
 simp only at hW1 HMT ⊢
 have HW1:=hid hW1
 have hmk:=fun w=>run_makeMap (P:=Tryz.prog) 268 w
 clear h hnf hex hgw hb1 hW1 hsz
 have HAR:=hid har
 clear har
 go_enter Tryz.func157,Tryz.ntmps157
 go_wp2_with (go_at_call 166;refine HMT.out.mono ?_;rintro x w4 ⟨rfl,h4⟩;have H4:=hid h4;clear h4)
 clear HMT
 have hgs:∃stk,GS W1 (w.heap.size+1+1) (w.heap.size+1) 100 stk w4:=by
  have h4:=H4.out
  rw[←HW1.out] at h4
  have hz:(⟨k,nm,n,d,args,a⟩:PE).sz=args.sz+1:=rfl
  have hsz:=HS.out
  rcases h4 with ⟨m,hm,h4⟩|h4
  ·exact⟨[],GS.one (nn:=0) (p:=0) h4 (Zk _) hm HAR.out (by simp[QG];omega) (by simp)⟩
  exact⟨_,⟨0,1,h4,Zk _,by simp[QG,PL.szFrom0];omega,by simp⟩⟩
 have HGS:=hid hgs
 clear hgs H4 HW1 HAR HS hmk
 go_loopw [] (fun wr=>Hid (∃stk,GS W1 (w.heap.size+1+1) (w.heap.size+1) 100 stk wr)) (fun wr=>muG W1 (w.heap.size+1+1) (w.heap.size+1) 100 wr)
 case atStart=>exact HGS.out
 have hgs:=hrel.out
 clear hrel
 obtain⟨⟨stk,hgs,hms⟩,hmin⟩:=K1 hgs
 obtain⟨nn,p,hgw,hnn,hp,hsl⟩:=hgs.ex
 have htop:nn≤60000000000:=Zm hnn (Zbg oq)
 obtain⟨vn,vo,xs,hg,hon,hnm,hoo⟩:=hgw.sta
 obtain⟨ln,cn,rfl⟩:=XV hon
 obtain⟨lo,co,rfl⟩:=XV hoo
 obtain⟨⟨g0,g1,g2⟩,gf⟩:=Xv hg
 have HON:=hid hon
 have HNM:=hid hnm
 have HGW:=hid hgw
 have HMS:=hid hms
 clear hon hnm hgw hg hms hmin hgs hoo
 rcases List.eq_nil_or_concat stk with rfl|⟨stk0,s,hst⟩
 ·simp only[Zv] at g1
  go_wp2
  go_ret
  refine⟨⟨ln,nn,cn,xs,rfl,HON.out.mono oq,HNM.out,htop⟩,HB1.out.trans (HGW.out.low.mono oq)⟩
 rw[List.concat_eq_append] at hst
 subst hst
 have hlen:(stk0++[s]).length=stk0.length+1:=by simp
 rw[hlen] at g1 hsl
 have hpos:(0:Int)<(stk0.length:Int)+1:=oq
 obtain⟨hex,hnx,hfr,har⟩:=HGW.out.stk s (by simp)
 have hst0:stk0.length≤900:=oq
 by_cases hlt:s.next<s.e.args.len
 ·have HST:=hid (uk HGW.out htop hst0 hlt)
  have HFIN:=hid (fun(w':World) (e:PE) (hat:s.e.args.at s.next=some e) (hw)=>GS.child (W1:=W1) (gb:=w.heap.size+1+1) (mb:=w.heap.size+1) (N:=100) (w:=w') hnn hp (by rw[hlen];exact hsl) (Ar2.at _ _ _ har.2 hat) hat hlt hw)
  clear hex har hnn hp
  go_wp2_with (go_at_call 167;refine HST.out.mono ?_;rintro x w5 ⟨rfl,e,hat,h5⟩;have H5:=hid (HFIN.out w5 e hat h5);clear h5 hat)
  obtain⟨stk',hg5,hm5⟩:=H5.out
  refine⟨⟨stk',hg5⟩,?_⟩
  have h6:=(K1 ⟨stk',hg5⟩).2 _ ⟨stk',hg5,rfl⟩
  have h7:=HMS.out
  omega
 have HST:=hid (qP HGW.out htop hst0 oq)
 have hr:QG (stk0++[s])=QG stk0+s.e.args.szFrom s.next:=by rw[Q8];simp[QG]
 have HFIN:=hid (fun(w':World) (hw:GW W1 (w.heap.size+1+1) (w.heap.size+1) nn stk0 w')=>(⟨nn,p,hw,hnn,oq,oq⟩:∃nn p,GW W1 (w.heap.size+1+1) (w.heap.size+1) nn stk0 w'∧nn≤T3 p∧p+QG stk0≤100∧stk0.length≤p))
 have HR:=hid hr
 clear hex har hnn hp hr
 go_wp2_with (go_at_call 167;refine HST.out.mono ?_;rintro x w5 ⟨rfl,h5⟩;have H5:=hid (HFIN.out w5 h5);clear h5)
 refine⟨⟨stk0,⟨H5.out⟩⟩,?_⟩
 have h6:=(K1 (W1:=W1) (gb:=w.heap.size+1+1) (mb:=w.heap.size+1) (N:=100) (w:=w5) ⟨stk0,⟨H5.out⟩⟩).2 _ ⟨stk0,⟨H5.out⟩,rfl⟩
 have h7:=HMS.out
 have h8:=HR.out
 unfold G7 at h6 h7
 simp only[hlen] at h7
 omega
end Go.Proofs.YtlhlcdjiafdoeaaGreatDoor.syn
