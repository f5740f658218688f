/- Parts of the proof. -/
import Derived.LaidMore
import Derived.Lay
import Derived.SevenTiedAt
import Derived.Test.YtdgifkjaflfdeaaGreatDoorCards
import Derived.Test.YtdgifkjaflfdeaaGreatDoorJ48
import Derived.Test.YtdgifkjaflfdeaaGreatDoorRows
import Derived.Test.YtdgifkjaflfdeaaGreatDoorTie
set_option linter.all false
set_option maxRecDepth 100000
set_option maxHeartbeats 16000000
namespace Go.Proofs.YtdgifkjaflfdeaaGreatDoor.syn
open Go.Proofs.Tryz
open Go.RowKit Go.Shelf Go.Sort
variable {W w':World}{l:List Int}{f:FD}{u:Int}{x:Ending}
theorem ZdK{a:Option Addr}(h:Row KG 1 W l a):qi W (Value.int .i64) a l:=by
 rcases h with h|⟨b,o,e,hb,hc⟩
 .exact .inl h
 refine .inr ⟨b,o,e,hb,fun i x hx=>?_⟩;obtain⟨hi,rfl⟩:=ZA.1 hx;have f:=hc i hi;rw[Z7] at f;exact f
theorem Za8{B:List (Nat × Nat)}{m:Option Addr}{d:Array YK}(h:ZbV W f l u B m d):B.length=0\/∃g o,m=some ⟨g,o,none⟩/\JbR W g o B.length f B (fun k=>(adjN f B (dT0 f B u) B.length)[k]!.d) (YR f B):=by
 rcases h.jobs with h0|⟨g,e,hj⟩
 .exact .inl (by rw[<-h.sz];exact h0)
 refine .inr ⟨g,0,e,hj.lt,fun k hk=>?_⟩;obtain⟨⟨c0,c1,c2,c3,c4⟩,_,_⟩:=hj.cell (i:=k) (by rw[h.sz];exact hk);obtain⟨j,A,G,C⟩:=h.from_;have D:Qx j d:=by rw[C];exact(JU f B u f.tells j).trans (Qr f B _ B.length)
 obtain⟨q,v,x,_⟩:=D.2 k;obtain⟨f1,y,z,_⟩:=A k hk;obtain⟨E,F⟩:=h.needs k hk;rw[q,f1] at c0;rw[v,y] at c1;rw[x,z] at c2;rw[Zgh h k] at c3;rw[E] at c4;exact⟨c0,c1,c2,c3,_,_,c4,ZdK F⟩
theorem jO{f:FD}{u:Int}(g:Vj f)(j:0<=u/\u<100):∀i,i<=f.tasks.length->QF f u i<=i*100
 | 0,_=>by simp[QF]
 | i+1,h=>by
  rw[UE];have h1:=jO g j i oq;have h2:=g i oq;have h3:=xy (u:=u) h2.1 h2.2.2.1;have h4:Qu f u i<=100:=by unfold Qu;omega
  omega
def gS(f:FD)(l:List Int)(u:Int)(x:Ending)(w':World):Prop:=∃B ja cj,x=.returned (.tuple #[.slice ja B.length cj,.int .i64 0])/\Xg f l u B/\(B.length=0\/∃g o,ja=some ⟨g,o,none⟩/\JbR w' g o B.length f B (fun k=>(adjN f B (dT0 f B u) B.length)[k]!.d) (YR f B))
theorem Za9(h:V8 f u x w')(j:Y3 f=true)(m:0<=u/\u<100)(g:ofP f=none):x=.returned (.tuple #[.slice none 0 0,.int .i64 6]):=by
 unfold V8 at h;rw[Z1 ⟨j,oq,oq⟩,g] at h;exact h
theorem ZcU(h:V8 f u x w')(m:Y3 f=true)(y:0<=u/\u<100)(v:ofP f=some l):gS f l u x w':=by
 unfold V8 at h;rw[Z1 ⟨m,oq,oq⟩,v] at h;have j:=Uh m;have D:=jO j.clk y f.tasks.length (Zc _);have C:=j.few;simp only at h;rw[Z0 oq] at h;obtain⟨B,A,q,d,z,g⟩:=h;refine⟨B,A,q,?_,g.win,Za8 g⟩;rw[z,g.sz]
theorem ZcT{w:World}(p0 p1 p2 p3:Option Addr)(n0 n1 n2 n3 c0 c1 c2 c3:Nat)
  (hM:∀W,RowKit.Below w.1.size w W->Calls prog 9 #[.agg #[.slice p0 n0 c0,.slice p1 n1 c1,.slice p2 n2 c2,.slice p3 n3 c3]] W fun x w'=>MdR x w'/\RowKit.Below W.1.size W w')
  (hA:∀W,Calls prog 17 #[] W fun x w'=>x=.returned (.bool true)/\RowKit.Below W.1.size W w')(un:Nat)(bb:un<=255) :
  Calls prog 4 #[.agg #[.slice p0 n0 c0,.slice p1 n1 c1,.slice p2 n2 c2,.slice p3 n3 c3],.int .u8 (un:Int)] w fun x w'=>x=.returned (.bool true)/\RowKit.Below w.1.size w w':=by
 have HM:=hid hM;have ac:=hid hA;clear hM hA;obtain⟨W1,T⟩:=ez (w.alloc (.cells #[.slice p0 n0 c0,.slice p1 n1 c1,.slice p2 n2 c2,.slice p3 n3 c3] 27));have R:RowKit.Below w.1.size w W1:=by rw[<-T];exact bq
 have ah:W1.1[w.1.size]?=some (.cells #[.slice p0 n0 c0,.slice p1 n1 c1,.slice p2 n2 c2,.slice p3 n3 c3] 27 (0,0)):=by rw[<-T];exact Yx w _
 have ax:=Zb ah;have HB:=hid R;have HQ:=hid ah;clear R ah;obtain⟨u,hu⟩:=ez (un%100);have bu:u<100:=oq;have ra:(un:Int).tmod 100=(u:Int):=by rw[Int.tmod_eq_emod_of_nonneg oq];omega
 have wa:IntKind.u8.wrap (u:Int)=(u:Int):=by unfold IntKind.wrap;simp[IntKind.signed,IntKind.bits];omega
 have xa:IntKind.i64.wrap (u:Int)=(u:Int):=ZK _ oq;clear hu;go_enter func4,ntmps4;go_upto_region 1 with fail
 first|rw[T]|skip
 clear T;go_upto_region 6 with (first
  | (go_at_call 17;refine(ac.o _).mono ?_;rintro x w2 ⟨rfl,hb2⟩;have HB2:=hid (HB.o.trans (hb2.mono HB.o.size));have az:=hb2.size;obtain⟨⟨x0,x1,x2,x3⟩,xf⟩:=Yy ((hb2.block _ ax).trans HQ.o);clear hb2)
  | (go_at_call 9;refine(HM.o _ HB2.o).mono ?_;rintro x w4 ⟨ap,hb4⟩;have HB4:=hid (HB2.o.trans (hb4.mono HB2.o.size));have ba:=hb4.size;clear hb4;rcases ap with rfl|⟨f,ai,an,aT,al,ci,cn,ct,cl,rfl,hf4,hri4⟩<;>(try (have af:=hid hf4;have F:=hid hri4;clear hf4 hri4;unfold fv))))
 .exact Zl (v:=.bool true) (by simp only[results,results4];go_simp) rfl ⟨rfl,bq⟩
 obtain⟨L,H⟩:=ez (w4.alloc (.cells #[.slice ai f.ins.length ci,.slice an f.nods.length cn,.slice aT f.tasks.length ct,.slice al f.tells.length cl] 35));have D:L.1[w4.1.size]?=some (.cells #[.slice ai f.ins.length ci,.slice an f.nods.length cn,.slice aT f.tasks.length ct,.slice al f.tells.length cl] 35 (0,0)):=by rw[<-H];exact Yx w4 _
 have hb5:RowKit.Below w4.1.size w4 L:=by rw[<-H];exact bq
 have HB5:=hid (HB4.o.trans (hb5.mono HB4.o.size));have M:=hid (af.o.below hb5);obtain⟨fb,J⟩:=ez w4.1.size;rw[J] at D;have U:fb<L.1.size:=Zb D;have O:=hid D;have ay:=hid J;obtain⟨⟨y0,y1,y2,y3⟩,yf⟩:=Yy D;have q:=ZaP (w:=L) f ai an aT al ci cn ct cl M.o (u:Int);have j:=hid (fun(W:World) (hb:Below L.1.size L W)=>Zac (w:=W) f ai an aT al ci cn ct cl (M.o.below hb));rw[yI F.o] at j;unfold fv at j q;rw[H]
 try rw[J]
 cases ho:ofP f with
 | none =>
  rw[ho] at j;simp only[xc] at j;have HJ:=hid (q.mono (fun x w' h=>Zh (Za9 h.1 F.o oq ho) h.2));clear H D hb5 x0 x1 x2 x3 xf HM ac HQ af J q ho;go_wp2_with (first
   | (go_at_call 18;refine HJ.o.mono ?_;rintro x w6 ⟨rfl,hb6⟩;have HB6:=hid hb6;obtain⟨⟨y0,y1,y2,y3⟩,yf⟩:=Yy ((hb6.block _ U).trans O.o);clear hb6)
   | (go_at_call 12;refine(j.o _ HB6.o).mono ?_;rintro x w8 ⟨rfl,C⟩;have A:=hid (HB6.o.trans (C.mono HB6.o.size));clear C))
  go_ret;exact⟨rfl,HB5.o.trans (A.o.mono HB5.o.size)⟩
 | some l =>
  rw[ho] at j;simp only[xc] at j;have HJ:=hid (q.mono (fun x w' h=>Zh (ZcU h.1 F.o oq ho) h.2));unfold gS at HJ;have m:=Uh F.o;have y:=JQ ho;have aa:∀t∈f.tasks,t.per≠0:=by
   intro t ht;obtain⟨i,hi,rfl⟩:=Yl ht;rw[Vy hi];have:=(m.clk i hi).1;omega
  have am:=hid (fun(W:World) (hb:Below L.1.size L W)=>Zcw f ai an aT al ci cn ct cl M.o hb (u:Int) aa);have aj:=hid (fun(W:World) (hb:Below L.1.size L W) (B:List (Nat × Nat)) (R:Xg f l (u:Int) B)=>Zaw f ai an aT al ci cn ct cl M.o F.o hb l ho u oq R (Ef R y m.clk m.few oq));have ao:=hid (fun(B:List (Nat × Nat)) (R:Xg f l (u:Int) B)=>(Zh (Ef R y m.clk m.few (show(u:Int)<=20000 by omega)) (fun(k:Nat) (hk:k<B.length)=>(show(YR f B k).length<=1000000 by rw[<-Gh R y m hk];exact Zm (Kq f B k _) (Ef R y m.clk m.few (show(u:Int)<=20000 by omega))))));unfold fv at am aj;clear H D hb5 x0 x1 x2 x3 xf HM ac HQ af J q ho m y aa;go_upto_region 11 with (first
   | (go_at_call 18;refine HJ.o.mono ?_;rintro x w6 ⟨⟨B,ja,cj,rfl,ab,ar⟩,hb6⟩;have av:=hid ar;have G:=hid ab;have HB6:=hid hb6;obtain⟨⟨y0,y1,y2,y3⟩,yf⟩:=Yy ((hb6.block _ U).trans O.o);clear hb6 ar ab)
   | (go_at_call 12;refine(j.o _ HB6.o).mono ?_;rintro x w8 ⟨⟨vo,rfl,_⟩,C⟩;have X:=hid C;have A:=hid (HB6.o.trans (C.mono HB6.o.size));obtain⟨⟨y0,y1,y2,y3⟩,yf⟩:=Yy ((A.o.block _ U).trans O.o);clear C))
  have aw:=hid (fun(W:World) (hb:Below w6.1.size w6 W) (a2:Option Addr) (c2:Nat) (h2:B.length=0\/∃g o,a2=some ⟨g,o,none⟩/\JbR W g o B.length f B (fun k=>(adjN f B (dT0 f B (u:Int)) B.length)[k]!.d) (YR f B))=>gA (W:=W) f B B.length (fun k=>(adjN f B (dT0 f B (u:Int)) B.length)[k]!.d) (YR f B) ja a2 cj c2 (ao.o B G.o).1 (ao.o B G.o).2 (av.o.imp id (fun ⟨g,o,e,h⟩=>⟨g,o,e,h.below hb⟩)) h2);clear HJ j;go_upto_region 13 with (first
   | (go_at_call 19;refine(am.o _ A.o).mono ?_;rintro x w9 ⟨⟨z,rfl⟩,ag⟩;have Y:=hid (X.o.trans (ag.mono X.o.size));have E:=hid (A.o.trans (ag.mono A.o.size));obtain⟨⟨y0,y1,y2,y3⟩,yf⟩:=Yy ((E.o.block _ U).trans O.o);clear ag))
  .go_ret;exact⟨rfl,HB5.o.trans (E.o.mono HB5.o.size)⟩
  go_wp2_with (first
   | (go_at_call 21;refine(aj.o _ E.o B G.o).mono ?_;rintro x bc ⟨a2,c2,rfl,aq,I⟩;have V:=hid (E.o.trans (I.mono E.o.size));have ae:=hid (Y.o.trans (I.mono Y.o.size));have au:=hid aq;clear aq I)
   | (go_at_call 20;refine(aw.o _ ae.o a2 c2 (au.o.imp id (fun ⟨g,e,h⟩=>⟨g,0,e,h⟩))).mono ?_;rintro x bd ⟨rfl,Z⟩;have ak:=hid (V.o.trans (Z.mono V.o.size));clear Z))
  go_ret;exact⟨rfl,HB5.o.trans (ak.o.mono HB5.o.size)⟩
end Go.Proofs.YtdgifkjaflfdeaaGreatDoor.syn
namespace Go.Proofs.YtdgifkjaflfdeaaGreatDoor.deadlineJobs
open Go.Proofs.Tryz
theorem jf1:(Rows.deadlineJobsRow.inPlace == Tryz.pinned.checked.prog.inPlace 4)=true:=by kernel_rfl
theorem jf2:(Rows.deadlineJobsRow.unfollowed == Tryz.pinned.checked.prog.unfollowed 4)=true:=by kernel_rfl
theorem jf3:(Rows.deadlineJobsRow.recurses == Tryz.pinned.checked.prog.recurses 4)=true:=by kernel_rfl
theorem jf4:(Rows.deadlineJobsRow.named == Tryz.pinned.checked.prog.varsNamed 4)=true:=by kernel_rfl
theorem jf:joinedFacts Tryz.pinned.checked.prog 4 Tryz.f4 Rows.deadlineJobsSpec Rows.deadlineJobsRow=true:=by
 unfold joinedFacts;rw[jf1,jf2,jf3,jf4]
 kernel_rfl
