/- Parts of the proof. -/
import Derived.Sort.OwnSortedInts
import Derived.Test.YtgigilkpndhddaaGreatDoorV01
import Derived.Test.YtgigilkpndhddaaGreatDoorV08
import Derived.Test.YtgigilkpndhddaaGreatDoorV16
set_option linter.all false
set_option maxRecDepth 100000
set_option maxHeartbeats 16000000
namespace Go.Proofs.YtgigilkpndhddaaGreatDoor.syn
open Tryz
open Go.RowKit Go.Shelf
theorem yq{w:World}(n:Int):Calls prog 59 #[.int .i64 n] w fun x w'=>x=.returned (.bool (decide (1≤n∧n≤1000)))∧w=w':=by
 by_cases f:1≤n
 ·by_cases g:n≤1000
  ·rw[Z0 (Zh f g)];go_enter func59,ntmps59;go_wp2;go_ret;exact⟨rfl,rfl⟩
  rw[ZZ (fun h=>g h.2)];go_enter func59,ntmps59;go_wp2;go_ret;exact⟨rfl,rfl⟩
 rw[ZZ (fun h=>f h.1)];go_enter func59,ntmps59;go_wp2;go_ret;exact⟨rfl,rfl⟩
theorem Zck{w:World}{l:List Op3}{f:Option Addr}(h:Row OpR 3 w l f):∀k,k<l.length→∃b off,f=some ⟨b,off,none⟩∧b<w.heap.size∧w.cell? ⟨b,off+k*3,none⟩=some (.int .i64 (l.getD k (0,0,0)).1)∧w.cell? ⟨b,off+k*3+1,none⟩=some (.int .i64 (l.getD k (0,0,0)).2.1)∧w.cell? ⟨b,off+k*3+2,none⟩=some (.int .i64 (l.getD k (0,0,0)).2.2):=by
 intro k g;obtain⟨b,o,e,hb,j,m,q⟩:=h.at g;have v:l.getD k (0,0,0)=l[k]:=by rw[Zf,Ze g];rfl
 rw[v];exact⟨b,o,e,hb,j,m,q⟩
theorem Za4{w:World}(p f:Int)(l:List Op3)(j:Option Addr)(cap:Nat)(h:Row OpR 3 w l j)(m:l.length≤1000):
  Calls prog 106 #[.agg #[.int .i64 p,.int .i64 f],.slice j l.length cap] w fun x w'=>x=.returned (clock.yz (clock.Ur p f l))∧Below w.heap.size w w':=by
 unfold clock.Ur;by_cases g:1≤p∧p≤2000∧0≤f∧f≤2000
 ·rw[Z2 (clock.YQ g)];exact clock.Zdh p f j cap l w g oq (Zck h)
 rw[Z1 (by rw[clock.Q5 g];simp)];exact clock.gT p f _ w g
def X2(f:FD)(a:AD)(cp cf:Int):Bool:=match XR f a.src with
 | none=>false
 | some s=>decide (a.ops.length≤20)&&(decide ((clock.Ur s.1 s.2 a.ops).2.2=0)&&(decide ((clock.Ur s.1 s.2 a.ops).1=cp)&&decide ((clock.Ur s.1 s.2 a.ops).2.1=cf)))
theorem zH{w:World}(f:FD)(U an R V:Option Addr)(ci cn ct cl:Nat)(hf:FAP w f U an R V)(a:AD)(T:Option Addr)(cap:Nat)(J I:Int)(ae:I64 a.src)(hr:Row OpR 3 w a.ops T)(hl:a.ops.length≤1000):
  Calls prog 61 #[fv f U an R V ci cn ct cl,.agg #[.int .i64 a.src,.slice T a.ops.length cap],.agg #[.int .i64 J,.int .i64 I]] w fun x w'=>x=.returned (.bool (X2 f a J I))∧Below w.heap.size w w':=by
 have D:=hid (fun(w':World)(hb:Below w.heap.size w w')=>Uy (w:=w') f U an R V ci cn ct cl (hf.below hb) a.src ae);have HA:=hid (fun(w':World)(hb:Below w.heap.size w w') p q=>Za4 (w:=w') p q a.ops T cap (hr.below J8 hb) hl);obtain⟨ak,g⟩:=ez (X2 f a J I);rw[g];unfold X2 at g;clear hf hr ae;unfold fv at *;go_enter func61,ntmps61;go_upto_region 1 with fail
 obtain⟨C,z⟩:∃C,((w.alloc (.cells #[.slice U f.ins.length ci,.slice an f.nods.length cn,.slice R f.tasks.length ct,.slice V f.tells.length cl] 34)).alloc (.cells #[.int .i64 a.src,.slice T a.ops.length cap] 69)).alloc (.cells #[.int .i64 J,.int .i64 I] 62)=C:=⟨_,rfl⟩;rw[z];have hB:Below w.heap.size w C:=by rw[←z];exact bq
 have L:w.heap.size+1+1<C.heap.size:=by rw[←z];simp
 have af:C.heap[w.heap.size]?=some (.cells #[.slice U f.ins.length ci,.slice an f.nods.length cn,.slice R f.tasks.length ct,.slice V f.tells.length cl] 34 (0,0)):=by rw[←z];exact(Za _ _ _ (by simp;omega)).trans ((Za _ _ _ (by simp)).trans (Yw w _))
 have X:C.heap[w.heap.size+1]?=some (.cells #[.int .i64 a.src,.slice T a.ops.length cap] 69 (0,0)):=by rw[←z];have:=(Za _ (.cells #[.int .i64 J,.int .i64 I] 62) _ (by simp)).trans (Yw (w.alloc (.cells #[.slice U f.ins.length ci,.slice an f.nods.length cn,.slice R f.tasks.length ct,.slice V f.tells.length cl] 34)) (.cells #[.int .i64 a.src,.slice T a.ops.length cap] 69));simpa using this
 have ag:C.heap[w.heap.size+1+1]?=some (.cells #[.int .i64 J,.int .i64 I] 62 (0,0)):=by rw[←z];have:=Yw ((w.alloc (.cells #[.slice U f.ins.length ci,.slice an f.nods.length cn,.slice R f.tasks.length ct,.slice V f.tells.length cl] 34)).alloc (.cells #[.int .i64 a.src,.slice T a.ops.length cap] 69)) (.cells #[.int .i64 J,.int .i64 I] 62);simpa using this
 obtain⟨⟨x0,x1,x2,x3⟩,xf⟩:=Yx af;obtain⟨⟨q0,q1⟩,qf⟩:=YD X;have HB:=hid hB;have E:=hid X;have H:=hid ag;have F:w.heap.size+1<C.heap.size:=oq;clear z hB af X ag
 cases hs:XR f a.src with
 | none =>
  rw[hs]at D g;simp only at g;subst g;unfold VO at D;simp only[Option.getD_none,Option.isSome_none]at D;go_wp2_with (go_at_call 76;refine(D.out _ HB.out).mono ?_;rintro x j ⟨rfl,hb3⟩;have G:C.heap.size≤j.heap.size:=hb3.size);exact Zl (v:=.bool false) (by simp only[results,results61];go_simp) rfl ⟨rfl,bq⟩
 | some s =>
  obtain⟨sp,sf⟩:=s;rw[hs]at D g;simp only at g;unfold VO at D;simp only[Z9,Option.isSome_some]at D;by_cases ab:a.ops.length≤20
  ·have ac:¬(a.ops.length:Int) > 20:=oq;obtain⟨⟨rp,rf,re⟩,ah⟩:=ez (clock.Ur sp sf a.ops);have m:=hid (fun(w':World)(hb:Below w.heap.size w w')=>HA.out w' hb sp sf);rw[ah]at m g;unfold clock.yz clock.Km at m;simp only at m g;rw[Z0 ab,Bool.true_and]at g;clear HA ah hs;by_cases Y:re=0
   ·subst Y;rw[Z0 rfl,Bool.true_and]at g;by_cases h1:rp=J
    ·subst h1;rw[Z0 rfl,Bool.true_and]at g;by_cases h2:rf=I
     ·subst h2;rw[Z0 rfl]at g;subst g;go_wp2_with (first|(go_at_call 76;refine(D.out _ HB.out).mono ?_;rintro x j ⟨rfl,hb3⟩;have G:C.heap.size≤j.heap.size:=hb3.size;obtain⟨⟨r0,r1⟩,O⟩:=YD ((hb3.block _ F).trans E.out);have k3:w.heap.size+1<j.heap.size:=oq;have M:¬w.heap.size+1=j.heap.size:=oq;have HB3:=hid hb3)|(go_at_call 106;refine(m.out _ bq).mono ?_;rintro x A ⟨rfl,hb4⟩;have Z:j.heap.size<A.heap.size:=(by have h:=hb4.size;simp at h;omega);have y:=hid ((hb4.block (w.heap.size+1+1) (by simp;omega)).trans ((Za _ _ _ oq).trans ((HB3.out.block _ L).trans H.out)));obtain⟨⟨t0,t1⟩,tf⟩:=YD y.out;have k4:w.heap.size+1+1<A.heap.size:=oq;have aa:¬w.heap.size+1+1=A.heap.size:=oq));exact Zl (v:=.bool true) (by simp only[results,results61];go_simp) rfl ⟨rfl,bq⟩
     rw[ZZ h2]at g;subst g;have ao:(rf == I)=false:=ZY.2 h2;go_wp2_with (first|(go_at_call 76;refine(D.out _ HB.out).mono ?_;rintro x j ⟨rfl,hb3⟩;have G:C.heap.size≤j.heap.size:=hb3.size;obtain⟨⟨r0,r1⟩,O⟩:=YD ((hb3.block _ F).trans E.out);have k3:w.heap.size+1<j.heap.size:=oq;have M:¬w.heap.size+1=j.heap.size:=oq;have HB3:=hid hb3)|(go_at_call 106;refine(m.out _ bq).mono ?_;rintro x A ⟨rfl,hb4⟩;have Z:j.heap.size<A.heap.size:=(by have h:=hb4.size;simp at h;omega);have y:=hid ((hb4.block (w.heap.size+1+1) (by simp;omega)).trans ((Za _ _ _ oq).trans ((HB3.out.block _ L).trans H.out)));obtain⟨⟨t0,t1⟩,tf⟩:=YD y.out;have k4:w.heap.size+1+1<A.heap.size:=oq;have aa:¬w.heap.size+1+1=A.heap.size:=oq));exact Zl (v:=.bool false) (by simp only[results,results61];go_simp) rfl ⟨rfl,bq⟩
    rw[ZZ h1,Bool.false_and]at g;subst g;have am:(rp == J)=false:=ZY.2 h1;go_wp2_with (first|(go_at_call 76;refine(D.out _ HB.out).mono ?_;rintro x j ⟨rfl,hb3⟩;have G:C.heap.size≤j.heap.size:=hb3.size;obtain⟨⟨r0,r1⟩,O⟩:=YD ((hb3.block _ F).trans E.out);have k3:w.heap.size+1<j.heap.size:=oq;have M:¬w.heap.size+1=j.heap.size:=oq;have HB3:=hid hb3)|(go_at_call 106;refine(m.out _ bq).mono ?_;rintro x A ⟨rfl,hb4⟩;have Z:j.heap.size<A.heap.size:=(by have h:=hb4.size;simp at h;omega);have y:=hid ((hb4.block (w.heap.size+1+1) (by simp;omega)).trans ((Za _ _ _ oq).trans ((HB3.out.block _ L).trans H.out)));obtain⟨⟨t0,t1⟩,tf⟩:=YD y.out;have k4:w.heap.size+1+1<A.heap.size:=oq;have aa:¬w.heap.size+1+1=A.heap.size:=oq));exact Zl (v:=.bool false) (by simp only[results,results61];go_simp) rfl ⟨rfl,bq⟩
   rw[ZZ Y,Bool.false_and]at g;subst g;have aj:(re == 0)=false:=ZY.2 Y;go_wp2_with (first|(go_at_call 76;refine(D.out _ HB.out).mono ?_;rintro x j ⟨rfl,hb3⟩;have G:C.heap.size≤j.heap.size:=hb3.size;obtain⟨⟨r0,r1⟩,O⟩:=YD ((hb3.block _ F).trans E.out);have k3:w.heap.size+1<j.heap.size:=oq;have M:¬w.heap.size+1=j.heap.size:=oq;have HB3:=hid hb3)|(go_at_call 106;refine(m.out _ bq).mono ?_;rintro x A ⟨rfl,hb4⟩;have Z:j.heap.size<A.heap.size:=(by have h:=hb4.size;simp at h;omega);have y:=hid ((hb4.block (w.heap.size+1+1) (by simp;omega)).trans ((Za _ _ _ oq).trans ((HB3.out.block _ L).trans H.out)));obtain⟨⟨t0,t1⟩,tf⟩:=YD y.out;have k4:w.heap.size+1+1<A.heap.size:=oq;have aa:¬w.heap.size+1+1=A.heap.size:=oq));exact Zl (v:=.bool false) (by simp only[results,results61];go_simp) rfl ⟨rfl,bq⟩
  have ac:(a.ops.length:Int) > 20:=oq;rw[ZZ ab,Bool.false_and]at g;subst g;go_wp2_with (go_at_call 76;refine(D.out _ HB.out).mono ?_;rintro x j ⟨rfl,hb3⟩;have G:C.heap.size≤j.heap.size:=hb3.size;obtain⟨⟨r0,r1⟩,O⟩:=YD ((hb3.block _ F).trans E.out);have k3:w.heap.size+1<j.heap.size:=oq;have M:¬w.heap.size+1=j.heap.size:=oq);exact Zl (v:=.bool false) (by simp only[results,results61];go_simp) rfl ⟨rfl,bq⟩
def JE(f:FD)(t:TD):Bool:=match (if t.node<0 then none else f.nods[t.node.toNat]?) with
 | none=>false
 | some n=>decide (t.args.length≠0)&&(decide (t.args.length=n.nps)&&t.args.all (fun a=>X2 f a t.per t.ph))
theorem zw{α:Type}{f:α→Bool}{l:List α}{j:Nat}(h:j<l.length):(l.take (j+1)).all f=((l.take j).all f&&f l[j]):=by
 rw[Zv h,List.all_append];simp only[List.all_cons,List.all_nil,Bool.and_true]
theorem K1{f:FD}{t:TD}(h:t.node<0∨(f.nods.length:Int)≤t.node):JE f t=false:=by
 unfold JE;rcases h with h|h
 ·rw[Z2 h]
 by_cases g:t.node<0
 ·rw[Z2 g]
 rw[Z1 g,Yc oq]
theorem yp{f:FD}{t:TD}{k:Nat}(g:k<f.nods.length)(h:t.node=(k:Int)):JE f t=(decide (t.args.length≠0)&&(decide (t.args.length=f.nods[k].nps)&&t.args.all (fun a=>X2 f a t.per t.ph))):=by
 unfold JE;rw[h,Z1 oq,ZQ,Ze g]
theorem zo{w:World}(f:FD)(X an V Y:Option Addr)(ci cn ct cl:Nat)(hf:FAP w f X an V Y)(t:TD)(ad:Option Addr)(cap:Nat)(hr:Row xG 2 w t.args ad)(hl:t.args.length≤1000)(ha:∀a∈t.args,a.ops.length≤1000∧I64 a.src):
  Calls prog 60 #[fv f X an V Y ci cn ct cl,.agg #[.int .i64 t.node,.int .i64 t.per,.int .i64 t.ph,.slice ad t.args.length cap]] w fun x w'=>x=.returned (.bool (JE f t))∧Below w.heap.size w w':=by
 have aq:=hf.lens;have ab:=hid (fun(w':World)(hb:Below w.heap.size w w')(a:AD) I D (hra:Row OpR 3 w' a.ops I) (Z:a.ops.length≤1000∧I64 a.src)=>zH (w:=w') f X an V Y ci cn ct cl (hf.below hb) a I D t.per t.ph Z.2 hra Z.1);have ae:=hid hf.nods;have HR:=hid hr;have HA:=hid ha;obtain⟨m,g⟩:=ez (JE f t);rw[g];obtain⟨J,R⟩:=ez t.node;have C:=hid R;rw[R];clear hf hr ha R;unfold fv at *;go_enter func60,ntmps60;go_upto_region 1 with fail
 obtain⟨H,y⟩:∃H,(w.alloc (.cells #[.slice X f.ins.length ci,.slice an f.nods.length cn,.slice V f.tasks.length ct,.slice Y f.tells.length cl] 34)).alloc (.cells #[.int .i64 J,.int .i64 t.per,.int .i64 t.ph,.slice ad t.args.length cap] 65)=H:=⟨_,rfl⟩;rw[y];have hB:Below w.heap.size w H:=by rw[←y];exact bq
 have ar:w.heap.size+1<H.heap.size:=by rw[←y];simp
 have T:H.heap[w.heap.size]?=some (.cells #[.slice X f.ins.length ci,.slice an f.nods.length cn,.slice V f.tasks.length ct,.slice Y f.tells.length cl] 34 (0,0)):=by rw[←y];exact(Za _ _ _ (by simp)).trans (Yw w _)
 have U:H.heap[w.heap.size+1]?=some (.cells #[.int .i64 J,.int .i64 t.per,.int .i64 t.ph,.slice ad t.args.length cap] 65 (0,0)):=by rw[←y];simpa using Yw (w.alloc (.cells #[.slice X f.ins.length ci,.slice an f.nods.length cn,.slice V f.tasks.length ct,.slice Y f.tells.length cl] 34)) (.cells #[.int .i64 J,.int .i64 t.per,.int .i64 t.ph,.slice ad t.args.length cap] 65)
 obtain⟨⟨x0,x1,x2,x3⟩,xf⟩:=Yx T;obtain⟨⟨q0,q1,q2,q3⟩,qf⟩:=Yx U;have HB:=hid hB;have af:=hid T;have ag:=hid U;have ap:w.heap.size<H.heap.size:=oq;clear y hB T U;by_cases h0:J<0
 ·obtain rfl:m=false:=g.symm.trans (K1 (.inl (by rw[C.out];exact h0)));clear g;go_wp2;exact Zl (v:=.bool false) (by simp only[results,results60];go_simp) rfl ⟨rfl,bq⟩
 by_cases Z:(f.nods.length:Int)≤J
 ·obtain rfl:m=false:=g.symm.trans (K1 (.inr (by rw[C.out];exact Z)));have ah:J≥(f.nods.length:Int):=Z;clear g;go_wp2;exact Zl (v:=.bool false) (by simp only[results,results60];go_simp) rfl ⟨rfl,bq⟩
 have ah:¬J≥(f.nods.length:Int):=Z;obtain⟨k,rfl⟩:∃k:Nat,J=(k:Int):=⟨J.toNat,oq⟩;have hk:k<f.nods.length:=oq;have ay:(0:Int)≤(k:Int):=oq;have az:(k:Int)<(f.nods.length:Int):=oq;rw[yp hk C.out]at g;obtain⟨b,o,rfl,hb,nm,pa,pc,k9,bc,n2,d2,ea,el,ec,a2,a9,_,y1,_⟩:=ae.out.at hk;obtain⟨np,aa⟩:=ez (f.nods[k].nps);rw[aa]at y1 g;have y2:=(HB.out.cell (p:=⟨b,o+k*10+1,none⟩) hb).trans y1;clear y1 aa;by_cases h2:t.args.length=0
 ·obtain rfl:m=false:=by rw[←g,ZZ (fun h=>h h2),Bool.false_and]
  have aj:((t.args.length:Int) == 0)=true:=by rw[h2];rfl
  have ak:(t.args.length:Int)=0:=oq;clear g;go_wp2;go_quiet (fail);go_wp2;exact Zl (v:=.bool false) (by simp only[results,results60];go_simp) rfl ⟨rfl,bq⟩
 rw[Z0 h2,Bool.true_and]at g;have aj:((t.args.length:Int) == 0)=false:=ZY.2 oq;have ak:¬(t.args.length:Int)=0:=oq;by_cases h3:t.args.length=np
 ·rw[Z0 h3,Bool.true_and]at g;subst h3;have am:((t.args.length:Int) != (t.args.length:Int))=false:=by simp
  have j:=hid g;clear g;go_wp2;go_quiet (fail);go_wp2;go_loopw [39] (fun s39 wr=>Hid (∃i:Nat,s39=.int .i64 (i:Int)∧i≤t.args.length∧(t.args.take i).all (fun a=>X2 f a t.per t.ph)=true∧Below H.heap.size H wr)) (fun s39 _=>t.args.length-(intOf s39).toNat)
  case atStart=>exact⟨0,rfl,Zk _,by simp,bq⟩
  obtain⟨i,rfl,hi,M,A⟩:=hrel.out;clear hrel x0 x1 x2 x3 xf q0 q1 q2 q3 qf y2;have ba:=A.size;have HBW:=hid A;have L:=hid M;have HWW:=hid (HB.out.trans (A.mono oq));obtain⟨⟨x0,x1,x2,x3⟩,xf⟩:=Yx ((A.block _ ap).trans af.out);obtain⟨⟨q0,q1,q2,q3⟩,qf⟩:=Yx ((A.block _ ar).trans ag.out);have aw:w.heap.size<wr.heap.size:=oq;have ax:w.heap.size+1<wr.heap.size:=oq;clear M A;by_cases F:i<t.args.length
  ·have ao:(i:Int)<(t.args.length:Int):=oq;have av:(0:Int)≤(i:Int):=oq;obtain⟨bb,oo,rfl,O,g0,I,D,g1,G⟩:=HR.out.at F;have hA:=HA.out _ (Zi F);obtain⟨⟨src,ops⟩,z⟩:=ez (t.args[i]);rw[z]at g0 g1 G hA;simp only at g0 g1 G hA;have y0:=(HWW.out.cell (p:=⟨bb,oo+i*2,none⟩) O).trans g0;have y1:=(HWW.out.cell (p:=⟨bb,oo+i*2+1,none⟩) O).trans g1;have q:=fun(w':World)(hb:Below w.heap.size w w')=>ab.out w' hb ⟨src,ops⟩ I D (G.below J8 hb) hA
   have au:=hid z;have E:=zw (f:=fun a=>X2 f a t.per t.ph) F;rw[z,L.out,Bool.true_and]at E
   cases hfit:X2 f ⟨src,ops⟩ t.per t.ph with
   | true =>
    rw[hfit]at q E;have HC:=hid q;have ac:=hid E;clear g0 g1 G hA z q hfit E;go_wp2_with (go_at_call 61;refine(HC.out _ bq).mono ?_;rintro x w6 ⟨rfl,hb6⟩);exact⟨hid ⟨i+1,by go_num,F,ac.out,bq⟩,by simp[intOf];omega⟩
   | false =>
    rw[hfit]at q;have HC:=hid q;obtain rfl:m=false:=by
     rw[←j.out];refine Bool.eq_false_iff.2 (fun h=>?_);have:=List.all_eq_true.1 h _ (Zi F);rw[z,hfit]at this
     cases this
    clear g0 g1 G hA z q hfit E j;go_wp2_with (go_at_call 61;refine(HC.out _ bq).mono ?_;rintro x w6 ⟨rfl,hb6⟩);exact Zl (v:=.bool false) (by simp only[results,results60];go_simp) rfl ⟨rfl,bq⟩
  have ao:¬(i:Int)<(t.args.length:Int):=oq;obtain rfl:m=true:=by
   rw[←j.out,←L.out,List.take_of_length_le oq]
  clear j;go_wp2;exact Zl (v:=.bool true) (by simp only[results,results60];go_simp) rfl ⟨rfl,bq⟩
 obtain rfl:m=false:=by rw[←g,ZZ h3,Bool.false_and]
 have am:((t.args.length:Int) != (np:Int))=true:=bne_iff_ne.2 oq;clear g;go_wp2;go_quiet (fail);go_wp2;exact Zl (v:=.bool false) (by simp only[results,results60];go_simp) rfl ⟨rfl,bq⟩
def Vu(n:Int):Bool:=decide (1≤n∧n≤1000)
def K2(f:FD)(t:LD):Bool:=Vu t.dl&&X2 f t.arg t.per t.ph
def Xp(f:FD):Bool:=f.ins.all (fun c=>clock.YF c.1 c.2)&&(f.nods.all (fun n=>Vu n.bud)&&(f.tasks.all (JE f)&&(f.tells.all (K2 f)&&decide (f.tasks.length≤30))))
theorem Zfx{f:FD}(h:f.ins.all (fun c=>clock.YF c.1 c.2)=false):Xp f=false:=by unfold Xp;rw[h];rfl
theorem Zd6{f:FD}(h:f.nods.all (fun n=>Vu n.bud)=false):Xp f=false:=by unfold Xp;rw[h,Bool.false_and,Bool.and_false]
theorem ZcE{f:FD}(h:f.tasks.all (JE f)=false):Xp f=false:=by unfold Xp;rw[h,Bool.false_and,Bool.and_false,Bool.and_false]
theorem jK{f:FD}(h:f.tells.all (K2 f)=false):Xp f=false:=by unfold Xp;rw[h,Bool.false_and,Bool.and_false,Bool.and_false,Bool.and_false]
theorem ZcD{f:FD}(g:f.ins.all (fun c=>clock.YF c.1 c.2)=true)(j:f.nods.all (fun n=>Vu n.bud)=true)(m:f.tasks.all (JE f)=true)(q:f.tells.all (K2 f)=true):Xp f=decide (f.tasks.length≤30):=by
 unfold Xp;rw[g,j,m,q,Bool.true_and,Bool.true_and,Bool.true_and,Bool.true_and]
theorem GX{α:Type}{p:α→Bool}{l:List α}{i:Nat}(hi:i<l.length){x:α}(f:l[i]=x)(h:p x=false):l.all p=false:=by
 refine Bool.eq_false_iff.2 (fun h2=>?_);have:=List.all_eq_true.1 h2 _ (Zi hi);rw[f,h]at this
 cases this
theorem UO{α:Type}{p:α→Bool}{l:List α}{i:Nat}(hi:i<l.length){x:α}(f:l[i]=x)(h:p x=true)(ht:(l.take i).all p=true):(l.take (i+1)).all p=true:=by
 rw[zw hi,ht,f,h];rfl
theorem yM(p q:Int)(w:World):Calls prog 58 #[.agg #[.int .i64 p,.int .i64 q]] w fun e w'=>e=.returned (.bool (clock.YF p q))∧Below w.heap.size w w':=by
 by_cases h:1≤p∧p≤2000∧0≤q∧q≤2000
 ·rw[clock.YQ h];exact clock.Xv p q w h
 rw[clock.Q5 h];exact clock.Q4 p q w h
theorem Uf{w:World}(f:FD)(ai an aT al:Option Addr)(ci cn ct cl:Nat)(hf:FAP w f ai an aT al):
  Calls prog 21 #[fv f ai an aT al ci cn ct cl] w fun x w'=>x=.returned (.bool (Xp f))∧Below w.heap.size w w':=by
 have bd:=hf.lens;have av:=hid (fun(w':World)(hb:Below w.heap.size w w')(a:AD) J H cp cf (hra:Row OpR 3 w' a.ops J) (h1:a.ops.length≤1000∧I64 a.src)=>zH (w:=w') f ai an aT al ci cn ct cl (hf.below hb) a J H cp cf h1.2 hra h1.1);have ba:=hid (fun(w':World)(hb:Below w.heap.size w w')(t:TD) J H (hr:Row xG 2 w' t.args J) (ha:t.args.length≤1000∧∀a∈t.args,a.ops.length≤1000∧I64 a.src)=>zo (w:=w') f ai an aT al ci cn ct cl (hf.below hb) t J H hr ha.1 ha.2);have HF:=hid hf;obtain⟨R,Z⟩:=ez (Xp f);rw[Z];have z:=hid Z;clear hf Z;unfold fv at *;go_enter func21,ntmps21;go_upto_region 1 with fail
 obtain⟨X,ac⟩:=ez (w.alloc (.cells #[.slice ai f.ins.length ci,.slice an f.nods.length cn,.slice aT f.tasks.length ct,.slice al f.tells.length cl] 34));rw[ac];have hB:Below w.heap.size w X:=by rw[←ac];exact bq
 have af:X.heap[w.heap.size]?=some (.cells #[.slice ai f.ins.length ci,.slice an f.nods.length cn,.slice aT f.tasks.length ct,.slice al f.tells.length cl] 34 (0,0)):=by rw[←ac];exact Yw w _
 have ae:=Zb af;obtain⟨⟨x0,x1,x2,x3⟩,xf⟩:=Yx af;have HB:=hid hB;have ab:=hid af;clear ac hB af;have bc:=hid (Zg X.heap.size X);go_wp2;go_loopw [14] (fun s wr=>Hid (∃i:Nat,s=.int .i64 (i:Int)∧i≤f.ins.length∧(f.ins.take i).all (fun c=>clock.YF c.1 c.2)=true∧Below X.heap.size X wr)) (fun s _=>f.ins.length-(intOf s).toNat)
 case atStart=>exact⟨0,rfl,Zk _,by simp,bc.out⟩
 obtain⟨i,rfl,be,A,m⟩:=hrel.out;clear hrel x0 x1 x2 x3 xf;have ak:=m.size;have HBW:=hid m;have y:=hid A;have HWW:=hid (HB.out.trans (m.mono oq));obtain⟨⟨x0,x1,x2,x3⟩,xf⟩:=Yx ((m.block _ ae).trans ab.out);have aj:w.heap.size<wr.heap.size:=oq;clear A m;by_cases q:i<f.ins.length
 ·have T:(i:Int)<(f.ins.length:Int):=oq;have ah:(0:Int)≤(i:Int):=oq;obtain⟨E,G,rfl,g,I,F⟩:=HF.out.ins.at q;obtain⟨⟨cp,cf⟩,j⟩:=ez (f.ins[i]);rw[j]at I F;simp only at I F;have y0:=(HWW.out.cell (p:=⟨E,G+i*2,none⟩) g).trans I;have y1:=(HWW.out.cell (p:=⟨E,G+i*2+1,none⟩) g).trans F;have ag:=hid j;have M:=hid (fun w'=>yM cp cf w')
  cases hfit:clock.YF cp cf with
  | true =>
   rw[hfit]at M;have HK:=hid (UO (p:=(fun c=>clock.YF c.1 c.2)) q j hfit y.out);clear I F j hfit;go_wp2_with (go_at_call 58;refine(M.out _).mono ?_;rintro x w6 ⟨rfl,hb6⟩);exact⟨hid ⟨i+1,by go_num,q,HK.out,bq⟩,by simp[intOf];omega⟩
  | false =>
   rw[hfit]at M;obtain rfl:R=false:=z.out.symm.trans (Zfx (GX (p:=(fun c=>clock.YF c.1 c.2)) q j hfit));clear I F j hfit z;go_wp2_with (go_at_call 58;refine(M.out _).mono ?_;rintro x w6 ⟨rfl,hb6⟩);exact Zl (v:=.bool false) (by simp only[results,results21];go_simp) rfl ⟨rfl,bq⟩
 have T:¬(i:Int)<(f.ins.length:Int):=oq;have aw:=hid (show f.ins.all (fun c=>clock.YF c.1 c.2)=true by rw[←y.out,List.take_of_length_le oq]);obtain⟨W2,rfl⟩:=ey wr;have am:=hid HBW.out;clear HBW y HWW;go_wp2;go_loopw [25] (fun s wr=>Hid (∃i:Nat,s=.int .i64 (i:Int)∧i≤f.nods.length∧(f.nods.take i).all (fun n=>Vu n.bud)=true∧Below X.heap.size X wr)) (fun s _=>f.nods.length-(intOf s).toNat)
 case atStart=>exact⟨0,rfl,Zk _,by simp,am.out⟩
 obtain⟨i,rfl,bf,A,m⟩:=hrel.out;clear hrel x0 x1 x2 x3 xf;have ak:=m.size;have HBW:=hid m;have y:=hid A;have HWW:=hid (HB.out.trans (m.mono oq));obtain⟨⟨x0,x1,x2,x3⟩,xf⟩:=Yx ((m.block _ ae).trans ab.out);have aj:w.heap.size<wr.heap.size:=oq;clear A m;by_cases q:i<f.nods.length
 ·have T:(i:Int)<(f.nods.length:Int):=oq;have ah:(0:Int)≤(i:Int):=oq;obtain⟨E,G,rfl,g,nm,pa,pc,k9,bi,n2,d2,ea,el,ec,a2,a9,I,F,L,O,g4,g5,g6,g7,g8,g9⟩:=HF.out.nods.at q;obtain⟨⟨V,np⟩,j⟩:=ez (f.nods[i]);rw[j]at F L;simp only at F L;have y0:=(HWW.out.cell (p:=⟨E,G+i*10,none⟩) g).trans I;have y1:=(HWW.out.cell (p:=⟨E,G+i*10+1,none⟩) g).trans F;have y2:=(HWW.out.cell (p:=⟨E,G+i*10+2,none⟩) g).trans L;have y3:=(HWW.out.cell (p:=⟨E,G+i*10+3,none⟩) g).trans O;have y4:=(HWW.out.cell (p:=⟨E,G+i*10+4,none⟩) g).trans g4;have y5:=(HWW.out.cell (p:=⟨E,G+i*10+5,none⟩) g).trans g5;have y6:=(HWW.out.cell (p:=⟨E,G+i*10+6,none⟩) g).trans g6;have y7:=(HWW.out.cell (p:=⟨E,G+i*10+7,none⟩) g).trans g7;have y8:=(HWW.out.cell (p:=⟨E,G+i*10+8,none⟩) g).trans g8;have y9:=(HWW.out.cell (p:=⟨E,G+i*10+9,none⟩) g).trans g9;have ag:=hid j;have M:=hid (fun w'=>yq (w:=w') V)
  cases hfit:Vu V with
  | true =>
   rw[show decide (1≤V∧V≤1000)=true from hfit]at M;have HK:=hid (UO (p:=(fun n=>Vu n.bud)) q j hfit y.out);clear I F L O g4 g5 g6 g7 g8 g9 j hfit;go_wp2_with (go_at_call 59;refine(M.out _).mono ?_;rintro x w6 ⟨rfl,rfl⟩);exact⟨hid ⟨i+1,by go_num,q,HK.out,bq⟩,by simp[intOf];omega⟩
  | false =>
   rw[show decide (1≤V∧V≤1000)=false from hfit]at M;obtain rfl:R=false:=z.out.symm.trans (Zd6 (GX (p:=(fun n=>Vu n.bud)) q j hfit));clear I F L O g4 g5 g6 g7 g8 g9 j hfit z;go_wp2_with (go_at_call 59;refine(M.out _).mono ?_;rintro x w6 ⟨rfl,rfl⟩);exact Zl (v:=.bool false) (by simp only[results,results21];go_simp) rfl ⟨rfl,bq⟩
 have T:¬(i:Int)<(f.nods.length:Int):=oq;have ax:=hid (show f.nods.all (fun n=>Vu n.bud)=true by rw[←y.out,List.take_of_length_le oq]);obtain⟨W3,rfl⟩:=ey wr;have ao:=hid HBW.out;clear HBW y HWW;go_wp2;go_loopw [37] (fun s wr=>Hid (∃i:Nat,s=.int .i64 (i:Int)∧i≤f.tasks.length∧(f.tasks.take i).all (JE f)=true∧Below X.heap.size X wr)) (fun s _=>f.tasks.length-(intOf s).toNat)
 case atStart=>exact⟨0,rfl,Zk _,by simp,ao.out⟩
 obtain⟨i,rfl,bg,A,m⟩:=hrel.out;clear hrel x0 x1 x2 x3 xf;have ak:=m.size;have HBW:=hid m;have y:=hid A;have HWW:=hid (HB.out.trans (m.mono oq));obtain⟨⟨x0,x1,x2,x3⟩,xf⟩:=Yx ((m.block _ ae).trans ab.out);have aj:w.heap.size<wr.heap.size:=oq;clear A m;by_cases q:i<f.tasks.length
 ·have T:(i:Int)<(f.tasks.length:Int):=oq;have ah:(0:Int)≤(i:Int):=oq;obtain⟨E,G,rfl,g,I,F,L,J,H,O,D⟩:=HF.out.tasks.at q;have Y:=HF.out.args _ (Zi q);obtain⟨⟨nd,aa,ph,args⟩,j⟩:=ez (f.tasks[i]);rw[j]at I F L O D Y;simp only at I F L O D Y;have y0:=(HWW.out.cell (p:=⟨E,G+i*4,none⟩) g).trans I;have y1:=(HWW.out.cell (p:=⟨E,G+i*4+1,none⟩) g).trans F;have y2:=(HWW.out.cell (p:=⟨E,G+i*4+2,none⟩) g).trans L;have y3:=(HWW.out.cell (p:=⟨E,G+i*4+3,none⟩) g).trans O;have ag:=hid j;have C:=fun(w':World)(hb:Below w.heap.size w w')=>ba.out w' hb ⟨nd,aa,ph,args⟩ J H (D.below vm hb) Y
  cases hfit:JE f ⟨nd,aa,ph,args⟩ with
  | true =>
   rw[hfit]at C;have M:=hid C;have HK:=hid (UO (p:=(JE f)) q j hfit y.out);clear I F L O D Y j hfit C;go_wp2_with (go_at_call 60;refine(M.out _ bq).mono ?_;rintro x w6 ⟨rfl,hb6⟩);exact⟨hid ⟨i+1,by go_num,q,HK.out,bq⟩,by simp[intOf];omega⟩
  | false =>
   rw[hfit]at C;have M:=hid C;obtain rfl:R=false:=z.out.symm.trans (ZcE (GX (p:=(JE f)) q j hfit));clear I F L O D Y j hfit C z;go_wp2_with (go_at_call 60;refine(M.out _ bq).mono ?_;rintro x w6 ⟨rfl,hb6⟩);exact Zl (v:=.bool false) (by simp only[results,results21];go_simp) rfl ⟨rfl,bq⟩
 have T:¬(i:Int)<(f.tasks.length:Int):=oq;have ay:=hid (show f.tasks.all (JE f)=true by rw[←y.out,List.take_of_length_le oq]);obtain⟨W4,rfl⟩:=ey wr;have ap:=hid HBW.out;clear HBW y HWW;go_wp2;go_loopw [49] (fun s wr=>Hid (∃i:Nat,s=.int .i64 (i:Int)∧i≤f.tells.length∧(f.tells.take i).all (K2 f)=true∧Below X.heap.size X wr)) (fun s _=>f.tells.length-(intOf s).toNat)
 case atStart=>exact⟨0,rfl,Zk _,by simp,ap.out⟩
 obtain⟨i,rfl,bh,A,m⟩:=hrel.out;clear hrel x0 x1 x2 x3 xf;have ak:=m.size;have HBW:=hid m;have y:=hid A;have HWW:=hid (HB.out.trans (m.mono oq));obtain⟨⟨x0,x1,x2,x3⟩,xf⟩:=Yx ((m.block _ ae).trans ab.out);have aj:w.heap.size<wr.heap.size:=oq;clear A m;by_cases q:i<f.tells.length
 ·have T:(i:Int)<(f.tells.length:Int):=oq;have ah:(0:Int)≤(i:Int):=oq;obtain⟨E,G,rfl,g,I,F,L,g4,J,H,O,D⟩:=HF.out.tells.at q;have Y:=HF.out.tops _ (Zi q);obtain⟨⟨aa,ph,⟨src,au⟩,dl⟩,j⟩:=ez (f.tells[i]);rw[j]at I F L O g4 D Y;simp only at I F L O g4 D Y;have y0:=(HWW.out.cell (p:=⟨E,G+i*5,none⟩) g).trans I;have y1:=(HWW.out.cell (p:=⟨E,G+i*5+1,none⟩) g).trans F;have y2:=(HWW.out.cell (p:=⟨E,G+i*5+2,none⟩) g).trans L;have y3:=(HWW.out.cell (p:=⟨E,G+i*5+3,none⟩) g).trans O;have y4:=(HWW.out.cell (p:=⟨E,G+i*5+4,none⟩) g).trans g4;have ag:=hid j;have C:=fun(w':World)(hb:Below w.heap.size w w')=>av.out w' hb ⟨src,au⟩ J H aa ph (D.below J8 hb) Y
  have HT:=hid (fun w'=>yq (w:=w') dl)
  cases htk:Vu dl with
  | false =>
   rw[show decide (1≤dl∧dl≤1000)=false from htk]at HT;obtain rfl:R=false:=z.out.symm.trans (jK (GX (p:=(K2 f)) q j (by unfold K2;rw[htk];rfl)));clear I F L O g4 D Y j htk C z;go_wp2_with (go_at_call 59;refine(HT.out _).mono ?_;rintro x w5 ⟨rfl,rfl⟩);exact Zl (v:=.bool false) (by simp only[results,results21];go_simp) rfl ⟨rfl,bq⟩
  | true =>
   rw[show decide (1≤dl∧dl≤1000)=true from htk]at HT
   cases hfit:X2 f ⟨src,au⟩ aa ph with
   | true =>
    rw[hfit]at C;have M:=hid C;have HK:=hid (UO (p:=(K2 f)) q j (by unfold K2;rw[htk];exact hfit) y.out);clear I F L O g4 D Y j htk C hfit;go_wp2_with (first|(go_at_call 59;refine(HT.out _).mono ?_;rintro x w5 ⟨rfl,rfl⟩)|(go_at_call 61;refine(M.out _ bq).mono ?_;rintro x w6 ⟨rfl,hb6⟩));exact⟨hid ⟨i+1,by go_num,q,HK.out,bq⟩,by simp[intOf];omega⟩
   | false =>
    rw[hfit]at C;have M:=hid C;obtain rfl:R=false:=z.out.symm.trans (jK (GX (p:=(K2 f)) q j (by unfold K2;rw[htk];exact hfit)));clear I F L O g4 D Y j htk C hfit z;go_wp2_with (first|(go_at_call 59;refine(HT.out _).mono ?_;rintro x w5 ⟨rfl,rfl⟩)|(go_at_call 61;refine(M.out _ bq).mono ?_;rintro x w6 ⟨rfl,hb6⟩));exact Zl (v:=.bool false) (by simp only[results,results21];go_simp) rfl ⟨rfl,bq⟩
 have T:¬(i:Int)<(f.tells.length:Int):=oq;have az:=hid (show f.tells.all (K2 f)=true by rw[←y.out,List.take_of_length_le oq]);have U:=z.out.symm.trans (ZcD aw.out ax.out ay.out az.out);by_cases aq:f.tasks.length≤30
 ·have ar:(f.tasks.length:Int)≤30:=oq;obtain rfl:R=true:=by rw[U,Z0 aq]
  clear U z;go_wp2;exact Zl (v:=.bool true) (by simp only[results,results21];go_simp) rfl ⟨rfl,bq⟩
 have ar:¬(f.tasks.length:Int)≤30:=oq;obtain rfl:R=false:=by rw[U,ZZ aq]
 clear U z;go_wp2;exact Zl (v:=.bool false) (by simp only[results,results21];go_simp) rfl ⟨rfl,bq⟩
open Go.RowKit index clock
theorem Zba:∀(l:List Op3)(n:Int),l.any Xw=false→0≤n→n≤1099511627776→(∃m,XO l n=.ok m∧0≤m∧m≤1099511627776)∨(∃N,XO l n=.error (0,N,2))∨XO l n=.error (0,0,0):=by
 intro l
 induction l with
 | nil=>intro n _ f g;exact .inl ⟨n,rfl,f,g⟩
 | cons o l ih =>
  intro n j f g;rw[List.any_cons,Bool.or_eq_false_iff]at j;rw[XO];by_cases hb:n=0∧XZ o=true
  ·have:XT o n=.error (0,o.2.1,2):=by unfold XT;exact Z2 hb
   rw[this];exact .inr (.inl ⟨_,rfl⟩)
  cases hs:Qd o n with
  | none =>
   have:XT o n=.error (0,0,0):=by unfold XT;rw[Z1 hb,hs]
   rw[this];exact .inr (.inr rfl)
  | some t =>
   have:XT o n=.ok t:=by unfold XT;rw[Z1 hb,hs]
   rw[this];have ht:=E2 j.1 f g hb hs;exact ih t j.2 ht.1 ht.2
theorem gW:∀(p q:List Op3)(n:Int),XO (p++q) n=match XO p n with|.ok t=>XO q t|.error e=>.error e:=by
 intro p
 induction p with
 | nil=>intro q n;rfl
 | cons x p ih =>
  intro q n;simp only[ZC,XO]
  cases XT x n with
  | ok t=>exact ih q t
  | error e=>rfl
theorem Ji{p f k n d z f1:Int}(h:YB p f k n d=(z,f1,0)):YF p f=true∧YF z f1=true∧Q9 k n d=true∧3≤k∧k≤8:=by
 unfold YB at h;split at h
 ·simp only[Z4]at h;omega
 rename_i h0
 have x:YF p f=true:=by cases q:YF p f with|true=>rfl|false=>exact absurd (Or.inl q) h0
 have y:3≤k∧k≤8:=by
  constructor
  ·exact Int.not_lt.1 (fun j=>h0 (Or.inr (Or.inl j)))
  exact Int.not_lt.1 (fun j=>h0 (Or.inr (Or.inr j)))
 split at h
 ·simp only[Z4]at h;omega
 rename_i hf
 have v:Q9 k n d=true:=by cases q:Q9 k n d with|true=>rfl|false=>exact absurd q hf
 refine⟨x,?_,v,y.1,y.2⟩;have q:=Xq.1 x;have g:=Yj (show decide _=true from v);refine Xq.2 ?_;split at h
 ·rename_i h3
  split at h
  ·rename_i hz
   simp only[Z4]at h;obtain⟨rfl,rfl,_⟩:=h;have m:=g.1 (Or.inl h3);have e:=Int.ediv_mul_cancel (Int.dvd_of_emod_eq_zero hz);have C:1≤p/n:=by
    apply Yh;intro j;have:=Int.mul_le_mul_of_nonneg_right (show p/n≤0 by omega) (show 0≤n by omega);omega
   have A:p/n≤p:=Int.ediv_le_self n oq;omega
  simp only[Z4]at h;omega
 split at h
 ·rename_i h4
  split at h
  ·rename_i hz
   simp only[Z4]at h;obtain⟨rfl,rfl,_⟩:=h;have m:=g.1 (Or.inr h4);have:p*1≤p*n:=Int.mul_le_mul_of_nonneg_left m.1 oq;omega
  simp only[Z4]at h;omega
 split at h
 ·rename_i h5
  split at h
  ·unfold fin at h;have m:=g.2 h5;have:=Int.ediv_nonneg (Int.mul_nonneg (show 0≤p by omega) m.2.2.1) (show 0≤d by omega);split at h<;>(simp only[Z4]at h;omega)
  simp only[Z4]at h;omega
 split at h
 ·simp only[Z4]at h;omega
 split at h
 ·unfold fin at h;split at h<;>(simp only[Z4]at h;omega)
 split at h<;>(simp only[Z4]at h;omega)
theorem eL{p f k N d q f1 t i:Int}(h:YB p f k N d=(q,f1,0))(j:XT (k,N,d) t=.ok i):
  f+i*p≤f1+t*q∧(Xb (k,N,d)=true→f+i*p<f1+t*q):=by
 obtain⟨y,C,v,D,E⟩:=Ji h;have M:=Xq.1 y;have m:=Yj (show decide _=true from v);have g:Qd (k,N,d) t=some i:=by
  unfold XT at j;split at j
  ·cases j
  cases hx:Qd (k,N,d) t with
  | none=>rw[hx]at j;cases j
  | some x=>rw[hx]at j;injection j with j;rw[j]
 unfold YB at h;rw[Z1 (by rw[y];simp;omega),Z1 (by rw[v];simp)]at h;unfold Qd at g;simp only at g;have G:k=3∨k=4∨k=5∨k=6∨k=7∨k=8:=oq;rcases G with rfl|rfl|rfl|rfl|rfl|rfl
 ·simp only[Z2]at h g;injection g with g
  subst g;split at h
  ·rename_i hz
   simp only[Z4]at h;obtain⟨rfl,rfl,_⟩:=h;have z:=m.1 (Or.inl rfl);have e:=Int.ediv_mul_cancel (Int.dvd_of_emod_eq_zero hz);have A:0≤p/N:=Int.ediv_nonneg oq oq;have F:t/N*N≤t:=Int.ediv_mul_le t oq;have:t/N*N*(p/N)≤t*(p/N):=Int.mul_le_mul_of_nonneg_right F A;have I:t/N*p=t/N*N*(p/N):=by rw[Int.mul_assoc,Int.mul_comm N,e]
   refine⟨oq,fun hd=>?_⟩;simp[Xb]at hd
  simp only[Z4]at h;omega
 ·simp only[Z2,Z1 (show ¬(4:Int)=3 by decide)]at h g;split at h
  ·rename_i hz
   split at g
   ·injection g with g
    subst g;simp only[Z4]at h;obtain⟨rfl,rfl,_⟩:=h;have e:t*N*p=t*(p*N):=by rw[Int.mul_assoc,Int.mul_comm N]
    refine⟨oq,fun hd=>?_⟩;simp[Xb]at hd
   cases g
  simp only[Z4]at h;omega
 ·simp at h g;subst g;split at h
  ·rename_i hz
   have z:=m.2 rfl;have A:=Int.ediv_nonneg (Int.mul_nonneg (show 0≤p by omega) z.2.2.1) (show 0≤d by omega);unfold fin at h;split at h
   ·simp only[Z4]at h;obtain⟨rfl,rfl,_⟩:=h;refine⟨oq,fun hd=>?_⟩;simp[Xb]at hd;have H:1≤N:=oq;have O:p*1≤p*N:=Int.mul_le_mul_of_nonneg_left H oq;have e:=Int.ediv_mul_cancel (Int.dvd_of_emod_eq_zero hz);have L:1≤p*N/d:=by
     apply Yh;intro J;have:=Int.mul_le_mul_of_nonneg_right (show p*N/d≤0 by omega) (show 0≤d by omega);omega
    omega
   simp only[Z4]at h;omega
  simp only[Z4]at h;omega
 ·simp at h g;subst g;obtain⟨rfl,rfl⟩:=h;have e:(t-1)*p=t*p-p:=by rw[Int.sub_mul,Int.one_mul]
  exact⟨oq,fun _=>oq⟩
 ·simp at h g;obtain⟨_,rfl⟩:=g;unfold fin at h;split at h
  ·simp only[Z4]at h;obtain⟨rfl,rfl,_⟩:=h;have e:(t+1)*p=t*p+p:=by rw[Int.add_mul,Int.one_mul]
   refine⟨oq,fun hd=>?_⟩;simp[Xb]at hd
  simp only[Z4]at h;omega
 simp at h g;subst g;split at h
 ·simp only[Z4]at h;obtain⟨rfl,rfl,_⟩:=h;have e:(t-1)*p=t*p-p:=by rw[Int.sub_mul,Int.one_mul]
  refine⟨oq,fun hd=>?_⟩;simp[Xb]at hd
 simp only[Z4]at h;omega
theorem eO:∀(l:List Op3)(p f j g n i:Int),YF p f=true→YO p f l=(j,g,0)→XO l.reverse n=.ok i →
  YF j g=true∧f+i*p≤g+n*j∧(l.any Xb=true→f+i*p<g+n*j):=by
 intro l
 induction l with
 | nil =>
  intro p f j g n i q h hb;simp only[YO,Z4]at h;obtain⟨rfl,rfl,_⟩:=h;simp only[List.reverse_nil,XO]at hb;injection hb with hb
  subst hb;exact⟨q,Int.le_refl _,fun h=>by simp at h⟩
 | cons o r ih =>
  intro p f j g n i q h hb;obtain⟨k,N,d⟩:=o;rw[List.reverse_cons,gW]at hb;rw[YO]at h;rcases ha:YB p f k N d with ⟨p1,f1,e1⟩
  simp only[ha]at h;split at h
  ·rename_i he
   subst he
   cases hx:XO r.reverse n with
   | error e=>rw[hx]at hb;cases hb
   | ok t =>
    rw[hx]at hb;simp only[XO]at hb
    cases hs:XT (k,N,d) t with
    | error e=>rw[hs]at hb;cases hb
    | ok i' =>
     rw[hs]at hb;injection hb with hb
     subst hb;have v:=eL ha hs;have m:=ih p1 f1 j g n t (Ji ha).2.1 h hx;refine⟨m.1,oq,fun hd=>?_⟩;rw[List.any_cons,Bool.or_eq_true]at hd;rcases hd with hd|hd
     ·have:=v.2 hd;omega
     have:=m.2.2 hd;omega
  rename_i he
  simp only[Z4]at h;exact absurd h.2.2 he
theorem gZ{l:List Op3}{n m:Int}{x:Int}(h:QG l n=(m,x,1)):XO l.reverse n=.ok m∧0≤m∧m≤1099511627776:=by
 unfold QG at h;split at h
 ·cases h
 rename_i hc
 have f:l.reverse.any Xw=false:=by
  rw[List.any_reverse]
  cases f:l.any Xw with
  | false=>rfl
  | true=>exact absurd (Or.inr (Or.inr f)) hc
 rcases Zba l.reverse n f oq oq with ⟨t,h1,h2,h3⟩|⟨N,h1⟩|h1
 ·rw[h1]at h ⊢;simp only[Zcm,Z4]at h;obtain⟨rfl,_,_⟩:=h;exact⟨rfl,h2,h3⟩
 ·rw[h1]at h;simp only[Zcm,Z4]at h;omega
 rw[h1]at h;simp only[Zcm,Z4]at h;omega
theorem vV{f:FD}{a:AD}{j g n m x:Int}(h:X2 f a j g=true)(hb:QG a.ops n=(m,x,1)):
  0≤m∧∃sp sf,XR f a.src=some (sp,sf)∧YF sp sf=true∧YF j g=true∧sf+m*sp≤g+n*j∧(a.ops.any Ei=true→sf+m*sp<g+n*j):=by
 unfold X2 at h
 cases hs:XR f a.src with
 | none=>rw[hs]at h;cases h
 | some s =>
  obtain⟨sp,sf⟩:=s;rw[hs]at h;simp only[ZB,Yk]at h;obtain⟨_,q,y,z⟩:=h;obtain⟨A,C,_⟩:=gZ hb;unfold Ur at q y z;by_cases v:YF sp sf=true
  ·rw[Z2 v]at q y z;have:=eO a.ops sp sf j g n m v (by rw[←q,←y,←z]) A;exact⟨C,sp,sf,rfl,v,this.1,this.2.1,this.2.2⟩
  rw[Z1 v]at q;simp at q
open Go.RowKit
def QC(f:FD)(B:List (Nat×Nat))(a:AD)(n:Int):Option Int :=
 if a.src-(f.ins.length:Int)<0 then none
 else if (index.QG a.ops n).2.2=1 then some ((plP B B.length (a.src-(f.ins.length:Int)).toNat).getD (index.QG a.ops n).1.toNat 0) else none
theorem ZbJ{l:List Int}{y:Int}{i:Nat}(h:y∈l.take i):l.idxOf y<i:=by
 obtain⟨j,g,e⟩:=Ym h;rw[Yb]at g;rw[List.getElem_take]at e;have m:l.idxOf y≤j:=by
  apply Yh;intro f;have:=List.not_of_lt_findIdx (p:=(· == y)) (xs:=l) (i:=j) (by unfold List.idxOf at f;omega);simp[e]at this
 omega
theorem ZbI{l:List Int}(g:l.Nodup){x:Int}(h:x∈l):l[l.idxOf x]?=some x:=by
 have f:=List.idxOf_lt_length_iff.2 h;rw[Ze f];have:=List.findIdx_getElem (p:=(· == x)) (xs:=l) (w:=f);exact Z3 some (eq_of_beq this)
theorem xe{f:FD}{order:List Int}{u:Int}{B:List (Nat×Nat)}(h:X6 f order u B)(U:Xa f order){a:AD}{C A:Int}(G:X2 f a C A=true){n:Int}(T:A+n*C<u){x:Int}(j:QC f B a n=some x):
  ∃p s k:Nat,x=(p:Int)∧B[p]?=some (s,k)∧s<f.tasks.length∧k<QE f u s∧a.src=(f.ins.length:Int)+(s:Int)∧(index.QG a.ops n).1=(k:Int)∧(plP B B.length s)[k]?=some x∧(index.QG a.ops n).2.2=1 ∧
   Jm f (s,k)≤A+n*C∧(a.ops.any Ei=true→Jm f (s,k)<A+n*C):=by
 unfold QC at j;split at j
 ·cases j
 rename_i h0
 split at j
 ·rename_i h1
  injection j with j
  rcases hb:index.QG a.ops n with ⟨m,y,z⟩
  rw[hb]at h1 j;simp only at h1 j;subst h1;obtain⟨Y,sp,Z,g,H,V,E,F⟩:=vV G hb;obtain⟨s,M⟩:∃s:Nat,a.src=(f.ins.length:Int)+(s:Int):=⟨(a.src-(f.ins.length:Int)).toNat,oq⟩;have q:s<f.tasks.length:=by
   have:=E1 (i:=a.src) (f:=f) (by rw[g];rfl) oq;omega
  have I:=Kf q;rw[M,I]at g;rw[UC q]at g;injection g with g
  injection g with e1 e2
  subst e1;subst e2;obtain⟨k,rfl⟩:∃k:Nat,m=(k:Int):=⟨m.toNat,oq⟩;have v:=(clock.Xq.1 H).1;have L:k<QE f u s:=(Jl v k).2 oq;obtain⟨X,O⟩:=h.place U q v;obtain⟨p,J,R⟩:=O k L;have D:(a.src-(f.ins.length:Int)).toNat=s:=oq;rw[D,ZQ,Zf,J]at j;exact⟨p,s,k,j.symm,R,q,L,M,rfl,by rw[J];exact Z3 some j,rfl,E,F⟩
 cases j
theorem Zfk{f:FD}{order:List Int}{u:Int}{B:List (Nat×Nat)}(h:X6 f order u B)(j:Xa f order)(I:∀t,t<f.tasks.length→∀a∈(tkO f t).args,X2 f a (tkO f t).per (tkO f t).ph=true)
  {t n:Nat}(ht:t<f.tasks.length)(H:1≤(tkO f t).per)(G:n<QE f u t){a:AD}(A:a∈(tkO f t).args){x:Int}(L:QC f B a (n:Int)=some x):
  ∃p s k:Nat,x=(p:Int)∧B[p]?=some (s,k)∧RJ f order (s,k) (t,n):=by
 have q:=I t ht a A;obtain⟨p,s,k,rfl,C,y,M,J,_,_,_,E,m⟩:=xe h j q ((Jl H n).1 G) L;refine⟨p,s,k,rfl,C,?_⟩;unfold RJ;by_cases g:a.ops.any Ei=true
 ·exact .inl (m g)
 by_cases v:Jm f (s,k)<Jm f (t,n)
 ·exact .inl v
 refine .inr ⟨by have:Jm f (t,n)=(tkO f t).ph+(n:Int)*(tkO f t).per:=rfl;omega,?_⟩;have F:(s:Int)∈Xo f t:=by
  rw[zQ (Ze ht)];unfold Y8;refine xY (List.mem_mergeSort.2 (List.mem_filterMap.2 ⟨a,by rw[UC ht];exact A,?_⟩));unfold Jf;rw[Z1 g,J];unfold jZ;rw[Kf y,Z2 ⟨rfl,oq⟩];congr 1;omega
 have z:=j.all t ht;have D:=j.top _ (t:Int) (ZbI j.nd z) (s:Int) (by rw[ZQ];exact F);exact ZbJ D
open Go.RowKit Go.Sort Go.Proofs
theorem jR{w:World}{B:Nat}(v:Value)(q:List Int)(h:QV w B v q)(m:q.length≤100000):
  Calls prog 70 #[v] w fun x w'=>x=.returned (.tuple #[])∧QV w' B v (q.mergeSort (fun x y=>decide (x≤y)))∧But (fun k=>v.ownBlock=some k) w w':=by
 rcases h.2 with ⟨rfl,h0⟩|⟨g,cap,cur,rfl,hb,hg,hnc,hcm,hcs,htk⟩
 ·have j:q=[]:=Yd h0;subst j;refine(Tryz.slices_Sort_int_none none 0 w).mono ?_;rintro x w' ⟨rfl,rfl⟩;exact⟨rfl,by simpa using h,But.refl _ _⟩
 have f:cur.toList.take q.length=q.map (Value.int .i64):=by rw[Z8]at htk;exact htk
 refine(Tryz.slices_Sort_int g 0 cap q w (holds_of_blockI hg f) (Zb hg) oq).mono ?_;rintro x w' ⟨rfl,n,os,rfl⟩;refine⟨rfl,?_,But.of_grown (grownBy_sortedI _) |>.imp (fun i _ e=>e)⟩;have:=ownsRow_sortedI (w:=w) (base:=B) (g:=g) (cap:=cap) (n:=n) (e:=3) (os:=os) (cur:=cur) (ss:=q) (ts:=q.mergeSort (fun x y=>decide (x≤y))) (by simp) hb hg hnc hcm hcs;unfold QV;rw[List.length_mergeSort];exact this
theorem heap_put{w:World}{g n:Nat}{cur:Array Value}{e:TypeId}{f:Nat×Nat}(d:Array Int)(hb:w.heap[g]?=some (.cells cur e f)):
  (putRow (Value.int .i64) (Sort.ahead w n) g 0 d).heap[g]?=some (.cells (putCells (Value.int .i64) 0 d cur) e f):=by
 simp[putRow,mapBlock,Sort.ahead,Array.getElem?_modify,hb,onCells]
theorem qn{w:World}{g n:Nat}(d:Array Int):w.grownBy (putRow (Value.int .i64) (Sort.ahead w n) g 0 d) (some g):=by
 refine⟨rfl,rfl,rfl,by simp[putRow,mapBlock,Sort.ahead],fun k hk hne=>?_⟩;have:g≠k:=fun e=>hne (by rw[e])
 simp[putRow,mapBlock,Sort.ahead,Array.getElem?_modify,this]
theorem Gf{w:World}{B:Nat}(v:Value)(q:List Int)(h:QV w B v q)(A:q.length≤100000):
  Calls prog 71 #[v] w fun x w'=>(∃v',x=.returned v'∧QV w' B v' (Lib.compact q)∧v'.ownBlock=v.ownBlock)∧But (fun k=>v.ownBlock=some k) w w':=by
 rcases h.2 with ⟨rfl,h0⟩|⟨g,cap,cur,rfl,hb,hg,hnc,hcm,hcs,htk⟩
 ·have z:q=[]:=Yd h0;subst z;refine(Tryz.slices_Compact_int_empty none 0 w).mono ?_;rintro x w' ⟨rfl,rfl⟩;exact⟨⟨_,rfl,h,rfl⟩,But.refl _ _⟩
 have f:cur.toList.take q.length=q.map (Value.int .i64):=by rw[Z8]at htk;exact htk
 refine(Tryz.slices_Compact_int g 0 cap q w (holds_of_blockI hg f) oq hnc).mono ?_;rintro x w' ⟨rfl,n,rfl⟩;have y:=Q0 q;refine⟨⟨_,rfl,⟨by simp[ints],.inr ⟨g,cap,_,rfl,hb,heap_put _ hg,oq,hcm,by simp[putCells,hcs],?_⟩⟩,rfl⟩,But.of_grown (qn _) |>.imp (fun i _ e=>e)⟩;have m:=take_putCellsI cur (Lib.compact q++List.replicate (q.length-(Lib.compact q).length) 0) (by simp;omega);have j:=Z3 (List.take (Lib.compact q).length) m;rw[List.take_take,Nat.min_eq_left (by simp)]at j;rw[Z8,j];simp[ints]
def ZfA(o:Option Int):Value:=.tuple #[.int .i64 (o.getD 0),.bool o.isSome]
theorem qV{w:World}(f:FD)(z an y A:Option Addr)(G H I cl:Nat)(C:FAP w f z an y A)(i:Int)(m:I64 i):
  Calls prog 135 #[fv f z an y A G H I cl,.int .i64 i] w fun x w'=>x=.returned (ZfA (jZ f i))∧Below w.heap.size w w':=by
 have D:=C.lens;have g:=hid (fun(W:World)(hW:Below w.heap.size w W)=>Uy (w:=W) f z an y A G H I cl (C.below hW) i m);unfold I64 at m;clear C;obtain⟨s,F⟩:=ez (XR f i);rw[F]at g;have J:jZ f i=if s.isSome=true∧(f.ins.length:Int)≤i then some (i-(f.ins.length:Int)) else none:=by unfold jZ;rw[F]
 have j:s.isSome=true→(f.ins.length:Int)≤i→IntKind.i64.wrap (i-(f.ins.length:Int))=i-(f.ins.length:Int):=fun h1 h2=>ZK _ oq
 rw[J];clear F J;unfold fv at *
 cases s with
 | none =>
  unfold VO at g;simp only[Option.getD_none,Option.isSome_none]at g;rw[Z1 (by simp)];clear j;go_enter func135,ntmps135;go_wp2_with (go_at_call 76;refine(g.out _ bq).mono ?_;rintro x v ⟨rfl,hb2⟩;have HB2:=hid hb2;have L:w.heap.size<v.heap.size:=Yy hb2 oq;clear hb2);go_ret2;exact⟨rfl,bq⟩
 | some c =>
  obtain⟨Y,V⟩:=c;unfold VO at g;simp only[Z9,Option.isSome_some]at g;simp only[Option.isSome_some,true_and];by_cases q:(f.ins.length:Int)≤i
  ·have X:=j rfl q;have E:¬i<(f.ins.length:Int):=oq;rw[Z2 q];clear j;go_enter func135,ntmps135;go_wp2_with (go_at_call 76;refine(g.out _ bq).mono ?_;rintro x v ⟨rfl,hb2⟩;have HB2:=hid hb2;have L:w.heap.size<v.heap.size:=Yy hb2 oq;obtain⟨⟨M,O,R,T⟩,U⟩:=Yx ((hb2.block w.heap.size oq).trans (Yw w _));clear hb2);go_ret2;exact⟨rfl,bq⟩
  have E:i<(f.ins.length:Int):=oq;rw[Z1 q];clear j;go_enter func135,ntmps135;go_wp2_with (go_at_call 76;refine(g.out _ bq).mono ?_;rintro x v ⟨rfl,hb2⟩;have HB2:=hid hb2;have L:w.heap.size<v.heap.size:=Yy hb2 oq;obtain⟨⟨M,O,R,T⟩,U⟩:=Yx ((hb2.block w.heap.size oq).trans (Yw w _));clear hb2);go_ret2;exact⟨rfl,bq⟩
theorem gC{w:World}{l:List (Int×Int×Int)}{f:Option Addr}(h:Row OpR 3 w l f):index.OpA w f l:=by
 intro k g;obtain⟨b,o,rfl,hb,j,m,q⟩:=h.at g;rw[plain.getD_lt (0,0,0) g];exact⟨b,o,rfl,hb,j,m,q⟩
theorem Zb9{f:FD}{t:TD}{j:Nat}(h:j<t.args.length):(t.args.take (j+1)).filterMap (Jf f)=(t.args.take j).filterMap (Jf f)++(match Jf f t.args[j] with|some x=>[x]|none=>[]):=by
 rw[Zv h,List.filterMap_append];congr 1
 cases hg:Jf f t.args[j]<;>simp[hg]
theorem U5(f:FD)(l:List AD):(l.filterMap (Jf f)).length≤l.length:=List.length_filterMap_le _ _
theorem Zac{w:World}(f:FD)(ai an aT al:Option Addr)(ci cn ct cl:Nat)(hf:FAP w f ai an aT al)(i:Nat)(hi:i<f.tasks.length):
  Calls prog 107 #[fv f ai an aT al ci cn ct cl,.int .i64 (i:Int)] w fun x w'=>(∃v,x=.returned v∧QV w' w.heap.size v (Y8 f f.tasks[i]))∧Below w.heap.size w w':=by
 have bc:=hf.lens;have ag:=hid (fun(W:World)(hW:Below w.heap.size w W)(s:Int)(hs:I64 s)=>qV (w:=W) f ai an aT al ci cn ct cl (hf.below hW) s hs);obtain⟨bt,ot,rfl,ay,h0,h1,h2,ad,cap,h3,h4⟩:=hf.tasks.at hi;have aw:=(hf.args _ (Zi hi)).1;have Y:=(hf.args _ (Zi hi)).2;obtain⟨t,ht⟩:=ez (f.tasks[i]);rw[ht]at h3 h4 aw Y ⊢;have af:=hid h4;have ae:=hid Y;have i0:(0:Int)≤(i:Int):=oq;have i1:(i:Int)<(f.tasks.length:Int):=oq;have i2:¬(i:Int)<0:=oq;have i3:¬(i:Int)≥(f.tasks.length:Int):=oq;have be:bt<w.heap.size:=ay;clear hf h0 h1 h2 h4 Y ht;unfold fv at *;go_enter func107,ntmps107;go_wp2;go_loopw [5,26] (fun s5 s26 wr=>Hid (∃j:Nat,s26=.int .i64 (j:Int)∧j≤t.args.length∧QV wr (w.heap.size+1) s5 ((t.args.take j).filterMap (Jf f))∧wr.heap[w.heap.size]?=some (.cells #[.slice ai f.ins.length ci,.slice an f.nods.length cn,.slice (some ⟨bt,ot,none⟩) f.tasks.length ct,.slice al f.tells.length cl] 34 (0,0))∧Below w.heap.size w wr)) (fun _ s _=>t.args.length-(intOf s).toNat)
 case atStart=>exact⟨0,rfl,Zk _,Yf _ _ _ _,Yw w _,bq⟩
 obtain⟨j,rfl,hj,E,z,hbel⟩:=hrel.out;clear hrel;obtain⟨⟨z0,z1,z2,z3⟩,zf⟩:=Yx z;have HBEL:=hid hbel;have D:=hid z;have Z:=Zb z;have U:=hbel.size;obtain⟨H,q,rfl⟩:=YI E;have g:=hid E;have am:=U5 f (t.args.take j);rw[Yb]at am;clear z E;by_cases C:j<t.args.length
 ·obtain⟨ba,oa,rfl,ax,T,av,ah,R,A⟩:=af.out.at C;have X:=ae.out _ (Zi C);have ac:=Zb9 (f:=f) C;have aa:=fun o=>hbel.cell (p:=⟨ba,o,none⟩) ax
  have y0:=(aa _).trans T;have y1:=(aa _).trans R;have bf:(0:Int)≤(j:Int):=oq;have bg:(j:Int)<(t.args.length:Int):=oq;obtain⟨x,hx⟩:=ez (t.args[j]);rw[hx]at y0 y1 X ac A;obtain⟨src,J⟩:=x;simp only at y0 y1 X A;have G:=hid (fun(W:World)(hW:Below w.heap.size w W)=>ag.out W hW src X.2);have HL:=hid (fun(W:World)(hW:Below w.heap.size w W)=>index.Zah J av ah W oq (gC (A.below J8 hW)));have m:=hid ac;obtain⟨V,ab⟩:=ez (List.filterMap (Jf f) (List.take j t.args));rw[ab]at g m am
  try rw[ab]
  have bi:wr.heap.size<wr.heap.size+1:=ZW _;clear aa T R A hx hbel ac ab ag af ae
  cases hts:jZ f src with
  | none =>
   rw[hts]at G;have HN:=hid (show(List.filterMap (Jf f) (List.take (j+1) t.args))=V by rw[m.out];unfold Jf;rw[hts];simp);unfold ZfA at G;simp only[Option.getD_none,Option.isSome_none]at G;clear hts HL m;go_wp2_with (go_at_call 135;refine(G.out _ bq).mono ?_;rintro x w2 ⟨rfl,hb2⟩;have HB2:=hid hb2;have k0:wr.heap.size<w2.heap.size:=Yy hb2 oq;have q9:=(hb2.block wr.heap.size oq).trans (Yw wr _);clear hb2);refine⟨hid ⟨j+1,by go_num,C,by rw[HN.out];exact own_below g.out bq,((bq:Below wr.heap.size wr _).block _ Z).trans D.out,bq⟩,by simp[intOf];omega⟩
  | some x =>
   rw[hts]at G;unfold ZfA at G;simp only[Z9,Option.isSome_some]at G
   cases hl:J.any Ei with
   | true =>
    have HN:=hid (show(List.filterMap (Jf f) (List.take (j+1) t.args))=V by rw[m.out];unfold Jf;rw[Z2 hl];simp);rw[show J.any index.Xb=true from hl]at HL;clear hts hl m;go_wp2_with (first|(go_at_call 135;refine(G.out _ bq).mono ?_;rintro y w2 ⟨rfl,hb2⟩;have HB2:=hid hb2;have k0:wr.heap.size<w2.heap.size:=Yy hb2 oq;obtain⟨⟨x0,x1⟩,xf⟩:=YD ((hb2.block wr.heap.size oq).trans (Yw wr _));clear hb2)|(go_at_call 136;refine(HL.out _ bq).mono ?_;rintro y w3 ⟨rfl,hb3⟩;have HB3:=hid hb3;have k1:wr.heap.size<w3.heap.size:=Yy hb3 oq;clear hb3));refine⟨hid ⟨j+1,by go_num,C,by rw[HN.out];exact own_below g.out bq,((bq:Below wr.heap.size wr _).block _ Z).trans D.out,bq⟩,by simp[intOf];omega⟩
   | false =>
    have HN:=hid (show(List.filterMap (Jf f) (List.take (j+1) t.args))=V++[x] by rw[m.out];unfold Jf;rw[Z1 (by simp[hl]),hts]);rw[show J.any index.Xb=false from hl]at HL;clear hts hl m;obtain⟨i0,ak,L,M,O⟩:=info_parts Vj;have HI:=hid (Zh ak (Zh L (Zh M O)));clear ak L M O;go_wp2_with (first|(go_at_call 135;refine(G.out _ bq).mono ?_;rintro y w2 ⟨rfl,hb2⟩;have HB2:=hid hb2;have k0:wr.heap.size<w2.heap.size:=Yy hb2 oq;obtain⟨⟨x0,x1⟩,xf⟩:=YD ((hb2.block wr.heap.size oq).trans (Yw wr _));clear hb2)|(go_at_call 136;refine(HL.out _ bq).mono ?_;rintro y w3 ⟨rfl,hb3⟩;have HB3:=hid (show Below wr.heap.size wr w3 from bq);have k1:wr.heap.size<w3.heap.size:=Yy hb3 oq;clear hb3)|(refine lite.X4 _ (by rfl) _ _ _ (by rfl) (w.heap.size+1) 3 i0 _ 1 8 underlying41 HI.out.1 HI.out.2.1 HI.out.2.2.1 HI.out.2.2.2 rfl oq (.slice H V.length q) V.length (ints V) (by rfl) (own_below g.out bq) (some ⟨w3.heap.size,0,none⟩) 1 1 [.int .i64 x] (by rfl) (by rfl) (fun j u h=>⟨_,rfl,World.news_of_block (Zz _ _) j u h⟩) (by simp[Value.oneCell']) (by unfold maxLen;omega) oq oq ?_;intro v4 w4 F aj bb;have aq:=hid F;have hb4:But (fun k=>(Value.slice H V.length q).ownBlock=some k) w3 w4:=(But.of_below ((Zg _ _).alloc (Zc _) _)).then (But.of_grown aj) (fun _ _ e=>e);have HB4:=hid hb4;clear F aj bb hb4));have I:=World.ownsRow.lt g.out;have hb5:But (fun k=>(Value.slice H V.length q).ownBlock=some k) wr w4:=(But.of_below HB3.out).then HB4.out (fun _ _ e=>e);refine⟨hid ⟨j+1,by go_num,C,?_,(hb5.block _ Z (fun e=>by have:=(I _ e).1;omega)).trans D.out,HBEL.out.trans (hb5.below U (fun k hk=>Nat.le_of_succ_le (I k hk).1))⟩,by simp[intOf];omega⟩;rw[HN.out];unfold QV;rw[Zx,←J5];exact aq.out
 have az:j=t.args.length:=oq;subst az;rw[ZS]at g;have HS:=hid (jR (w:=wr) _ _ (show QV wr (w.heap.size+1) (.slice H _ q) (zl f t) from g.out) (by have:=U5 f t.args;unfold zl;omega));have HC:=hid (fun(W:World)(v:Value)(hW:QV W (w.heap.size+1) v ((zl f t).mergeSort (fun x y=>decide (x≤y))))=>Gf (w:=W) v _ hW (by have:=U5 f t.args;rw[List.length_mergeSort];unfold zl;omega));have I:=hid (World.ownsRow.lt g.out);have bh:¬(t.args.length:Int)<(t.args.length:Int):=oq;clear hbel;go_wp2_with (first|(go_at_call 70;refine HS.out.mono ?_;rintro y w2 ⟨rfl,ao,hb2⟩;have ar:=hid ao;have HB2:=hid hb2;clear ao hb2)|(go_at_call 71;refine(HC.out _ _ ar.out).mono ?_;rintro y w3 ⟨⟨v3,rfl,ap,bd⟩,hb3⟩;have au:=hid ap;have HB3:=hid hb3;clear ap hb3 bd));go_ret;exact⟨⟨_,rfl,Xd au.out (Nat.le_succ _)⟩,HBEL.out.trans ((HB2.out.trans HB3.out).below U (fun k hk=>Nat.le_of_succ_le (I.out k hk).1))⟩
def Gp(w:World)(b o:Nat)(x:Int):Prop:=w.cell? ⟨b,o,none⟩=some (.int .i64 x)
theorem ue:Sta Gp:=fun w w' b o x hb hlt h=>(hb.cell (p:=⟨b,_,none⟩) hlt).trans h
def PlM(W:World)(pb:Nat)(Pl:Nat→List Int)(T:Nat):Prop:=pb<W.heap.size∧∀s,s<T→∃a c,W.cell? ⟨pb,s,none⟩=some (.slice a (Pl s).length c)∧Row Gp 1 W (Pl s) a
def qW(o:Option Int):Value:=.tuple #[.int .i64 (o.getD 0),.bool o.isSome]
theorem EO{W:World}(f:FD)(B:List (Nat×Nat))(R pb ci cp:Nat)(ai:Option Addr)(hI:f.ins.length≤1000)(hT:f.tasks.length≤30)(aa:R<W.heap.size)(c0:W.cell? ⟨R,0,none⟩=some (.slice ai f.ins.length ci))(c6:W.cell? ⟨R,6,none⟩=some (.slice (some ⟨pb,0,none⟩) f.tasks.length cp))
  (hP:PlM W pb (plP B B.length) f.tasks.length)(a:AD)(V:Option Addr)(cap:Nat)(hr:Row OpR 3 W a.ops V)(hl:a.ops.length≤1000)(ag:0≤a.src∧a.src≤100000)(n:Int)
  (M:∀x,QC f B a n=some x→∃s k:Nat,s<f.tasks.length∧a.src=(f.ins.length:Int)+(s:Int)∧(index.QG a.ops n).1=(k:Int)∧(plP B B.length s)[k]?=some x):
  Calls prog 69 #[.pointer (some ⟨R,0,none⟩),.agg #[.int .i64 a.src,.slice V a.ops.length cap],.int .i64 n] W fun e w'=>e=.returned (qW (QC f B a n))∧Below W.heap.size W w':=by
 obtain⟨src,ops⟩:=a;simp only at hr hl ag M ⊢;have C:=hid (fun(w1:World)(hb:Below W.heap.size W w1)=>index.Zbc ops V cap n w1 oq (gC (hr.below J8 hb)));have z:=hid M;have HP:=hid hP;obtain⟨nI,A⟩:=ez f.ins.length;obtain⟨T,F⟩:=ez f.tasks.length;rw[A]at c0 hI z;rw[F]at c6 hT z HP;obtain⟨J,j⟩:=ez (W.alloc (.cells #[.int .i64 src,.slice V ops.length cap] 69));have hb1:Below W.heap.size W J:=by rw[←j];exact bq
 have I:J.heap[W.heap.size]?=some (.cells #[.int .i64 src,.slice V ops.length cap] 69 (0,0)):=by rw[←j];exact Yw W _
 obtain⟨⟨z0,z1⟩,zf⟩:=YD I;have ak:=(hb1.cell (p:=⟨R,0,none⟩) aa).trans c0;have aq:=Zb I;have v1:IntKind.i64.wrap (src-(nI:Int))=src-(nI:Int):=ZK _ oq;have HB1:=hid hb1;have ab:=hid c6;have aj:=hid I;obtain⟨q,hq⟩:=ez (src-(nI:Int));rw[hq]at v1;have U:=hid hq;clear hr M hP c0 c6 hb1 I;by_cases h0:q<0
 ·have E:QC f B ⟨src,ops⟩ n=none:=by unfold QC;rw[A];exact Z2 (by rw[U.out];exact h0)
  rw[E];clear E A F;go_enter func69,ntmps69;go_upto_region 1 with fail
  first|rw[j]|skip
  clear j;go_still kq
  change Exit.then _ _ Exit.normal _ J.drew
  go_wp2;refine Zl (v:=qW none) (by simp only[results,results69];go_simp;rfl) rfl ⟨rfl,HB1.out.drew⟩
 have an:decide (q<0)=false:=ZZ h0;obtain⟨s,hs⟩:∃s:Nat,q=(s:Int):=⟨q.toNat,oq⟩;obtain⟨⟨m,y,kd⟩,D⟩:∃r,index.QG ops n=r:=⟨_,rfl⟩;rw[D]at C z;unfold index.T3i at C;simp only at C z;by_cases X:kd=1
 ·subst X;have E:QC f B ⟨src,ops⟩ n=some ((plP B B.length s).getD m.toNat 0):=by
   unfold QC;rw[A,Z1 (by rw[U.out];exact h0),U.out,hs,ZQ];simp only[D];rw[Z2 trivial]
  obtain⟨O,k,ah,Z,ae,H⟩:=z.out _ E;have af:=U.out;obtain rfl:O=s:=oq;subst ae;rw[ZQ]at E;obtain⟨x,hx⟩:=ez ((plP B B.length O).getD k 0);rw[ZQ,hx]at H;rw[E,hx];obtain⟨pa,pc,g1,g2⟩:=HP.out.2 O ah;have Y:=(ZA.1 H).1;obtain⟨b,o,rfl,ac,g⟩:=g2.at Y;unfold Gp at g;rw[Z8,(ZA.1 H).2]at g;obtain⟨L,hL⟩:=ez ((plP B B.length O).length);rw[hL]at g1 Y;have G:=hid (Zh g1 (Zh g (Zh ac HP.out.1)));have s0:(0:Int)≤(O:Int):=oq;have s1:(O:Int)<(T:Int):=oq;have k0:(0:Int)≤(k:Int):=oq;have k1:(k:Int)<(L:Int):=oq;clear Z af;subst hs;clear E A F D H hx g1 g2 g hL z;go_enter func69,ntmps69;go_upto_region 1 with fail
  first|rw[j]|skip
  clear j;go_still kq
  change Exit.then _ _ Exit.normal _ J.drew
  go_wp2_with (go_at_call 112;refine(C.out _ HB1.out.drew).mono ?_;rintro e w2 ⟨rfl,hb2⟩;have HB2:=hid (HB1.out.drew.trans (hb2.mono (by have:=HB1.out.size;show W.heap.size≤J.heap.size;exact this)));have c6:=(HB2.out.cell (p:=⟨R,6,none⟩) aa).trans ab.out;have al:=(HB2.out.cell (p:=⟨pb,O,none⟩) G.out.2.2.2).trans G.out.1;have am:=(HB2.out.cell (p:=⟨b,o+k,none⟩) G.out.2.2.1).trans G.out.2.1;clear hb2);refine Zl (v:=qW (some x)) (by simp only[results,results69];go_simp;rfl) rfl ⟨rfl,HB2.out⟩
 have E:QC f B ⟨src,ops⟩ n=none:=by
  unfold QC;rw[A,Z1 (by rw[U.out];exact h0)];simp only[D];rw[Z1 X]
 rw[E];have ao:(kd == 1)=false:=ZY.2 X;have ap:(kd != 1)=true:=by simp[X]
 clear E A F hs D z X;go_enter func69,ntmps69;go_upto_region 1 with fail
 first|rw[j]|skip
 clear j;go_still kq
 change Exit.then _ _ Exit.normal _ J.drew
 go_wp2_with (go_at_call 112;refine(C.out _ HB1.out.drew).mono ?_;rintro e w2 ⟨rfl,hb2⟩;have HB2:=hid (HB1.out.drew.trans (hb2.mono (by have:=HB1.out.size;show W.heap.size≤J.heap.size;exact this)));clear hb2);refine Zl (v:=qW none) (by simp only[results,results69];go_simp;rfl) rfl ⟨rfl,HB2.out⟩
theorem ZbN:(prog.info? 41).map (fun i=>(i.zero,i.size,i.bytes))=some (some (.slice none 0 0),1,24):=by kernel_rfl
theorem Yz{w:World}{o:Obj}{k:Nat}(h:k=w.heap.size):(w.alloc o).heap[k]?=some o:=by subst h;exact Yw w o
theorem cells3{w:World}{b:Nat}{f g j:Value}{t:TypeId}(h:w.heap[b]?=some (.cells #[f,g,j] t (0,0))):(w.cell? ⟨b,0,none⟩=some f∧w.cell? ⟨b,1,none⟩=some g∧w.cell? ⟨b,2,none⟩=some j)∧∀o,w.frozen? ⟨b,o,none⟩=false:=by
 refine⟨⟨?_,?_,?_⟩,?_⟩
 all_goals first|(intro o;simp[World.frozen?,h])|simp[World.cell?,h]
theorem ZdY{w w':World}{base:Nat}{e:TypeId}{size n:Nat}{v:Value}{xs:List Value}(h:w.ownsRow base e size v n xs)(f:∀k,base≤k→k<w.heap.size→w'.heap[k]?=w.heap[k]?):w'.ownsRow base e size v n xs:=by
 refine⟨h.1,?_⟩;rcases h.2 with h0|⟨g,cap,cur,hv,hb,hg,rest⟩
 ·exact .inl h0
 exact .inr ⟨g,cap,cur,hv,hb,(f g hb (Zb hg)).trans hg,rest⟩
theorem vu(l:Nat)(K:Act→World→Prop)(Q:Exit→Act→World→Prop):Exit.inBlock l (Exit.then K Q)=Exit.then K (Exit.inBlock l (Exit.then K Q)):=by
 funext e a w
 cases e<;>rfl
theorem VI(z:Value)(n:Nat):madeCells #[z] n=(List.replicate n z).toArray:=by rw[←toList_madeCells_one]
theorem j8{W:World}{T m mb g:Nat}(lt:mb<W.heap.size∧g<W.heap.size∧m<W.heap.size)(ne:mb≠g∧mb≠m∧g≠m)
  (box:W.heap[m]?=some (.cells #[.slice none 0 0,.slice (some ⟨mb,0,none⟩) T T,.slice (some ⟨g,0,none⟩) T T] 137 (0,0)))
  (f:W.heap[mb]?=some (.cells (madeCells #[.int .i64 0] T) 3 (0,0)))(j:W.heap[g]?=some (.cells (madeCells #[.slice none 0 0] T) 41 (0,0))):
  WaM W W T m mb g (.slice none 0 0) (List.replicate T (.slice none 0 0)) ⟨[],List.replicate T 0,List.replicate T []⟩:=by
 refine⟨But.refl _ _,lt,ne,box,?_,?_,?_,⟨by simp,by simp,by simp,?_⟩⟩
 ·rw[VI]at f;rw[f];simp[ints]
 ·rw[VI]at j;exact j
 ·have:=Fam.nils W W.heap.size 3 (T+1);simpa [List.replicate_succ,ints] using this
 intro r q x v;have:=List.eq_of_mem_replicate q;subst this
 cases v
theorem EG{w:World}(f:FD)(ai an aT al:Option Addr)(ci cn ct cl:Nat)(hf:FAP w f ai an aT al):
  Calls prog 62 #[fv f ai an aT al ci cn ct cl] w fun x w'=>∃W2 wb mb rb vq vs,x=.returned (.pointer (some ⟨wb,0,none⟩))∧WaM W2 w' f.tasks.length wb mb rb vq vs (XD f f.tasks.length)∧Below w.heap.size w W2∧w.heap.size≤mb∧w.heap.size≤rb∧w.heap.size≤wb:=by
 have bi:=hf.lens;have ay:=hid (fun(W:World)(hW:Below w.heap.size w W)(i:Nat)(d:TD)(hd:f.tasks[i]?=some d)=>show Calls prog 107 #[fv f ai an aT al ci cn ct cl,.int .i64 (i:Int)] W fun x w'=>(∃v,x=.returned v∧QV w' W.heap.size v (Y8 f d))∧Below W.heap.size W w' by obtain⟨hi,rfl⟩:=ZA.1 hd;exact Zac (w:=W) f ai an aT al ci cn ct cl (hf.below hW) i hi);have az:=hid (fun(n:Nat)(d:TD)(hd:f.tasks[n]?=some d)=>show(Y8 f d).length≤1000 from by have M:=Q0 ((zl f d).mergeSort (fun x y=>decide (x≤y)));rw[List.length_mergeSort]at M;have h2:=U5 f d.args;have h3:=(hf.args d (Ya hd)).1;unfold Y8;unfold zl at *;omega);obtain⟨T,hT⟩:=ez f.tasks.length;have dx:T≤1000:=oq;have ce:=fun W=>run_make_row' (P:=prog) 41 3 (.int .i64 0) 8 underlying41 Vj rfl .i64 .i64 T oq oq W
 have cf:=fun W=>run_make_row' (P:=prog) 82 41 (.slice none 0 0) 24 underlying82 ZbN rfl .i64 .i64 T oq oq W
 have HT:=hid hT;unfold fv at *;rw[hT]at ay;rw[hT];clear hf bi hT;go_enter func62,ntmps62;go_upto_region 1 with fail
 obtain⟨L,ae⟩:=ez (w.alloc (.cells #[.slice ai f.ins.length ci,.slice an f.nods.length cn,.slice aT T ct,.slice al f.tells.length cl] 34));rw[ae];have bv:Below w.heap.size w L:=by rw[←ae];exact bq
 have af:L.heap[w.heap.size]?=some (.cells #[.slice ai f.ins.length ci,.slice an f.nods.length cn,.slice aT T ct,.slice al f.tells.length cl] 34 (0,0)):=by rw[←ae];exact Yw w _
 obtain⟨⟨x0,x1,x2,x3⟩,xf⟩:=Yx af;have bh:=Zb af;have HB1:=hid bv;have bp:=hid af;clear ae bv af;go_cut [3] (fun s3 W=>Hid (∃wb mb rb,s3=.pointer (some ⟨wb,0,none⟩)∧WaM W W T wb mb rb (.slice none 0 0) (List.replicate T (.slice none 0 0)) ⟨[],List.replicate T 0,List.replicate T []⟩∧Below L.heap.size L W∧L.heap.size≤mb∧L.heap.size≤rb∧L.heap.size≤wb))
 case first =>
  go_region
  all_goals (go_wp2_with fail;go_meet)
  ·refine hid ⟨L.heap.size+1+1,L.heap.size,L.heap.size+1,by simp,j8 ⟨oq,oq,oq⟩ ⟨oq,oq,oq⟩ (by first|exact Yz (by simp)|exact(Za _ _ _ (by simp)).trans (Yz (by simp))|exact(Za _ _ _ (by simp;omega)).trans ((Za _ _ _ (by simp)).trans (Yz (by simp)))|exact(Za _ _ _ (by simp;omega)).trans (Yz (by simp))|exact(Za _ _ _ (by simp)).trans ((Za _ _ _ (by simp)).trans (Yz (by simp)))) (by first|exact Yz (by simp)|exact(Za _ _ _ (by simp)).trans (Yz (by simp))|exact(Za _ _ _ (by simp;omega)).trans ((Za _ _ _ (by simp)).trans (Yz (by simp)))|exact(Za _ _ _ (by simp;omega)).trans (Yz (by simp))|exact(Za _ _ _ (by simp)).trans ((Za _ _ _ (by simp)).trans (Yz (by simp)))) (by first|exact Yz (by simp)|exact(Za _ _ _ (by simp)).trans (Yz (by simp))|exact(Za _ _ _ (by simp;omega)).trans ((Za _ _ _ (by simp)).trans (Yz (by simp)))|exact(Za _ _ _ (by simp;omega)).trans (Yz (by simp))|exact(Za _ _ _ (by simp)).trans ((Za _ _ _ (by simp)).trans (Yz (by simp)))),bq,oq,oq,oq⟩
  refine hid ⟨L.heap.size+1+1,L.heap.size+1,L.heap.size,by simp,j8 ⟨oq,oq,oq⟩ ⟨oq,oq,oq⟩ (by first|exact Yz (by simp)|exact(Za _ _ _ (by simp)).trans (Yz (by simp))|exact(Za _ _ _ (by simp;omega)).trans ((Za _ _ _ (by simp)).trans (Yz (by simp)))|exact(Za _ _ _ (by simp;omega)).trans (Yz (by simp))|exact(Za _ _ _ (by simp)).trans ((Za _ _ _ (by simp)).trans (Yz (by simp)))) (by first|exact Yz (by simp)|exact(Za _ _ _ (by simp)).trans (Yz (by simp))|exact(Za _ _ _ (by simp;omega)).trans ((Za _ _ _ (by simp)).trans (Yz (by simp)))|exact(Za _ _ _ (by simp;omega)).trans (Yz (by simp))|exact(Za _ _ _ (by simp)).trans ((Za _ _ _ (by simp)).trans (Yz (by simp)))) (by first|exact Yz (by simp)|exact(Za _ _ _ (by simp)).trans (Yz (by simp))|exact(Za _ _ _ (by simp;omega)).trans ((Za _ _ _ (by simp)).trans (Yz (by simp)))|exact(Za _ _ _ (by simp;omega)).trans (Yz (by simp))|exact(Za _ _ _ (by simp)).trans ((Za _ _ _ (by simp)).trans (Yz (by simp)))),bq,oq,oq,oq⟩
 obtain⟨wb,mb,rb,rfl,A,ac,dc,dh,dk⟩:=hcut.out;clear hcut ce cf;obtain⟨W2,rfl⟩:=ey wc;have eb:=A.lt;have D:=hid A;have HB2:=hid ac;have ba:=hid ((ac.block _ bh).trans bp.out);obtain⟨⟨z0,z1,z2,z3⟩,zf⟩:=Yx ba.out;have ec:=ac.size;clear A ac x0 x1 x2 x3 xf;go_wp2;go_loopw [21] (fun s21 wr=>Hid (∃n vq vs,s21=.int .i64 ((n:Nat):Int)∧n≤T∧WaM W2 wr T wb mb rb vq vs (XD f n))) (fun s _=>T-(intOf s).toNat)
 case atStart =>
  refine⟨0,.slice none 0 0,List.replicate T (.slice none 0 0),rfl,Zk _,?_⟩;have:=D.out;unfold XD;rw[HT.out];exact this
 clear D z0 z1 z2 z3 zf;obtain⟨wo,rfl⟩:=ey wr;obtain⟨n,vq,vs,rfl,hn,A⟩:=hrel.out;clear hrel;have ee:=A.size;have hold:∀k,k<W2.heap.size→k≠mb→k≠rb→k≠wb→wo.heap[k]?=W2.heap[k]?:=fun k hk M h2 h3=>A.but.block k hk (fun e=>by
  rcases e with e|e|e
  ·exact M e
  ·exact h2 e
  exact h3 e)
 have hq:=(hold _ oq oq oq oq).trans ba.out;obtain⟨⟨z0,z1,z2,z3⟩,zf⟩:=Yx hq;have cw:=hid hq;have ax:Below w.heap.size w wo:=(HB1.out.trans (HB2.out.mono oq)).trans (A.but.below oq (fun k e=>oq));have am:=hid ax;have D:=hid A;have dp:w.heap.size<wo.heap.size:=oq;clear hq hold ax;by_cases X:n<T
 ·have de:(n:Int)<(T:Int):=oq;have dd:(0:Int)≤(n:Int):=oq;obtain⟨d,hd⟩:∃d,f.tasks[n]?=some d:=⟨_,Ze (by rw[HT.out];exact X)⟩;have Z:=(Jr f n).trans (JD hd);have HS:=hid Z;have HH:=hid (ay.out wo am.out n d hd);have cc:=az.out n d hd;have aa:=hid (qo (f:=f) (t:=d));have ck:=KQ f n;have bj:=xc f az.out n;obtain⟨s,hs⟩:=ez (XD f n);rw[hs]at D HS ck bj;have cx:=hid bj;clear bj;obtain⟨h,hh⟩:=ez (Y8 f d);rw[hh]at HH HS aa cc;rw[HT.out]at aa;clear A hs hh Z hd;go_upto_region 6 with (go_at_call 107;refine HH.out.mono ?_;rintro y w5 ⟨⟨v5,rfl,ag⟩,hb5⟩;obtain⟨a5,c5,rfl⟩:=YI ag)
  try simp only at ag
  have HB5:=hid hb5;have br:=hid ag;have ed:=hb5.size;have J:=D.out.turn hb5;obtain⟨⟨b0,b1,b2⟩,bf⟩:=cells3 J.box;obtain⟨m0,m1⟩:=J.manyAt X;have ao:=hid J;clear hb5 ag J;go_wp2;have bt:=hid (show ∀(i:Nat)(v:Value)(k:Nat),vs[i]?=some v→v.ownBlock=some k→k<wo.heap.size∨w5.heap.size≤k from fun i v k hv hk=>.inl (D.out.fam.block (i:=i+1) (by rw[List.getElem?_cons_succ];exact hv) k hk).2);go_loopw [37] (fun s37 C=>Hid (∃j G,s37=.int .i64 ((j:Nat):Int)∧j≤h.length∧WaM W2 C T wb mb rb vq G ⟨s.q,s.many.set n (h.length:Int),(h.take j).foldl (addR n) s.rd⟩∧(∀k,wo.heap.size≤k→k<w5.heap.size→C.heap[k]?=w5.heap[k]?)∧(∀(i:Nat)(v:Value)(k:Nat),G[i]?=some v→v.ownBlock=some k→k<wo.heap.size∨w5.heap.size≤k)∧w5.heap.size≤C.heap.size)) (fun s _=>h.length-(intOf s).toNat)
  case atStart=>exact⟨0,vs,rfl,Zk _,ao.out.setMany n (h.length:Int),fun k M h2=>Zr _ _ _ _ (by show k≠mb;omega),bt.out,by simp⟩
  clear b0 b1 b2 bf m0 m1 z0 z1 z2 z3 zf bt;obtain⟨C,rfl⟩:=ey wr;obtain⟨j,G,rfl,hj,F,V,aj,dj⟩:=hrel.out;clear hrel;have ah:QV C wo.heap.size (.slice a5 h.length c5) h:=ZdY br.out V;obtain⟨⟨b0,b1,b2⟩,bf⟩:=cells3 F.box;have z:=hid F;have bo:=hid V;have ab:=hid aj;have dn:=F.size;by_cases E:j<h.length
  ·obtain⟨g5,c6,e5,dy,dz,ca,_⟩:=ah.form (by intro e;rw[e]at E;simp at E);injection e5 with e5 _ e6
   subst e5;subst e6;have cb:=ca j E;obtain⟨x0,x1⟩:=aa.out (h.getD j 0) (J3 E);obtain⟨i,hi⟩:∃i:Nat,h.getD j 0=(i:Int):=⟨(h.getD j 0).toNat,oq⟩;rw[hi]at cb x1;have bg:i<T:=oq;obtain⟨v,hv,r0,r1,R⟩:=F.rdAt bg;have bl:(h.take (j+1)).foldl (addR n) s.rd=addR n ((h.take j).foldl (addR n) s.rd) (i:Int):=by
    rw[Zv E,List.foldl_append];simp only[List.foldl_cons,List.foldl_nil];rw[←hi,Zf,Ze E];rfl
   obtain⟨rr,bk⟩:=ez ((h.take j).foldl (addR n) s.rd);rw[bk]at z bl R;simp only at R;have di:(rr.getD i []).length≤2000000:=by
    have M:=(RB.adds (t:=n) (h.take j) _ _ cx.out).getD i;rw[bk,Yb]at M;omega
   obtain⟨H,bm⟩:=ez (rr.getD i []);rw[bm]at R di;have bu:=hid bm;have bs:=hid bl;have HV:=hid hv;have bb:=hid R;obtain⟨av,cv,rfl⟩:=YI R;have cz:(0:Int)≤(j:Int):=oq;have da:(j:Int)<(h.length:Int):=oq;have cy:(0:Int)≤(i:Int):=oq;have ds:rb<C.heap.size:=oq;have dr:¬rb=C.heap.size:=oq;have dv:wb<C.heap.size:=oq;have du:¬wb=C.heap.size:=oq;obtain⟨i0,aq,ar,au,aw⟩:=info_parts Vj;have HI:=hid (Zh aq (Zh ar (Zh au aw)));clear aq ar au aw F V aj ah ca bl bk bm hv R hi;go_upto_region 10 with fail
   rw[vu];go_cut [] (fun W=>Hid (∃w4 U m,W=w4.setCell ⟨rb,i,none⟩ (.slice (some ⟨U,0,none⟩) (H.length+1) m)∧w4.ownsRow W2.heap.size 3 1 (.slice (some ⟨U,0,none⟩) (H.length+1) m) (H.length+1) (ints H++[.int .i64 (n:Int)])∧But (fun k=>(Value.slice av H.length cv).ownBlock=some k) C w4∧((Value.slice av H.length cv).ownBlock=some U∨C.heap.size≤U)))
   case first =>
    clear ay az HT HB1 bp HB2 ba cw am D HS HH aa HB5 br ao z bo ab bu bs HV cb x0 x1 ck cc cz da E cy;go_region_law (refine step_append_lies _ (by rfl) _ _ _ (by rfl) W2.heap.size 3 i0 _ 1 8 underlying41 HI.out.1 HI.out.2.1 HI.out.2.2.1 HI.out.2.2.2 rfl oq (.slice av H.length cv) H.length (ints H) (by rfl) (own_below bb.out bq) ⟨C.heap.size,0,none⟩ 1 1 [.int .i64 (n:Int)] (by rfl) (by rfl) (World.news_of_block (Zz _ _)) (by simp[Value.oneCell']) oq (by unfold maxLen;omega) oq (by simp;omega) (C.heap.size+1) (by simp) ?_;intro U m w4 Y I ap dq;have g:But (fun k=>(Value.slice av H.length cv).ownBlock=some k) C w4:=(But.of_below (bq:Below C.heap.size C _)).then (But.of_grown I) (fun i _ e=>e);have cg:¬(Value.slice av H.length cv).ownBlock=some rb:=(fun e=>by have:=(Vt bb.out rb e).1;omega);have c4:=(Zn (a:=⟨rb,i,none⟩) (g.block rb oq cg)).trans r0;have f4:=(Z6 (a:=⟨rb,i,none⟩) (g.block rb oq cg)).trans r1;have dg:¬(Value.slice av H.length cv).ownBlock=some wb:=(fun e=>by have:=(Vt bb.out wb e).1;omega);have dw:=(Zn (a:=⟨wb,2,none⟩) (g.block wb oq dg)).trans b2;have cq:=hid Y;have bn:=hid g;have cp:=hid (show(Value.slice av H.length cv).ownBlock=some U∨C.heap.size≤U from ap.elim .inl (fun e=>.inr oq));clear Y I ap g)
    all_goals (go_wp2_with fail;go_meet;exact hid ⟨w4,U,m,rfl,cq.out,bn.out,cp.out⟩)
   obtain⟨w4,U,m,ak,ch,g,be⟩:=hcut.out;clear hcut;obtain⟨Wn,rfl⟩:=ey wc;have dt:=g.size;have bd:=z.out.app (t:=n) bg X HV.out g (by simp only;rw[bu.out];exact ch) (fun k hk=>by cases hk;exact be);rw[←ak]at bd;have co:=hid bd;have bw:∀k,wo.heap.size≤k→k<w5.heap.size→Wn.heap[k]?=w5.heap[k]?:=by
    intro k M h2;rw[ak];refine(Zr _ _ _ _ (by show k≠rb;omega)).trans ((g.block k oq (fun e=>?_)).trans (bo.out k M h2));rcases ab.out i _ k HV.out e with h3|h3<;>omega
   have bz:∀(i2:Nat)(v:Value)(k:Nat),(G.set i (.slice (some ⟨U,0,none⟩) (H.length+1) m))[i2]?=some v→v.ownBlock=some k→k<wo.heap.size∨w5.heap.size≤k:=by
    intro i2 v k M h2;by_cases cd:i2=i
    ·subst cd;rw[List.getElem?_set_self (by rw[z.out.vlen];exact bg)]at M
     cases M
     cases h2
     rcases be with h3|h3
     ·exact ab.out i2 _ _ HV.out h3
     exact .inr (Zm dj h3)
    rw[List.getElem?_set_ne (fun e=>cd e.symm)]at M;exact ab.out i2 v k M h2
   have bx:w5.heap.size≤Wn.heap.size:=by rw[ak];simp;omega
   have bc:=hid (Zh bw (Zh bz bx));clear ak ch g be bd bw bz bx;go_wp2;refine⟨hid ⟨j+1,G.set i (.slice (some ⟨U,0,none⟩) (H.length+1) m),by go_num,E,by rw[bs.out];exact co.out,bc.out⟩,by simp[intOf];omega⟩
  have db:j=h.length:=oq;subst db;rw[ZS]at z;have ea:¬(h.length:Int)<(h.length:Int):=oq;by_cases O:h=[]
  ·have hN:XD f (n+1)=⟨Jg s.q (n:Int),s.many.set n (h.length:Int),h.foldl (addR n) s.rd⟩:=by have:=HS.out;rw[Z2 O]at this;exact this
   have HN:=hid hN;have bh:h.length=0:=by rw[O];rfl
   have cu:=hid (zR (w:=C) z.out.qm z.out.box (show s.q.length≤10000 by omega) (n:Int));have cm:=hid (V8 (l:=s.q) (x:=(n:Int)) z.out.ok.q ⟨dd,de⟩);have he:((h.length:Int) == 0)=true:=by rw[beq_iff_eq];omega
   clear F V aj ah hN O;go_wp2_with (go_at_call 80;refine cu.out.mono ?_;rintro y w7 ⟨rfl,cj⟩;have cr:=hid cj;clear cj);obtain⟨dm,dl,_,_⟩:=z.out.queue cr.out cm.out;exact⟨hid ⟨n+1,dm,G,by go_num,X,by rw[HN.out];exact dl⟩,by simp[intOf];omega⟩
  have hN:XD f (n+1)=⟨s.q,s.many.set n (h.length:Int),h.foldl (addR n) s.rd⟩:=by have:=HS.out;rw[Z1 O]at this;exact this
  have HN:=hid hN;have bh:0<h.length:=by
   cases h with
   | nil=>exact absurd rfl O
   | cons _ _=>simp
  have he:((h.length:Int) == 0)=false:=by rw[ZY];omega
  clear F V aj ah hN O;go_wp2;exact⟨hid ⟨n+1,vq,G,by go_num,X,by rw[HN.out];exact z.out⟩,by simp[intOf];omega⟩
 have df:n=T:=oq;subst df;clear A;go_wp2;go_ret;exact⟨W2,wb,mb,rb,vq,vs,rfl,D.out,HB1.out.trans (HB2.out.mono HB1.out.size),Zm HB1.out.size dc,Zm HB1.out.size dh,Zm HB1.out.size dk⟩
def ZaZ(w:World)(o:Option (List Int))(x:Ending)(w':World):Prop:=match o with
 | none=>x=.returned (.tuple #[.slice none 0 0,.int .i64 6])
 | some l=>∃v,x=.returned (.tuple #[v,.int .i64 0])∧QV w' w.heap.size v l
theorem Zao(f:FD):EF f=XD f f.tasks.length:=rfl
theorem ZdN(f:FD):muW (XD f f.tasks.length)≤2000∨1000<f.tasks.length:=by
 by_cases h:f.tasks.length≤1000
 ·left;have g:=KQ f f.tasks.length;have j:=(GG f f.tasks.length (Zc _)).many;have m:=List.countP_le_length (p:=fun x:Int=>decide (0<x)) (l:=(XD f f.tasks.length).many);unfold muW;omega
 right;omega
theorem Zfi{w:World}(f:FD)(ai an aT al:Option Addr)(ci cn ct cl:Nat)(hf:FAP w f ai an aT al):
  Calls prog 22 #[fv f ai an aT al ci cn ct cl] w fun x w'=>ZaZ w (ofP f) x w'∧Below w.heap.size w w':=by
 have ao:=hf.lens;have ah:∀(n:Nat)(d:TD),f.tasks[n]?=some d→(Y8 f d).length≤1000:=fun n d hd=>by
  have O:=Q0 ((zl f d).mergeSort (fun x y=>decide (x≤y)));rw[List.length_mergeSort]at O;have h2:=U5 f d.args;have h3:=(hf.args d (Ya hd)).1;unfold Y8;unfold zl at *;omega
 have ax:=hid (fun(W:World)(hW:Below w.heap.size w W)=>EG (w:=W) f ai an aT al ci cn ct cl (hf.below hW));obtain⟨T,hT⟩:=ez f.tasks.length;have cf:T≤1000:=oq;have ap:muW (XD f T)≤2000:=by
  rcases ZdN f with h|h
  ·rw[←hT];exact h
  omega
 have C:RB 2000000 (XD f T).rd:=(xc f ah T).mono oq;have D:=kZ f ah T;have bl:ofP f=if (XE (muW (XD f T)) (XD f T) []).length<T then none else some (XE (muW (XD f T)) (XD f T) []):=by unfold ofP;rw[Zao,hT]
 rw[bl];obtain⟨am,H⟩:=ez (XE (muW (XD f T)) (XD f T) []);have Y:=hid H;rw[H];obtain⟨oo,ar⟩:=ez ((if am.length<T then none else some am));rw[ar];have ba:=hid ar;clear ar;have aw:=hid ap;have bb:=hid C;have av:=hid D;unfold fv at *;rw[hT]at ax ⊢;clear hf ao ah bl H C D ap hT;go_enter func22,ntmps22;go_upto_region 2 with (go_at_call 62;refine(ax.out _ bq).mono ?_;rintro y w1 ⟨W2,wb,mb,rb,vq,vs,rfl,V,hb1,bj,bn,bm⟩;have bd:=hid V;have HB1:=hid hb1;have cb:=hb1.size;have cj:=V.but.size;have J:=V.lt;have q1:=(hb1.block w.heap.size (by simp)).trans (Yw w _);have HQ:=hid q1;clear V hb1 q1)
 have bw:=hid (Zh bj (Zh bn bm));have aj:=hid J;clear bj bn bm;have bx:w.heap.size<W2.heap.size:=by simp at cb;omega
 go_wp2;go_loopw [5] (fun s5 wr=>Hid (∃s l X c,WaM W2 wr T wb mb rb X vs s∧QV wr W2.heap.size s5 l∧XE (muW s) s l=am∧muW s+l.length≤2000∧c=l.length*2000000∧MB c s.many∧RB 2000000 s.rd∧(∀k,s5.ownBlock=some k→X.ownBlock≠some k∧∀(i:Nat)(v:Value),vs[i]?=some v→v.ownBlock≠some k))) (fun s _=>2000-(match s with|.slice _ n _=>n|_=>0))
 case atStart=>exact⟨XD f T,[],vq,0,bd.out,Yf _ _ _ _,Y.out,by have:=aw.out;simp;exact this,rfl,av.out,bb.out,fun k m=>by simp[Value.ownBlock]at m⟩
 clear bd aw bb av Y;obtain⟨wo,rfl⟩:=ey wr;obtain⟨s,l,X,c,g,R,F,ap,hc,D,C,I⟩:=hrel.out;clear hrel;obtain⟨a5,c5,rfl⟩:=YI R;obtain⟨⟨b0,b1,b2⟩,bf⟩:=Gy g.box;have cm:=g.size;have G:=hid (GF (w:=wo) X s.q g.qm.own);have z:=hid I;have M:=hid R;have ce:=hid g;have bz:=bw.out;simp only[Zu]at bz;have hq:=(g.but.block w.heap.size bx (fun e=>oq)).trans HQ.out;have Z:=hid (show Below w.heap.size w wo from(bq:Below w.heap.size w W2).trans (g.but.below oq (fun k e=>oq)));by_cases A:s.q=[]
 ·rw[uv _ _ A]at F;subst F;have bh:¬(0:Int)<(s.q.length:Int):=by rw[A];simp
  have cd:¬(s.q.length:Int) > 0:=bh;obtain⟨⟨z0,z1,z2,z3⟩,zf⟩:=Yx hq;clear g R I hq A D C;by_cases bi:l.length<T
  ·have J:(l.length:Int)<(T:Int):=oq;obtain rfl:none=oo:=by have:=ba.out;rw[Z2 bi]at this;exact this
   go_wp2_with (go_at_call 63;refine G.out.mono ?_;rintro y w2 ⟨rfl,rfl⟩);go_ret2;exact⟨rfl,Z.out⟩
  have J:¬(l.length:Int)<(T:Int):=oq;obtain rfl:some l=oo:=by have:=ba.out;rw[Z1 bi]at this;exact this
  go_wp2_with (go_at_call 63;refine G.out.mono ?_;rintro y w2 ⟨rfl,rfl⟩);go_ret2;exact⟨⟨_,rfl,Xd M.out oq⟩,Z.out⟩
 have h0:0<s.q.length:=by
  cases hq':s.q with
  | nil=>exact absurd hq' A
  | cons _ _=>simp
 have bh:(0:Int)<(s.q.length:Int):=oq;rw[qQ l A]at F;have bk:=xd A;have ch:=Zgf s;have ay:=hid (qU (w:=wo) g A oq (c:=c) oq D C oq);have aa:=hid ((MB.next D C).mono (show c+2000000≤(l.length+1)*2000000 by omega));have ab:=hid (show RB 2000000 (YP s).2.rd by rw[ZdP];exact C);obtain⟨br,au⟩:=ez ((YP s).1);obtain⟨s',U⟩:=ez ((YP s).2);rw[au,U]at ay;rw[U]at aa ab bk;rw[au,U]at F;have bt:=hid F;obtain⟨i0,ac,ae,af,ag⟩:=info_parts Vj;have HI:=hid (Zh ac (Zh ae (Zh af ag)));have cg:l.length≤2000:=oq;clear ac ae af ag g R I hq A D C F au U;go_wp2_with (first|(go_at_call 63;refine G.out.mono ?_;rintro y w2 ⟨rfl,rfl⟩)|(go_at_call 64;refine ay.out.mono ?_;rintro y w3 ⟨rfl,bs,bp,bo,E⟩;have ak:=hid bp;have bc:=hid bo;have HB3:=hid E;have ck:=E.size;have bv:=hid (show QV w3 W2.heap.size (.slice a5 l.length c5) l from E.own M.out (fun k m e=>by have O:=(Vt M.out k m).1;have h2:=aj.out;rcases e with e|e|e<;>first|omega|exact(z.out k m).1 e));clear bp bo E)|(refine lite.X4 _ (by rfl) _ _ _ (by rfl) W2.heap.size 3 i0 _ 1 8 underlying41 HI.out.1 HI.out.2.1 HI.out.2.2.1 HI.out.2.2.2 rfl oq (.slice a5 l.length c5) l.length (ints l) (by rfl) (own_below bv.out bq) (some ⟨w3.heap.size,0,none⟩) 1 1 [.int .i64 br] (by rfl) (by rfl) (fun j u h=>⟨_,rfl,World.news_of_block (Zz _ _) j u h⟩) (by simp[Value.oneCell']) (by unfold maxLen;omega) oq oq ?_;intro v4 w4 L be bg;have az:=hid L;have bu:=hid bg;have hb4:But (fun k=>(Value.slice a5 l.length c5).ownBlock=some k) w3 w4:=(But.of_below ((Zg _ _).alloc (Zc _) _)).then (But.of_grown be) (fun _ _ e=>e);have HB4:=hid hb4;clear L be bg hb4));have aq:=Vt M.out;have cc:WaM W2 w4 T wb mb rb bs vs s':=ak.out.other HB4.out (fun k m=>⟨(aq k m).1,fun e=>by
  rcases bc.out k e with O|O
  ·exact(z.out k m).1 O
  have:=(aq k m).2;omega,(z.out k m).2⟩)
 obtain⟨a6,c6,rfl⟩:=YI az.out;refine⟨hid ⟨s',l++[br],bs,(l.length+1)*2000000,cc,?_,bt.out,by simp;omega,by simp,aa.out,ab.out,?_⟩,?_⟩
 ·unfold QV;rw[Zx,←J5];exact az.out
 ·intro k m;have ca:=Vt ak.out.qm.own;rcases bu.out with O|O
  ·rw[O]at m;refine⟨fun e=>?_,(z.out k m).2⟩;rcases bc.out k e with h2|h2
   ·exact(z.out k m).1 h2
   have:=(aq k m).2;omega
  rw[O]at m;injection m with m
  simp only[Zu]at m;refine⟨fun e=>by have:=(ca k e).2;omega,fun i v hv e=>?_⟩;have:=(ak.out.fam.block (i:=i+1) (by rw[List.getElem?_cons_succ];exact hv) k e).2;omega
 show 2000-(l.length+1)<2000-l.length;omega
end Go.Proofs.YtgigilkpndhddaaGreatDoor.syn
