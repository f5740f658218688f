/- Parts of the proof. -/
import Derived.Test.YtdgifkjaflfdeaaGreatDoorJ20
set_option linter.all false
set_option maxRecDepth 100000
set_option maxHeartbeats 16000000
namespace Go.Proofs.YtdgifkjaflfdeaaGreatDoor.syn
open Tryz
open Go.RowKit Go.Shelf
variable {w:World}{f:FD}{α:Type}{t:TD}{k n d f1 m:Int}{i:Nat}
theorem yR(n:Int):Calls prog 101 #[.int .i64 n] w fun x w'=>x=.returned (.bool (decide (1<=n/\n<=1000)))/\w=w':=by
 by_cases f:1<=n
 .by_cases g:n<=1000
  .rw[ZZ (Zh f g)];go_enter func101,ntmps101;go_wp2;go_ret;exact⟨rfl,rfl⟩
  rw[ZY (fun h=>g h.2)];go_enter func101,ntmps101;go_wp2;go_ret;exact⟨rfl,rfl⟩
 rw[ZY (fun h=>f h.1)];go_enter func101,ntmps101;go_wp2;go_ret;exact⟨rfl,rfl⟩
theorem Zdu{l:List Op3}{f:Option Addr}(h:Row OpR 3 w l f):∀k,k<l.length->∃b off,f=some ⟨b,off,none⟩/\b<w.1.size/\w.cell? ⟨b,off+k*3,none⟩=some (.int .i64 (l.getD k (0,0,0)).1)/\w.cell? ⟨b,off+k*3+1,none⟩=some (.int .i64 (l.getD k (0,0,0)).2.1)/\w.cell? ⟨b,off+k*3+2,none⟩=some (.int .i64 (l.getD k (0,0,0)).2.2):=by
 intro k g;obtain⟨b,o,e,hb,j,m,q⟩:=h.at g;have v:l.getD k (0,0,0)=l[k]:=by rw[Zf,Ze g];rfl
 rw[v];exact⟨b,o,e,hb,j,m,q⟩
theorem Zb4(p f:Int)(l:List Op3)(j:Option Addr)(cap:Nat)(h:Row OpR 3 w l j)(m:l.length<=1000) :
  Calls prog 172 #[.agg #[.int .i64 p,.int .i64 f],.slice j l.length cap] w fun x w'=>x=.returned (clock.qp (clock.KJ p f l))/\Below w.1.size w w':=by
 unfold clock.KJ;by_cases g:1<=p/\p<=2000/\0<=f/\f<=2000
 .rw[Z1 (clock.Qf g)];exact clock.Zer p f j cap l w g oq (Zdu h)
 rw[Z0 (by rw[clock.Ks g];simp)];exact clock.Zax p f _ w g
def Xt(f:FD)(a:AD)(cp cf:Int):Bool:=match Jj f a.src with
 | none=>false
 | some s=>decide (a.ops.length<=20)&&(decide ((clock.KJ s.1 s.2 a.ops).2.2=0)&&(decide ((clock.KJ s.1 s.2 a.ops).1=cp)&&decide ((clock.KJ s.1 s.2 a.ops).2.1=cf)))
theorem ym(f:FD)(U an R V:Option Addr)(ci cn ct cl:Nat)(hf:FAP w f U an R V)(a:AD)(T:Option Addr)(cap:Nat)(J I:Int)(ae:I64 a.src)(hr:Row OpR 3 w a.ops T)(hl:a.ops.length<=1000) :
  Calls prog 103 #[fv f U an R V ci cn ct cl,.agg #[.int .i64 a.src,.slice T a.ops.length cap],.agg #[.int .i64 J,.int .i64 I]] w fun x w'=>x=.returned (.bool (Xt f a J I))/\Below w.1.size w w':=by
 have D:=hid (fun(w':World) (hb:Below w.1.size w w')=>UJ (w:=w') f U an R V ci cn ct cl (hf.below hb) a.src ae);have HA:=hid (fun(w':World) (hb:Below w.1.size w w') p q=>Zb4 (w:=w') p q a.ops T cap (hr.below VV hb) hl);obtain⟨ak,g⟩:=ez (Xt f a J I);rw[g];unfold Xt at g;clear hf hr ae;unfold fv at *;go_enter func103,ntmps103;go_upto_region 1 with fail
 obtain⟨C,z⟩:∃C,((w.alloc (.cells #[.slice U f.ins.length ci,.slice an f.nods.length cn,.slice R f.tasks.length ct,.slice V f.tells.length cl] 35)).alloc (.cells #[.int .i64 a.src,.slice T a.ops.length cap] 92)).alloc (.cells #[.int .i64 J,.int .i64 I] 50)=C:=⟨_,rfl⟩;rw[z];have hB:Below w.1.size w C:=by rw[<-z];exact bq
 have L:w.1.size+1+1<C.1.size:=by rw[<-z];simp
 have af:C.1[w.1.size]?=some (.cells #[.slice U f.ins.length ci,.slice an f.nods.length cn,.slice R f.tasks.length ct,.slice V f.tells.length cl] 35 (0,0)):=by rw[<-z];exact(Za _ _ _ (by simp;omega)).trans ((Za _ _ _ (by simp)).trans (Yx w _))
 have X:C.1[w.1.size+1]?=some (.cells #[.int .i64 a.src,.slice T a.ops.length cap] 92 (0,0)):=by rw[<-z];have:=(Za _ (.cells #[.int .i64 J,.int .i64 I] 50) _ (by simp)).trans (Yx (w.alloc (.cells #[.slice U f.ins.length ci,.slice an f.nods.length cn,.slice R f.tasks.length ct,.slice V f.tells.length cl] 35)) (.cells #[.int .i64 a.src,.slice T a.ops.length cap] 92));simpa using this
 have ag:C.1[w.1.size+1+1]?=some (.cells #[.int .i64 J,.int .i64 I] 50 (0,0)):=by rw[<-z];have:=Yx ((w.alloc (.cells #[.slice U f.ins.length ci,.slice an f.nods.length cn,.slice R f.tasks.length ct,.slice V f.tells.length cl] 35)).alloc (.cells #[.int .i64 a.src,.slice T a.ops.length cap] 92)) (.cells #[.int .i64 J,.int .i64 I] 50);simpa using this
 obtain⟨⟨x0,x1,x2,x3⟩,xf⟩:=Yy af;obtain⟨⟨q0,q1⟩,qf⟩:=YL X;have HB:=hid hB;have E:=hid X;have H:=hid ag;have F:w.1.size+1<C.1.size:=oq;clear z hB af X ag
 cases hs:Jj f a.src with
 | none =>
  rw[hs] at D g;simp only at g;subst g;unfold Kw at D;simp only[Option.getD_none,Option.isSome_none] at D;go_wp2_with (go_at_call 169;refine(D.o _ HB.o).mono ?_;rintro x j ⟨rfl,hb3⟩;have G:C.1.size<=j.1.size:=hb3.size);exact Zl (v:=.bool false) (by simp only[results,results103];go_simp) rfl ⟨rfl,bq⟩
 | some s =>
  obtain⟨sp,sf⟩:=s;rw[hs] at D g;simp only at g;unfold Kw at D;simp only[Z8,Option.isSome_some] at D;by_cases ab:a.ops.length<=20
  .have ac:¬(a.ops.length:Int) > 20:=oq;obtain⟨⟨rp,rf,re⟩,ah⟩:=ez (clock.KJ sp sf a.ops);have m:=hid (fun(w':World) (hb:Below w.1.size w w')=>HA.o w' hb sp sf);rw[ah] at m g;unfold clock.qp clock.GL at m;simp only at m g;rw[ZZ ab,Bool.true_and] at g;clear HA ah hs;by_cases Y:re=0
   .subst Y;rw[ZZ rfl,Bool.true_and] at g;by_cases h1:rp=J
    .subst h1;rw[ZZ rfl,Bool.true_and] at g;by_cases h2:rf=I
     .subst h2;rw[ZZ rfl] at g;subst g;go_wp2_with (first|(go_at_call 169;refine(D.o _ HB.o).mono ?_;rintro x j ⟨rfl,hb3⟩;have G:C.1.size<=j.1.size:=hb3.size;obtain⟨⟨r0,r1⟩,O⟩:=YL ((hb3.block _ F).trans E.o);have k3:w.1.size+1<j.1.size:=oq;have M:¬w.1.size+1=j.1.size:=oq;have HB3:=hid hb3)|(go_at_call 172;refine(m.o _ bq).mono ?_;rintro x A ⟨rfl,hb4⟩;have Z:j.1.size<A.1.size:=(by have h:=hb4.size;simp at h;omega);have y:=hid ((hb4.block (w.1.size+1+1) (by simp;omega)).trans ((Za _ _ _ oq).trans ((HB3.o.block _ L).trans H.o)));obtain⟨⟨t0,t1⟩,tf⟩:=YL y.o;have k4:w.1.size+1+1<A.1.size:=oq;have aa:¬w.1.size+1+1=A.1.size:=oq));exact Zl (v:=.bool true) (by simp only[results,results103];go_simp) rfl ⟨rfl,bq⟩
     rw[ZY h2] at g;subst g;have ao:(rf == I)=false:=ZX.2 h2;go_wp2_with (first|(go_at_call 169;refine(D.o _ HB.o).mono ?_;rintro x j ⟨rfl,hb3⟩;have G:C.1.size<=j.1.size:=hb3.size;obtain⟨⟨r0,r1⟩,O⟩:=YL ((hb3.block _ F).trans E.o);have k3:w.1.size+1<j.1.size:=oq;have M:¬w.1.size+1=j.1.size:=oq;have HB3:=hid hb3)|(go_at_call 172;refine(m.o _ bq).mono ?_;rintro x A ⟨rfl,hb4⟩;have Z:j.1.size<A.1.size:=(by have h:=hb4.size;simp at h;omega);have y:=hid ((hb4.block (w.1.size+1+1) (by simp;omega)).trans ((Za _ _ _ oq).trans ((HB3.o.block _ L).trans H.o)));obtain⟨⟨t0,t1⟩,tf⟩:=YL y.o;have k4:w.1.size+1+1<A.1.size:=oq;have aa:¬w.1.size+1+1=A.1.size:=oq));exact Zl (v:=.bool false) (by simp only[results,results103];go_simp) rfl ⟨rfl,bq⟩
    rw[ZY h1,Bool.false_and] at g;subst g;have am:(rp == J)=false:=ZX.2 h1;go_wp2_with (first|(go_at_call 169;refine(D.o _ HB.o).mono ?_;rintro x j ⟨rfl,hb3⟩;have G:C.1.size<=j.1.size:=hb3.size;obtain⟨⟨r0,r1⟩,O⟩:=YL ((hb3.block _ F).trans E.o);have k3:w.1.size+1<j.1.size:=oq;have M:¬w.1.size+1=j.1.size:=oq;have HB3:=hid hb3)|(go_at_call 172;refine(m.o _ bq).mono ?_;rintro x A ⟨rfl,hb4⟩;have Z:j.1.size<A.1.size:=(by have h:=hb4.size;simp at h;omega);have y:=hid ((hb4.block (w.1.size+1+1) (by simp;omega)).trans ((Za _ _ _ oq).trans ((HB3.o.block _ L).trans H.o)));obtain⟨⟨t0,t1⟩,tf⟩:=YL y.o;have k4:w.1.size+1+1<A.1.size:=oq;have aa:¬w.1.size+1+1=A.1.size:=oq));exact Zl (v:=.bool false) (by simp only[results,results103];go_simp) rfl ⟨rfl,bq⟩
   rw[ZY Y,Bool.false_and] at g;subst g;have aj:(re == 0)=false:=ZX.2 Y;go_wp2_with (first|(go_at_call 169;refine(D.o _ HB.o).mono ?_;rintro x j ⟨rfl,hb3⟩;have G:C.1.size<=j.1.size:=hb3.size;obtain⟨⟨r0,r1⟩,O⟩:=YL ((hb3.block _ F).trans E.o);have k3:w.1.size+1<j.1.size:=oq;have M:¬w.1.size+1=j.1.size:=oq;have HB3:=hid hb3)|(go_at_call 172;refine(m.o _ bq).mono ?_;rintro x A ⟨rfl,hb4⟩;have Z:j.1.size<A.1.size:=(by have h:=hb4.size;simp at h;omega);have y:=hid ((hb4.block (w.1.size+1+1) (by simp;omega)).trans ((Za _ _ _ oq).trans ((HB3.o.block _ L).trans H.o)));obtain⟨⟨t0,t1⟩,tf⟩:=YL y.o;have k4:w.1.size+1+1<A.1.size:=oq;have aa:¬w.1.size+1+1=A.1.size:=oq));exact Zl (v:=.bool false) (by simp only[results,results103];go_simp) rfl ⟨rfl,bq⟩
  have ac:(a.ops.length:Int) > 20:=oq;rw[ZY ab,Bool.false_and] at g;subst g;go_wp2_with (go_at_call 169;refine(D.o _ HB.o).mono ?_;rintro x j ⟨rfl,hb3⟩;have G:C.1.size<=j.1.size:=hb3.size;obtain⟨⟨r0,r1⟩,O⟩:=YL ((hb3.block _ F).trans E.o);have k3:w.1.size+1<j.1.size:=oq;have M:¬w.1.size+1=j.1.size:=oq);exact Zl (v:=.bool false) (by simp only[results,results103];go_simp) rfl ⟨rfl,bq⟩
def JE(f:FD)(t:TD):Bool:=match (if t.node<0 then none else f.nods[t.node.toNat]?) with
 | none=>false
 | some n=>decide (t.args.length≠0)&&(decide (t.args.length=n.nps)&&t.args.all (fun a=>Xt f a t.per t.ph))
theorem yd{f:α->Bool}{l:List α}{j:Nat}(h:j<l.length):(l.take (j+1)).all f=((l.take j).all f&&f l[j]):=by
 rw[Zv h,List.all_append];simp only[List.all_cons,List.all_nil,Bool.and_true]
theorem Uj(h:t.node<0\/(f.nods.length:Int)<=t.node):JE f t=false:=by
 unfold JE;rcases h with h|h
 .rw[Z1 h]
 by_cases g:t.node<0
 .rw[Z1 g]
 rw[Z0 g,Yb oq]
theorem Gk{k:Nat}(g:k<f.nods.length)(h:t.node=(k:Int)):JE f t=(decide (t.args.length≠0)&&(decide (t.args.length=f.nods[k].nps)&&t.args.all (fun a=>Xt f a t.per t.ph))):=by
 unfold JE;rw[h,Z0 oq,ZQ,Ze g]
theorem zV(f:FD)(X an V Y:Option Addr)(ci cn ct cl:Nat)(hf:FAP w f X an V Y)(t:TD)(ad:Option Addr)(cap:Nat)(hr:Row ua 2 w t.args ad)(hl:t.args.length<=1000)(ha:∀a∈t.args,a.ops.length<=1000/\I64 a.src) :
  Calls prog 102 #[fv f X an V Y ci cn ct cl,.agg #[.int .i64 t.node,.int .i64 t.per,.int .i64 t.ph,.slice ad t.args.length cap]] w fun x w'=>x=.returned (.bool (JE f t))/\Below w.1.size w w':=by
 have aq:=hf.lens;have ab:=hid (fun(w':World) (hb:Below w.1.size w w') (a:AD) I D (hra:Row OpR 3 w' a.ops I) (Z:a.ops.length<=1000/\I64 a.src)=>ym (w:=w') f X an V Y ci cn ct cl (hf.below hb) a I D t.per t.ph Z.2 hra Z.1);have ae:=hid hf.nods;have HR:=hid hr;have HA:=hid ha;obtain⟨m,g⟩:=ez (JE f t);rw[g];obtain⟨J,R⟩:=ez t.node;have C:=hid R;rw[R];clear hf hr ha R;unfold fv at *;go_enter func102,ntmps102;go_upto_region 1 with fail
 obtain⟨H,y⟩:∃H,(w.alloc (.cells #[.slice X f.ins.length ci,.slice an f.nods.length cn,.slice V f.tasks.length ct,.slice Y f.tells.length cl] 35)).alloc (.cells #[.int .i64 J,.int .i64 t.per,.int .i64 t.ph,.slice ad t.args.length cap] 53)=H:=⟨_,rfl⟩;rw[y];have hB:Below w.1.size w H:=by rw[<-y];exact bq
 have ar:w.1.size+1<H.1.size:=by rw[<-y];simp
 have T:H.1[w.1.size]?=some (.cells #[.slice X f.ins.length ci,.slice an f.nods.length cn,.slice V f.tasks.length ct,.slice Y f.tells.length cl] 35 (0,0)):=by rw[<-y];exact(Za _ _ _ (by simp)).trans (Yx w _)
 have U:H.1[w.1.size+1]?=some (.cells #[.int .i64 J,.int .i64 t.per,.int .i64 t.ph,.slice ad t.args.length cap] 53 (0,0)):=by rw[<-y];simpa using Yx (w.alloc (.cells #[.slice X f.ins.length ci,.slice an f.nods.length cn,.slice V f.tasks.length ct,.slice Y f.tells.length cl] 35)) (.cells #[.int .i64 J,.int .i64 t.per,.int .i64 t.ph,.slice ad t.args.length cap] 53)
 obtain⟨⟨x0,x1,x2,x3⟩,xf⟩:=Yy T;obtain⟨⟨q0,q1,q2,q3⟩,qf⟩:=Yy U;have HB:=hid hB;have af:=hid T;have ag:=hid U;have ap:w.1.size<H.1.size:=oq;clear y hB T U;by_cases h0:J<0
 .obtain rfl:m=false:=g.symm.trans (Uj (.inl (by rw[C.o];exact h0)));clear g;go_wp2;exact Zl (v:=.bool false) (by simp only[results,results102];go_simp) rfl ⟨rfl,bq⟩
 by_cases Z:(f.nods.length:Int)<=J
 .obtain rfl:m=false:=g.symm.trans (Uj (.inr (by rw[C.o];exact Z)));have ah:J>=(f.nods.length:Int):=Z;clear g;go_wp2;exact Zl (v:=.bool false) (by simp only[results,results102];go_simp) rfl ⟨rfl,bq⟩
 have ah:¬J>=(f.nods.length:Int):=Z;obtain⟨k,rfl⟩:∃k:Nat,J=(k:Int):=⟨J.toNat,oq⟩;have hk:k<f.nods.length:=oq;have ay:(0:Int)<=(k:Int):=oq;have az:(k:Int)<(f.nods.length:Int):=oq;rw[Gk hk C.o] at g;obtain⟨b,o,rfl,hb,nm,pa,pc,k9,bc,n2,d2,ea,el,ec,a2,a9,_,y1,_⟩:=ae.o.at hk;obtain⟨np,aa⟩:=ez (f.nods[k].nps);rw[aa] at y1 g;have y2:=(HB.o.cell (p:=⟨b,o+k*10+1,none⟩) hb).trans y1;clear y1 aa;by_cases h2:t.args.length=0
 .obtain rfl:m=false:=by rw[<-g,ZY (fun h=>h h2),Bool.false_and]
  have aj:((t.args.length:Int) == 0)=true:=by rw[h2];rfl
  have ak:(t.args.length:Int)=0:=oq;clear g;go_wp2;go_quiet (fail);go_wp2;exact Zl (v:=.bool false) (by simp only[results,results102];go_simp) rfl ⟨rfl,bq⟩
 rw[ZZ h2,Bool.true_and] at g;have aj:((t.args.length:Int) == 0)=false:=ZX.2 oq;have ak:¬(t.args.length:Int)=0:=oq;by_cases h3:t.args.length=np
 .rw[ZZ h3,Bool.true_and] at g;subst h3;have am:((t.args.length:Int) != (t.args.length:Int))=false:=by simp
  have j:=hid g;clear g;go_wp2;go_quiet (fail);go_wp2;go_loopw [39] (fun s39 wr=>Hid (∃i:Nat,s39=.int .i64 (i:Int)/\i<=t.args.length/\(t.args.take i).all (fun a=>Xt f a t.per t.ph)=true/\Below H.1.size H wr)) (fun s39 _=>t.args.length-(intOf s39).toNat)
  case atStart=>exact⟨0,rfl,Zk _,by simp,bq⟩
  obtain⟨i,rfl,hi,M,A⟩:=hrel.o;clear hrel x0 x1 x2 x3 xf q0 q1 q2 q3 qf y2;have ba:=A.size;have HBW:=hid A;have L:=hid M;have HWW:=hid (HB.o.trans (A.mono oq));obtain⟨⟨x0,x1,x2,x3⟩,xf⟩:=Yy ((A.block _ ap).trans af.o);obtain⟨⟨q0,q1,q2,q3⟩,qf⟩:=Yy ((A.block _ ar).trans ag.o);have aw:w.1.size<wr.1.size:=oq;have ax:w.1.size+1<wr.1.size:=oq;clear M A;by_cases F:i<t.args.length
  .have ao:(i:Int)<(t.args.length:Int):=oq;have av:(0:Int)<=(i:Int):=oq;obtain⟨bb,oo,rfl,O,g0,I,D,g1,G⟩:=HR.o.at F;have hA:=HA.o _ (Zi F);obtain⟨⟨src,ops⟩,z⟩:=ez (t.args[i]);rw[z] at g0 g1 G hA;simp only at g0 g1 G hA;have y0:=(HWW.o.cell (p:=⟨bb,oo+i*2,none⟩) O).trans g0;have y1:=(HWW.o.cell (p:=⟨bb,oo+i*2+1,none⟩) O).trans g1;have q:=fun(w':World) (hb:Below w.1.size w w')=>ab.o w' hb ⟨src,ops⟩ I D (G.below VV hb) hA
   have au:=hid z;have E:=yd (f:=fun a=>Xt f a t.per t.ph) F;rw[z,L.o,Bool.true_and] at E
   cases hfit:Xt f ⟨src,ops⟩ t.per t.ph with
   | true =>
    rw[hfit] at q E;have HC:=hid q;have ac:=hid E;clear g0 g1 G hA z q hfit E;go_wp2_with (go_at_call 103;refine(HC.o _ bq).mono ?_;rintro x w6 ⟨rfl,hb6⟩);exact⟨hid ⟨i+1,by go_num,F,ac.o,bq⟩,by simp[intOf];omega⟩
   | false =>
    rw[hfit] at q;have HC:=hid q;obtain rfl:m=false:=by
     rw[<-j.o];refine Bool.eq_false_iff.2 (fun h=>?_);have:=List.all_eq_true.1 h _ (Zi F);rw[z,hfit] at this
     cases this
    clear g0 g1 G hA z q hfit E j;go_wp2_with (go_at_call 103;refine(HC.o _ bq).mono ?_;rintro x w6 ⟨rfl,hb6⟩);exact Zl (v:=.bool false) (by simp only[results,results102];go_simp) rfl ⟨rfl,bq⟩
  have ao:¬(i:Int)<(t.args.length:Int):=oq;obtain rfl:m=true:=by
   rw[<-j.o,<-L.o,List.take_of_length_le oq]
  clear j;go_wp2;exact Zl (v:=.bool true) (by simp only[results,results102];go_simp) rfl ⟨rfl,bq⟩
 obtain rfl:m=false:=by rw[<-g,ZY h3,Bool.false_and]
 have am:((t.args.length:Int) != (np:Int))=true:=bne_iff_ne.2 oq;clear g;go_wp2;go_quiet (fail);go_wp2;exact Zl (v:=.bool false) (by simp only[results,results102];go_simp) rfl ⟨rfl,bq⟩
def Vi(n:Int):Bool:=decide (1<=n/\n<=1000)
def Ky(f:FD)(t:LD):Bool:=Vi t.dl&&Xt f t.arg t.per t.ph
def Y3(f:FD):Bool:=f.ins.all (fun c=>clock.YH c.1 c.2)&&(f.nods.all (fun n=>Vi n.bud)&&(f.tasks.all (JE f)&&(f.tells.all (Ky f)&&decide (f.tasks.length<=30))))
theorem ZgF(h:f.ins.all (fun c=>clock.YH c.1 c.2)=false):Y3 f=false:=by unfold Y3;rw[h];rfl
theorem Zfe(h:f.nods.all (fun n=>Vi n.bud)=false):Y3 f=false:=by unfold Y3;rw[h,Bool.false_and,Bool.and_false]
theorem ZdM(h:f.tasks.all (JE f)=false):Y3 f=false:=by unfold Y3;rw[h,Bool.false_and,Bool.and_false,Bool.and_false]
theorem vA(h:f.tells.all (Ky f)=false):Y3 f=false:=by unfold Y3;rw[h,Bool.false_and,Bool.and_false,Bool.and_false,Bool.and_false]
theorem ZdL(g:f.ins.all (fun c=>clock.YH c.1 c.2)=true)(j:f.nods.all (fun n=>Vi n.bud)=true)(m:f.tasks.all (JE f)=true)(q:f.tells.all (Ky f)=true):Y3 f=decide (f.tasks.length<=30):=by
 unfold Y3;rw[g,j,m,q,Bool.true_and,Bool.true_and,Bool.true_and,Bool.true_and]
theorem Eo{p:α->Bool}{l:List α}(hi:i<l.length){x:α}(f:l[i]=x)(h:p x=false):l.all p=false:=by
 refine Bool.eq_false_iff.2 (fun h2=>?_);have:=List.all_eq_true.1 h2 _ (Zi hi);rw[f,h] at this
 cases this
theorem UY{p:α->Bool}{l:List α}(hi:i<l.length){x:α}(f:l[i]=x)(h:p x=true)(ht:(l.take i).all p=true):(l.take (i+1)).all p=true:=by
 rw[yd hi,ht,f,h];rfl
theorem xv(p q:Int)(w:World):Calls prog 41 #[.agg #[.int .i64 p,.int .i64 q]] w fun e w'=>e=.returned (.bool (clock.YH p q))/\Below w.1.size w w':=by
 by_cases h:1<=p/\p<=2000/\0<=q/\q<=2000
 .rw[clock.Qf h];exact clock.XB p q w h
 rw[clock.Ks h];exact clock.Jb p q w h
theorem Up(f:FD)(ai an aT al:Option Addr)(ci cn ct cl:Nat)(hf:FAP w f ai an aT al) :
  Calls prog 44 #[fv f ai an aT al ci cn ct cl] w fun x w'=>x=.returned (.bool (Y3 f))/\Below w.1.size w w':=by
 have bd:=hf.lens;have av:=hid (fun(w':World) (hb:Below w.1.size w w') (a:AD) J H cp cf (hra:Row OpR 3 w' a.ops J) (h1:a.ops.length<=1000/\I64 a.src)=>ym (w:=w') f ai an aT al ci cn ct cl (hf.below hb) a J H cp cf h1.2 hra h1.1);have ba:=hid (fun(w':World) (hb:Below w.1.size w w') (t:TD) J H (hr:Row ua 2 w' t.args J) (ha:t.args.length<=1000/\∀a∈t.args,a.ops.length<=1000/\I64 a.src)=>zV (w:=w') f ai an aT al ci cn ct cl (hf.below hb) t J H hr ha.1 ha.2);have HF:=hid hf;obtain⟨R,Z⟩:=ez (Y3 f);rw[Z];have z:=hid Z;clear hf Z;unfold fv at *;go_enter func44,ntmps44;go_upto_region 1 with fail
 obtain⟨X,ac⟩:=ez (w.alloc (.cells #[.slice ai f.ins.length ci,.slice an f.nods.length cn,.slice aT f.tasks.length ct,.slice al f.tells.length cl] 35));rw[ac];have hB:Below w.1.size w X:=by rw[<-ac];exact bq
 have af:X.1[w.1.size]?=some (.cells #[.slice ai f.ins.length ci,.slice an f.nods.length cn,.slice aT f.tasks.length ct,.slice al f.tells.length cl] 35 (0,0)):=by rw[<-ac];exact Yx w _
 have ae:=Zb af;obtain⟨⟨x0,x1,x2,x3⟩,xf⟩:=Yy af;have HB:=hid hB;have ab:=hid af;clear ac hB af;have bc:=hid (Zg X.1.size X);go_wp2;go_loopw [14] (fun s wr=>Hid (∃i:Nat,s=.int .i64 (i:Int)/\i<=f.ins.length/\(f.ins.take i).all (fun c=>clock.YH c.1 c.2)=true/\Below X.1.size X wr)) (fun s _=>f.ins.length-(intOf s).toNat)
 case atStart=>exact⟨0,rfl,Zk _,by simp,bc.o⟩
 obtain⟨i,rfl,be,A,m⟩:=hrel.o;clear hrel x0 x1 x2 x3 xf;have ak:=m.size;have HBW:=hid m;have y:=hid A;have HWW:=hid (HB.o.trans (m.mono oq));obtain⟨⟨x0,x1,x2,x3⟩,xf⟩:=Yy ((m.block _ ae).trans ab.o);have aj:w.1.size<wr.1.size:=oq;clear A m;by_cases q:i<f.ins.length
 .have T:(i:Int)<(f.ins.length:Int):=oq;have ah:(0:Int)<=(i:Int):=oq;obtain⟨E,G,rfl,g,I,F⟩:=HF.o.ins.at q;obtain⟨⟨cp,cf⟩,j⟩:=ez (f.ins[i]);rw[j] at I F;simp only at I F;have y0:=(HWW.o.cell (p:=⟨E,G+i*2,none⟩) g).trans I;have y1:=(HWW.o.cell (p:=⟨E,G+i*2+1,none⟩) g).trans F;have ag:=hid j;have M:=hid (fun w'=>xv cp cf w')
  cases hfit:clock.YH cp cf with
  | true =>
   rw[hfit] at M;have HK:=hid (UY (p:=(fun c=>clock.YH c.1 c.2)) q j hfit y.o);clear I F j hfit;go_wp2_with (go_at_call 41;refine(M.o _).mono ?_;rintro x w6 ⟨rfl,hb6⟩);exact⟨hid ⟨i+1,by go_num,q,HK.o,bq⟩,by simp[intOf];omega⟩
  | false =>
   rw[hfit] at M;obtain rfl:R=false:=z.o.symm.trans (ZgF (Eo (p:=(fun c=>clock.YH c.1 c.2)) q j hfit));clear I F j hfit z;go_wp2_with (go_at_call 41;refine(M.o _).mono ?_;rintro x w6 ⟨rfl,hb6⟩);exact Zl (v:=.bool false) (by simp only[results,results44];go_simp) rfl ⟨rfl,bq⟩
 have T:¬(i:Int)<(f.ins.length:Int):=oq;have aw:=hid (show f.ins.all (fun c=>clock.YH c.1 c.2)=true by rw[<-y.o,List.take_of_length_le oq]);obtain⟨W2,rfl⟩:=ey wr;have am:=hid HBW.o;clear HBW y HWW;go_wp2;go_loopw [25] (fun s wr=>Hid (∃i:Nat,s=.int .i64 (i:Int)/\i<=f.nods.length/\(f.nods.take i).all (fun n=>Vi n.bud)=true/\Below X.1.size X wr)) (fun s _=>f.nods.length-(intOf s).toNat)
 case atStart=>exact⟨0,rfl,Zk _,by simp,am.o⟩
 obtain⟨i,rfl,bf,A,m⟩:=hrel.o;clear hrel x0 x1 x2 x3 xf;have ak:=m.size;have HBW:=hid m;have y:=hid A;have HWW:=hid (HB.o.trans (m.mono oq));obtain⟨⟨x0,x1,x2,x3⟩,xf⟩:=Yy ((m.block _ ae).trans ab.o);have aj:w.1.size<wr.1.size:=oq;clear A m;by_cases q:i<f.nods.length
 .have T:(i:Int)<(f.nods.length:Int):=oq;have ah:(0:Int)<=(i:Int):=oq;obtain⟨E,G,rfl,g,nm,pa,pc,k9,bi,n2,d2,ea,el,ec,a2,a9,I,F,L,O,g4,g5,g6,g7,g8,g9⟩:=HF.o.nods.at q;obtain⟨⟨V,np⟩,j⟩:=ez (f.nods[i]);rw[j] at F L;simp only at F L;have y0:=(HWW.o.cell (p:=⟨E,G+i*10,none⟩) g).trans I;have y1:=(HWW.o.cell (p:=⟨E,G+i*10+1,none⟩) g).trans F;have y2:=(HWW.o.cell (p:=⟨E,G+i*10+2,none⟩) g).trans L;have y3:=(HWW.o.cell (p:=⟨E,G+i*10+3,none⟩) g).trans O;have y4:=(HWW.o.cell (p:=⟨E,G+i*10+4,none⟩) g).trans g4;have y5:=(HWW.o.cell (p:=⟨E,G+i*10+5,none⟩) g).trans g5;have y6:=(HWW.o.cell (p:=⟨E,G+i*10+6,none⟩) g).trans g6;have y7:=(HWW.o.cell (p:=⟨E,G+i*10+7,none⟩) g).trans g7;have y8:=(HWW.o.cell (p:=⟨E,G+i*10+8,none⟩) g).trans g8;have y9:=(HWW.o.cell (p:=⟨E,G+i*10+9,none⟩) g).trans g9;have ag:=hid j;have M:=hid (fun w'=>yR (w:=w') V)
  cases hfit:Vi V with
  | true =>
   rw[show decide (1<=V/\V<=1000)=true from hfit] at M;have HK:=hid (UY (p:=(fun n=>Vi n.bud)) q j hfit y.o);clear I F L O g4 g5 g6 g7 g8 g9 j hfit;go_wp2_with (go_at_call 101;refine(M.o _).mono ?_;rintro x w6 ⟨rfl,rfl⟩);exact⟨hid ⟨i+1,by go_num,q,HK.o,bq⟩,by simp[intOf];omega⟩
  | false =>
   rw[show decide (1<=V/\V<=1000)=false from hfit] at M;obtain rfl:R=false:=z.o.symm.trans (Zfe (Eo (p:=(fun n=>Vi n.bud)) q j hfit));clear I F L O g4 g5 g6 g7 g8 g9 j hfit z;go_wp2_with (go_at_call 101;refine(M.o _).mono ?_;rintro x w6 ⟨rfl,rfl⟩);exact Zl (v:=.bool false) (by simp only[results,results44];go_simp) rfl ⟨rfl,bq⟩
 have T:¬(i:Int)<(f.nods.length:Int):=oq;have ax:=hid (show f.nods.all (fun n=>Vi n.bud)=true by rw[<-y.o,List.take_of_length_le oq]);obtain⟨W3,rfl⟩:=ey wr;have ao:=hid HBW.o;clear HBW y HWW;go_wp2;go_loopw [37] (fun s wr=>Hid (∃i:Nat,s=.int .i64 (i:Int)/\i<=f.tasks.length/\(f.tasks.take i).all (JE f)=true/\Below X.1.size X wr)) (fun s _=>f.tasks.length-(intOf s).toNat)
 case atStart=>exact⟨0,rfl,Zk _,by simp,ao.o⟩
 obtain⟨i,rfl,bg,A,m⟩:=hrel.o;clear hrel x0 x1 x2 x3 xf;have ak:=m.size;have HBW:=hid m;have y:=hid A;have HWW:=hid (HB.o.trans (m.mono oq));obtain⟨⟨x0,x1,x2,x3⟩,xf⟩:=Yy ((m.block _ ae).trans ab.o);have aj:w.1.size<wr.1.size:=oq;clear A m;by_cases q:i<f.tasks.length
 .have T:(i:Int)<(f.tasks.length:Int):=oq;have ah:(0:Int)<=(i:Int):=oq;obtain⟨E,G,rfl,g,I,F,L,J,H,O,D⟩:=HF.o.tasks.at q;have Y:=HF.o.args _ (Zi q);obtain⟨⟨nd,aa,ph,args⟩,j⟩:=ez (f.tasks[i]);rw[j] at I F L O D Y;simp only at I F L O D Y;have y0:=(HWW.o.cell (p:=⟨E,G+i*4,none⟩) g).trans I;have y1:=(HWW.o.cell (p:=⟨E,G+i*4+1,none⟩) g).trans F;have y2:=(HWW.o.cell (p:=⟨E,G+i*4+2,none⟩) g).trans L;have y3:=(HWW.o.cell (p:=⟨E,G+i*4+3,none⟩) g).trans O;have ag:=hid j;have C:=fun(w':World) (hb:Below w.1.size w w')=>ba.o w' hb ⟨nd,aa,ph,args⟩ J H (D.below uk hb) Y
  cases hfit:JE f ⟨nd,aa,ph,args⟩ with
  | true =>
   rw[hfit] at C;have M:=hid C;have HK:=hid (UY (p:=(JE f)) q j hfit y.o);clear I F L O D Y j hfit C;go_wp2_with (go_at_call 102;refine(M.o _ bq).mono ?_;rintro x w6 ⟨rfl,hb6⟩);exact⟨hid ⟨i+1,by go_num,q,HK.o,bq⟩,by simp[intOf];omega⟩
  | false =>
   rw[hfit] at C;have M:=hid C;obtain rfl:R=false:=z.o.symm.trans (ZdM (Eo (p:=(JE f)) q j hfit));clear I F L O D Y j hfit C z;go_wp2_with (go_at_call 102;refine(M.o _ bq).mono ?_;rintro x w6 ⟨rfl,hb6⟩);exact Zl (v:=.bool false) (by simp only[results,results44];go_simp) rfl ⟨rfl,bq⟩
 have T:¬(i:Int)<(f.tasks.length:Int):=oq;have ay:=hid (show f.tasks.all (JE f)=true by rw[<-y.o,List.take_of_length_le oq]);obtain⟨W4,rfl⟩:=ey wr;have ap:=hid HBW.o;clear HBW y HWW;go_wp2;go_loopw [49] (fun s wr=>Hid (∃i:Nat,s=.int .i64 (i:Int)/\i<=f.tells.length/\(f.tells.take i).all (Ky f)=true/\Below X.1.size X wr)) (fun s _=>f.tells.length-(intOf s).toNat)
 case atStart=>exact⟨0,rfl,Zk _,by simp,ap.o⟩
 obtain⟨i,rfl,bh,A,m⟩:=hrel.o;clear hrel x0 x1 x2 x3 xf;have ak:=m.size;have HBW:=hid m;have y:=hid A;have HWW:=hid (HB.o.trans (m.mono oq));obtain⟨⟨x0,x1,x2,x3⟩,xf⟩:=Yy ((m.block _ ae).trans ab.o);have aj:w.1.size<wr.1.size:=oq;clear A m;by_cases q:i<f.tells.length
 .have T:(i:Int)<(f.tells.length:Int):=oq;have ah:(0:Int)<=(i:Int):=oq;obtain⟨E,G,rfl,g,I,F,L,g4,J,H,O,D⟩:=HF.o.tells.at q;have Y:=HF.o.tops _ (Zi q);obtain⟨⟨aa,ph,⟨src,au⟩,dl⟩,j⟩:=ez (f.tells[i]);rw[j] at I F L O g4 D Y;simp only at I F L O g4 D Y;have y0:=(HWW.o.cell (p:=⟨E,G+i*5,none⟩) g).trans I;have y1:=(HWW.o.cell (p:=⟨E,G+i*5+1,none⟩) g).trans F;have y2:=(HWW.o.cell (p:=⟨E,G+i*5+2,none⟩) g).trans L;have y3:=(HWW.o.cell (p:=⟨E,G+i*5+3,none⟩) g).trans O;have y4:=(HWW.o.cell (p:=⟨E,G+i*5+4,none⟩) g).trans g4;have ag:=hid j;have C:=fun(w':World) (hb:Below w.1.size w w')=>av.o w' hb ⟨src,au⟩ J H aa ph (D.below VV hb) Y
  have HT:=hid (fun w'=>yR (w:=w') dl)
  cases htk:Vi dl with
  | false =>
   rw[show decide (1<=dl/\dl<=1000)=false from htk] at HT;obtain rfl:R=false:=z.o.symm.trans (vA (Eo (p:=(Ky f)) q j (by unfold Ky;rw[htk];rfl)));clear I F L O g4 D Y j htk C z;go_wp2_with (go_at_call 101;refine(HT.o _).mono ?_;rintro x w5 ⟨rfl,rfl⟩);exact Zl (v:=.bool false) (by simp only[results,results44];go_simp) rfl ⟨rfl,bq⟩
  | true =>
   rw[show decide (1<=dl/\dl<=1000)=true from htk] at HT
   cases hfit:Xt f ⟨src,au⟩ aa ph with
   | true =>
    rw[hfit] at C;have M:=hid C;have HK:=hid (UY (p:=(Ky f)) q j (by unfold Ky;rw[htk];exact hfit) y.o);clear I F L O g4 D Y j htk C hfit;go_wp2_with (first|(go_at_call 101;refine(HT.o _).mono ?_;rintro x w5 ⟨rfl,rfl⟩)|(go_at_call 103;refine(M.o _ bq).mono ?_;rintro x w6 ⟨rfl,hb6⟩));exact⟨hid ⟨i+1,by go_num,q,HK.o,bq⟩,by simp[intOf];omega⟩
   | false =>
    rw[hfit] at C;have M:=hid C;obtain rfl:R=false:=z.o.symm.trans (vA (Eo (p:=(Ky f)) q j (by unfold Ky;rw[htk];exact hfit)));clear I F L O g4 D Y j htk C hfit z;go_wp2_with (first|(go_at_call 101;refine(HT.o _).mono ?_;rintro x w5 ⟨rfl,rfl⟩)|(go_at_call 103;refine(M.o _ bq).mono ?_;rintro x w6 ⟨rfl,hb6⟩));exact Zl (v:=.bool false) (by simp only[results,results44];go_simp) rfl ⟨rfl,bq⟩
 have T:¬(i:Int)<(f.tells.length:Int):=oq;have az:=hid (show f.tells.all (Ky f)=true by rw[<-y.o,List.take_of_length_le oq]);have U:=z.o.symm.trans (ZdL aw.o ax.o ay.o az.o);by_cases aq:f.tasks.length<=30
 .have ar:(f.tasks.length:Int)<=30:=oq;obtain rfl:R=true:=by rw[U,ZZ aq]
  clear U z;go_wp2;exact Zl (v:=.bool true) (by simp only[results,results44];go_simp) rfl ⟨rfl,bq⟩
 have ar:¬(f.tasks.length:Int)<=30:=oq;obtain rfl:R=false:=by rw[U,ZY aq]
 clear U z;go_wp2;exact Zl (v:=.bool false) (by simp only[results,results44];go_simp) rfl ⟨rfl,bq⟩
open Go.RowKit index clock
theorem Zb9:∀(l:List Op3)(n:Int),l.any Xo=false->0<=n->n<=1099511627776->(∃m,Y4 l n=.ok m/\0<=m/\m<=1099511627776)\/(∃N,Y4 l n=.error (0,N,2))\/Y4 l n=.error (0,0,0):=by
 intro l
 induction l with
 | nil=>intro n _ f g;exact .inl ⟨n,rfl,f,g⟩
 | cons o l ih =>
  intro n j f g;rw[List.any_cons,Bool.or_eq_false_iff] at j;rw[Y4];by_cases hb:n=0/\Y2 o=true
  .have:YU o n=.error (0,o.2.1,2):=by unfold YU;exact Z1 hb
   rw[this];exact .inr (.inl ⟨_,rfl⟩)
  cases hs:Xp o n with
  | none =>
   have:YU o n=.error (0,0,0):=by unfold YU;rw[Z0 hb,hs]
   rw[this];exact .inr (.inr rfl)
  | some t =>
   have:YU o n=.ok t:=by unfold YU;rw[Z0 hb,hs]
   rw[this];have ht:=zy j.1 f g hb hs;exact ih t j.2 ht.1 ht.2
theorem ZaB:∀(p q:List Op3)(n:Int),Y4 (p++q) n=match Y4 p n with|.ok t=>Y4 q t|.error e=>.error e:=by
 intro p
 induction p with
 | nil=>intro q n;rfl
 | cons x p ih =>
  intro q n;simp only[ZC,Y4]
  cases YU x n with
  | ok t=>exact ih q t
  | error e=>rfl
theorem Qa{p f k n d z f1:Int}(h:YG p f k n d=(z,f1,0)):YH p f=true/\YH z f1=true/\Q7 k n d=true/\3<=k/\k<=8:=by
 unfold YG at h;split at h
 .simp only[Z3] at h;omega
 rename_i h0
 have x:YH p f=true:=by cases q:YH p f with|true=>rfl|false=>exact absurd (Or.inl q) h0
 have y:3<=k/\k<=8:=by
  constructor
  .exact Int.not_lt.1 (fun j=>h0 (Or.inr (Or.inl j)))
  exact Int.not_lt.1 (fun j=>h0 (Or.inr (Or.inr j)))
 split at h
 .simp only[Z3] at h;omega
 rename_i hf
 have v:Q7 k n d=true:=by cases q:Q7 k n d with|true=>rfl|false=>exact absurd q hf
 refine⟨x,?_,v,y.1,y.2⟩;have q:=Y1.1 x;have g:=Yi (show decide _=true from v);refine Y1.2 ?_;split at h
 .rename_i h3
  split at h
  .rename_i hz
   simp only[Z3] at h;obtain⟨rfl,rfl,_⟩:=h;have m:=g.1 (Or.inl h3);have e:=Int.ediv_mul_cancel (Int.dvd_of_emod_eq_zero hz);have C:1<=p/n:=by
    apply Yg;intro j;have:=Int.mul_le_mul_of_nonneg_right (show p/n<=0 by omega) (show 0<=n by omega);omega
   have A:p/n<=p:=Int.ediv_le_self n oq;omega
  simp only[Z3] at h;omega
 split at h
 .rename_i h4
  split at h
  .rename_i hz
   simp only[Z3] at h;obtain⟨rfl,rfl,_⟩:=h;have m:=g.1 (Or.inr h4);have:p*1<=p*n:=Int.mul_le_mul_of_nonneg_left m.1 oq;omega
  simp only[Z3] at h;omega
 split at h
 .rename_i h5
  split at h
  .unfold fin at h;have m:=g.2 h5;have:=Int.ediv_nonneg (Int.mul_nonneg (show 0<=p by omega) m.2.2.1) (show 0<=d by omega);split at h<;>(simp only[Z3] at h;omega)
  simp only[Z3] at h;omega
 split at h
 .simp only[Z3] at h;omega
 split at h
 .unfold fin at h;split at h<;>(simp only[Z3] at h;omega)
 split at h<;>(simp only[Z3] at h;omega)
theorem ZaM{p f k N d q f1 t i:Int}(h:YG p f k N d=(q,f1,0))(j:YU (k,N,d) t=.ok i) :
  f+i*p<=f1+t*q/\(Xd (k,N,d)=true->f+i*p<f1+t*q):=by
 obtain⟨y,C,v,D,E⟩:=Qa h;have M:=Y1.1 y;have m:=Yi (show decide _=true from v);have g:Xp (k,N,d) t=some i:=by
  unfold YU at j;split at j
  .cases j
  cases hx:Xp (k,N,d) t with
  | none=>rw[hx] at j;cases j
  | some x=>rw[hx] at j;injection j with j;rw[j]
 unfold YG at h;rw[Z0 (by rw[y];simp;omega),Z0 (by rw[v];simp)] at h;unfold Xp at g;simp only at g;have G:k=3\/k=4\/k=5\/k=6\/k=7\/k=8:=oq;rcases G with rfl|rfl|rfl|rfl|rfl|rfl
 .simp only[Z1] at h g;injection g with g
  subst g;split at h
  .rename_i hz
   simp only[Z3] at h;obtain⟨rfl,rfl,_⟩:=h;have z:=m.1 (Or.inl rfl);have e:=Int.ediv_mul_cancel (Int.dvd_of_emod_eq_zero hz);have A:0<=p/N:=Int.ediv_nonneg oq oq;have F:t/N*N<=t:=Int.ediv_mul_le t oq;have:t/N*N*(p/N)<=t*(p/N):=Int.mul_le_mul_of_nonneg_right F A;have I:t/N*p=t/N*N*(p/N):=by rw[Int.mul_assoc,Int.mul_comm N,e]
   refine⟨oq,fun hd=>?_⟩;simp[Xd] at hd
  simp only[Z3] at h;omega
 .simp only[Z1,Z0 (show ¬(4:Int)=3 by decide)] at h g;split at h
  .rename_i hz
   split at g
   .injection g with g
    subst g;simp only[Z3] at h;obtain⟨rfl,rfl,_⟩:=h;have e:t*N*p=t*(p*N):=by rw[Int.mul_assoc,Int.mul_comm N]
    refine⟨oq,fun hd=>?_⟩;simp[Xd] at hd
   cases g
  simp only[Z3] at h;omega
 .simp at h g;subst g;split at h
  .rename_i hz
   have z:=m.2 rfl;have A:=Int.ediv_nonneg (Int.mul_nonneg (show 0<=p by omega) z.2.2.1) (show 0<=d by omega);unfold fin at h;split at h
   .simp only[Z3] at h;obtain⟨rfl,rfl,_⟩:=h;refine⟨oq,fun hd=>?_⟩;simp[Xd] at hd;have H:1<=N:=oq;have O:p*1<=p*N:=Int.mul_le_mul_of_nonneg_left H oq;have e:=Int.ediv_mul_cancel (Int.dvd_of_emod_eq_zero hz);have L:1<=p*N/d:=by
     apply Yg;intro J;have:=Int.mul_le_mul_of_nonneg_right (show p*N/d<=0 by omega) (show 0<=d by omega);omega
    omega
   simp only[Z3] at h;omega
  simp only[Z3] at h;omega
 .simp at h g;subst g;obtain⟨rfl,rfl⟩:=h;have e:(t-1)*p=t*p-p:=by rw[Int.sub_mul,Int.one_mul]
  exact⟨oq,fun _=>oq⟩
 .simp at h g;obtain⟨_,rfl⟩:=g;unfold fin at h;split at h
  .simp only[Z3] at h;obtain⟨rfl,rfl,_⟩:=h;have e:(t+1)*p=t*p+p:=by rw[Int.add_mul,Int.one_mul]
   refine⟨oq,fun hd=>?_⟩;simp[Xd] at hd
  simp only[Z3] at h;omega
 simp at h g;subst g;split at h
 .simp only[Z3] at h;obtain⟨rfl,rfl,_⟩:=h;have e:(t-1)*p=t*p-p:=by rw[Int.sub_mul,Int.one_mul]
  refine⟨oq,fun hd=>?_⟩;simp[Xd] at hd
 simp only[Z3] at h;omega
theorem ZaO:∀(l:List Op3)(p f j g n i:Int),YH p f=true->YO p f l=(j,g,0)->Y4 l.reverse n=.ok i ->
  YH j g=true/\f+i*p<=g+n*j/\(l.any Xd=true->f+i*p<g+n*j):=by
 intro l
 induction l with
 | nil =>
  intro p f j g n i q h hb;simp only[YO,Z3] at h;obtain⟨rfl,rfl,_⟩:=h;simp only[List.reverse_nil,Y4] at hb;injection hb with hb
  subst hb;exact⟨q,Int.le_refl _,fun h=>by simp at h⟩
 | cons o r ih =>
  intro p f j g n i q h hb;obtain⟨k,N,d⟩:=o;rw[List.reverse_cons,ZaB] at hb;rw[YO] at h;rcases ha:YG p f k N d with ⟨p1,f1,e1⟩
  simp only[ha] at h;split at h
  .rename_i he
   subst he
   cases hx:Y4 r.reverse n with
   | error e=>rw[hx] at hb;cases hb
   | ok t =>
    rw[hx] at hb;simp only[Y4] at hb
    cases hs:YU (k,N,d) t with
    | error e=>rw[hs] at hb;cases hb
    | ok i' =>
     rw[hs] at hb;injection hb with hb
     subst hb;have v:=ZaM ha hs;have m:=ih p1 f1 j g n t (Qa ha).2.1 h hx;refine⟨m.1,oq,fun hd=>?_⟩;rw[List.any_cons,Bool.or_eq_true] at hd;rcases hd with hd|hd
     .have:=v.2 hd;omega
     have:=m.2.2 hd;omega
  rename_i he
  simp only[Z3] at h;exact absurd h.2.2 he
theorem ZaE{l:List Op3}{x:Int}(h:X6 l n=(m,x,1)):Y4 l.reverse n=.ok m/\0<=m/\m<=1099511627776:=by
 unfold X6 at h;split at h
 .cases h
 rename_i hc
 have f:l.reverse.any Xo=false:=by
  rw[List.any_reverse]
  cases f:l.any Xo with
  | false=>rfl
  | true=>exact absurd (Or.inr (Or.inr f)) hc
 rcases Zb9 l.reverse n f oq oq with ⟨t,h1,h2,h3⟩|⟨N,h1⟩|h1
 .rw[h1] at h ⊢;simp only[kU,Z3] at h;obtain⟨rfl,_,_⟩:=h;exact⟨rfl,h2,h3⟩
 .rw[h1] at h;simp only[kU,Z3] at h;omega
 rw[h1] at h;simp only[kU,Z3] at h;omega
theorem uU{a:AD}{j g n m x:Int}(h:Xt f a j g=true)(hb:X6 a.ops n=(m,x,1)) :
  0<=m/\∃sp sf,Jj f a.src=some (sp,sf)/\YH sp sf=true/\YH j g=true/\sf+m*sp<=g+n*j/\(a.ops.any VK=true->sf+m*sp<g+n*j):=by
 unfold Xt at h
 cases hs:Jj f a.src with
 | none=>rw[hs] at h;cases h
 | some s =>
  obtain⟨sp,sf⟩:=s;rw[hs] at h;simp only[ZB,Yj] at h;obtain⟨_,q,y,z⟩:=h;obtain⟨A,C,_⟩:=ZaE hb;unfold KJ at q y z;by_cases v:YH sp sf=true
  .rw[Z1 v] at q y z;have:=ZaO a.ops sp sf j g n m v (by rw[<-q,<-y,<-z]) A;exact⟨C,sp,sf,rfl,v,this.1,this.2.1,this.2.2⟩
  rw[Z0 v] at q;simp at q
