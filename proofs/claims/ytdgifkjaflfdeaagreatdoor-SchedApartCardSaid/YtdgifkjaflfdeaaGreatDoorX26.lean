/- Parts of the proof. -/
import Derived.Test.YtdgifkjaflfdeaaGreatDoorX20
set_option linter.all false
set_option maxRecDepth 100000
set_option maxHeartbeats 16000000
namespace Go.Proofs.YtdgifkjaflfdeaaGreatDoor.syn
open Tryz
open Go.RowKit Go.Shelf
variable {w:World}{f:FD}{α:Type}{t:TD}{k n d f1 m:Int}{i:Nat}
theorem yt(n:Int):Calls prog 101 #[.int .i64 n] w fun x w'=>x=.returned (.bool (decide (1<=n/\n<=1000)))/\w=w':=by
 by_cases f:1<=n
 .by_cases g:n<=1000
  .rw[Z1 (Zh f g)];go_enter func101,ntmps101;go_wp2;go_ret;exact⟨rfl,rfl⟩
  rw[Z0 (fun h=>g h.2)];go_enter func101,ntmps101;go_wp2;go_ret;exact⟨rfl,rfl⟩
 rw[Z0 (fun h=>f h.1)];go_enter func101,ntmps101;go_wp2;go_ret;exact⟨rfl,rfl⟩
theorem ZcU{l:List Op3}{f:OA}(h:Row OpR 3 w l f):∀k,k<l.length->∃b off,f=some ⟨b,off,none⟩/\b<w.1.size/\w.cell? ⟨b,off+k*3,none⟩=some (.int .i64 (l.getD k (0,0,0)).1)/\w.cell? ⟨b,off+k*3+1,none⟩=some (.int .i64 (l.getD k (0,0,0)).2.1)/\w.cell? ⟨b,off+k*3+2,none⟩=some (.int .i64 (l.getD k (0,0,0)).2.2):=by
 intro k g;obtain⟨b,o,e,hb,j,m,q⟩:=h.at g;have v:l.getD k (0,0,0)=l[k]:=by rw[Zf,Ze g];rfl
 rw[v];exact⟨b,o,e,hb,j,m,q⟩
theorem Zbw(p f:Int)(l:List Op3)(j:OA)(cap:Nat)(h:Row OpR 3 w l j)(m:l.length<=1000) :
  Calls prog 172 #[.agg #[.int .i64 p,.int .i64 f],.slice j l.length cap] w fun x w'=>x=.returned (clock.yB (clock.V9 p f l))/\Below w.1.size w w':=by
 unfold clock.V9;by_cases g:1<=p/\p<=2000/\0<=f/\f<=2000
 .rw[Z3 (clock.Qd g)];exact clock.ZdW p f j cap l w g oq (ZcU h)
 rw[Z2 (by rw[clock.Ka g];simp)];exact clock.eO p f _ w g
def XM(f:FD)(a:AD)(cp cf:Int):Bool:=match XV f a.src with
 | none=>false
 | some s=>decide (a.ops.length<=20)&&(decide ((clock.V9 s.1 s.2 a.ops).2.2=0)&&(decide ((clock.V9 s.1 s.2 a.ops).1=cp)&&decide ((clock.V9 s.1 s.2 a.ops).2.1=cf)))
theorem zO(f:FD)(U an R V:OA)(ci cn ct cl:Nat)(hf:FAP w f U an R V)(a:AD)(T:OA)(cap:Nat)(J I:Int)(ae:I64 a.src)(hr:Row OpR 3 w a.ops T)(hl:a.ops.length<=1000) :
  Calls prog 103 #[fv f U an R V ci cn ct cl,.agg #[.int .i64 a.src,.slice T a.ops.length cap],.agg #[.int .i64 J,.int .i64 I]] w fun x w'=>x=.returned (.bool (XM f a J I))/\Below w.1.size w w':=by
 have D:=hid (fun(w':World) (hb:Below w.1.size w w')=>Uu (w:=w') f U an R V ci cn ct cl (hf.below hb) a.src ae);have HA:=hid (fun(w':World) (hb:Below w.1.size w w') p q=>Zbw (w:=w') p q a.ops T cap (hr.below VK hb) hl);obtain⟨ak,g⟩:=ez (XM f a J I);rw[g];unfold XM at g;clear hf hr ae;unfold fv at *;go_enter func103,ntmps103;go_upto_region 1 with fail
 obtain⟨C,z⟩:∃C,((w.alloc (.cells #[.slice U f.ins.length ci,.slice an f.nods.length cn,.slice R f.tasks.length ct,.slice V f.tells.length cl] 35)).alloc (.cells #[.int .i64 a.src,.slice T a.ops.length cap] 92)).alloc (.cells #[.int .i64 J,.int .i64 I] 50)=C:=⟨_,rfl⟩;rw[z];have hB:Below w.1.size w C:=by rw[<-z];exact bq
 have L:w.1.size+1+1<C.1.size:=by rw[<-z];simp
 have af:C.1[w.1.size]?=some (.cells #[.slice U f.ins.length ci,.slice an f.nods.length cn,.slice R f.tasks.length ct,.slice V f.tells.length cl] 35 (0,0)):=by rw[<-z];exact(Za _ _ _ (by simp;omega)).trans ((Za _ _ _ (by simp)).trans (Yx w _))
 have X:C.1[w.1.size+1]?=some (.cells #[.int .i64 a.src,.slice T a.ops.length cap] 92 (0,0)):=by rw[<-z];have:=(Za _ (.cells #[.int .i64 J,.int .i64 I] 50) _ (by simp)).trans (Yx (w.alloc (.cells #[.slice U f.ins.length ci,.slice an f.nods.length cn,.slice R f.tasks.length ct,.slice V f.tells.length cl] 35)) (.cells #[.int .i64 a.src,.slice T a.ops.length cap] 92));simpa using this
 have ag:C.1[w.1.size+1+1]?=some (.cells #[.int .i64 J,.int .i64 I] 50 (0,0)):=by rw[<-z];have:=Yx ((w.alloc (.cells #[.slice U f.ins.length ci,.slice an f.nods.length cn,.slice R f.tasks.length ct,.slice V f.tells.length cl] 35)).alloc (.cells #[.int .i64 a.src,.slice T a.ops.length cap] 92)) (.cells #[.int .i64 J,.int .i64 I] 50);simpa using this
 obtain⟨⟨x0,x1,x2,x3⟩,xf⟩:=Yy af;obtain⟨⟨q0,q1⟩,qf⟩:=YI X;have HB:=hid hB;have E:=hid X;have H:=hid ag;have F:w.1.size+1<C.1.size:=oq;clear z hB af X ag
 cases hs:XV f a.src with
 | none =>
  rw[hs] at D g;simp only at g;subst g;unfold Uv at D;simp only[Option.getD_none,Option.isSome_none] at D;go_wp2_with (go_at_call 169;refine(D.o _ HB.o).mono ?_;rintro x j ⟨rfl,hb3⟩;have G:C.1.size<=j.1.size:=hb3.size);exact Zl (v:=.bool false) (by simp only[results,results103];go_simp) rfl ⟨rfl,bq⟩
 | some s =>
  obtain⟨sp,sf⟩:=s;rw[hs] at D g;simp only at g;unfold Uv at D;simp only[Ya,Option.isSome_some] at D;by_cases ab:a.ops.length<=20
  .have ac:¬(a.ops.length:Int) > 20:=oq;obtain⟨⟨rp,rf,re⟩,ah⟩:=ez (clock.V9 sp sf a.ops);have m:=hid (fun(w':World) (hb:Below w.1.size w w')=>HA.o w' hb sp sf);rw[ah] at m g;unfold clock.yB clock.Kj at m;simp only at m g;rw[Z1 ab,Bool.true_and] at g;clear HA ah hs;by_cases Y:re=0
   .subst Y;rw[Z1 rfl,Bool.true_and] at g;by_cases h1:rp=J
    .subst h1;rw[Z1 rfl,Bool.true_and] at g;by_cases h2:rf=I
     .subst h2;rw[Z1 rfl] at g;subst g;go_wp2_with (first|(go_at_call 169;refine(D.o _ HB.o).mono ?_;rintro x j ⟨rfl,hb3⟩;have G:C.1.size<=j.1.size:=hb3.size;obtain⟨⟨r0,r1⟩,O⟩:=YI ((hb3.block _ F).trans E.o);have k3:w.1.size+1<j.1.size:=oq;have M:¬w.1.size+1=j.1.size:=oq;have HB3:=hid hb3)|(go_at_call 172;refine(m.o _ bq).mono ?_;rintro x A ⟨rfl,hb4⟩;have Z:j.1.size<A.1.size:=(by have h:=hb4.size;simp at h;omega);have y:=hid ((hb4.block (w.1.size+1+1) (by simp;omega)).trans ((Za _ _ _ oq).trans ((HB3.o.block _ L).trans H.o)));obtain⟨⟨t0,t1⟩,tf⟩:=YI y.o;have k4:w.1.size+1+1<A.1.size:=oq;have aa:¬w.1.size+1+1=A.1.size:=oq));exact Zl (v:=.bool true) (by simp only[results,results103];go_simp) rfl ⟨rfl,bq⟩
     rw[Z0 h2] at g;subst g;have ao:(rf == I)=false:=ZZ.2 h2;go_wp2_with (first|(go_at_call 169;refine(D.o _ HB.o).mono ?_;rintro x j ⟨rfl,hb3⟩;have G:C.1.size<=j.1.size:=hb3.size;obtain⟨⟨r0,r1⟩,O⟩:=YI ((hb3.block _ F).trans E.o);have k3:w.1.size+1<j.1.size:=oq;have M:¬w.1.size+1=j.1.size:=oq;have HB3:=hid hb3)|(go_at_call 172;refine(m.o _ bq).mono ?_;rintro x A ⟨rfl,hb4⟩;have Z:j.1.size<A.1.size:=(by have h:=hb4.size;simp at h;omega);have y:=hid ((hb4.block (w.1.size+1+1) (by simp;omega)).trans ((Za _ _ _ oq).trans ((HB3.o.block _ L).trans H.o)));obtain⟨⟨t0,t1⟩,tf⟩:=YI y.o;have k4:w.1.size+1+1<A.1.size:=oq;have aa:¬w.1.size+1+1=A.1.size:=oq));exact Zl (v:=.bool false) (by simp only[results,results103];go_simp) rfl ⟨rfl,bq⟩
    rw[Z0 h1,Bool.false_and] at g;subst g;have am:(rp == J)=false:=ZZ.2 h1;go_wp2_with (first|(go_at_call 169;refine(D.o _ HB.o).mono ?_;rintro x j ⟨rfl,hb3⟩;have G:C.1.size<=j.1.size:=hb3.size;obtain⟨⟨r0,r1⟩,O⟩:=YI ((hb3.block _ F).trans E.o);have k3:w.1.size+1<j.1.size:=oq;have M:¬w.1.size+1=j.1.size:=oq;have HB3:=hid hb3)|(go_at_call 172;refine(m.o _ bq).mono ?_;rintro x A ⟨rfl,hb4⟩;have Z:j.1.size<A.1.size:=(by have h:=hb4.size;simp at h;omega);have y:=hid ((hb4.block (w.1.size+1+1) (by simp;omega)).trans ((Za _ _ _ oq).trans ((HB3.o.block _ L).trans H.o)));obtain⟨⟨t0,t1⟩,tf⟩:=YI y.o;have k4:w.1.size+1+1<A.1.size:=oq;have aa:¬w.1.size+1+1=A.1.size:=oq));exact Zl (v:=.bool false) (by simp only[results,results103];go_simp) rfl ⟨rfl,bq⟩
   rw[Z0 Y,Bool.false_and] at g;subst g;have aj:(re == 0)=false:=ZZ.2 Y;go_wp2_with (first|(go_at_call 169;refine(D.o _ HB.o).mono ?_;rintro x j ⟨rfl,hb3⟩;have G:C.1.size<=j.1.size:=hb3.size;obtain⟨⟨r0,r1⟩,O⟩:=YI ((hb3.block _ F).trans E.o);have k3:w.1.size+1<j.1.size:=oq;have M:¬w.1.size+1=j.1.size:=oq;have HB3:=hid hb3)|(go_at_call 172;refine(m.o _ bq).mono ?_;rintro x A ⟨rfl,hb4⟩;have Z:j.1.size<A.1.size:=(by have h:=hb4.size;simp at h;omega);have y:=hid ((hb4.block (w.1.size+1+1) (by simp;omega)).trans ((Za _ _ _ oq).trans ((HB3.o.block _ L).trans H.o)));obtain⟨⟨t0,t1⟩,tf⟩:=YI y.o;have k4:w.1.size+1+1<A.1.size:=oq;have aa:¬w.1.size+1+1=A.1.size:=oq));exact Zl (v:=.bool false) (by simp only[results,results103];go_simp) rfl ⟨rfl,bq⟩
  have ac:(a.ops.length:Int) > 20:=oq;rw[Z0 ab,Bool.false_and] at g;subst g;go_wp2_with (go_at_call 169;refine(D.o _ HB.o).mono ?_;rintro x j ⟨rfl,hb3⟩;have G:C.1.size<=j.1.size:=hb3.size;obtain⟨⟨r0,r1⟩,O⟩:=YI ((hb3.block _ F).trans E.o);have k3:w.1.size+1<j.1.size:=oq;have M:¬w.1.size+1=j.1.size:=oq);exact Zl (v:=.bool false) (by simp only[results,results103];go_simp) rfl ⟨rfl,bq⟩
def Jv(f:FD)(t:TD):Bool:=match (if t.node<0 then none else f.nods[t.node.toNat]?) with
 | none=>false
 | some n=>decide (t.args.length≠0)&&(decide (t.args.length=n.nps)&&t.args.all (fun a=>XM f a t.per t.ph))
theorem zD{f:α->Bool}{l:List α}{j:Nat}(h:j<l.length):(l.take (j+1)).all f=((l.take j).all f&&f l[j]):=by
 rw[Zw h,List.all_append];simp only[List.all_cons,List.all_nil,Bool.and_true]
theorem V8(h:t.node<0\/(f.nods.length:Int)<=t.node):Jv f t=false:=by
 unfold Jv;rcases h with h|h
 .rw[Z3 h]
 by_cases g:t.node<0
 .rw[Z3 g]
 rw[Z2 g,Yd oq]
theorem KX{k:Nat}(g:k<f.nods.length)(h:t.node=(k:Int)):Jv f t=(decide (t.args.length≠0)&&(decide (t.args.length=f.nods[k].nps)&&t.args.all (fun a=>XM f a t.per t.ph))):=by
 unfold Jv;rw[h,Z2 oq,ZR,Ze g]
theorem zw(f:FD)(X an V Y:OA)(ci cn ct cl:Nat)(hf:FAP w f X an V Y)(t:TD)(ad:OA)(cap:Nat)(hr:Row xP 2 w t.args ad)(hl:t.args.length<=1000)(ha:∀a∈t.args,a.ops.length<=1000/\I64 a.src) :
  Calls prog 102 #[fv f X an V Y ci cn ct cl,.agg #[.int .i64 t.node,.int .i64 t.per,.int .i64 t.ph,.slice ad t.args.length cap]] w fun x w'=>x=.returned (.bool (Jv f t))/\Below w.1.size w w':=by
 have aq:=hf.lens;have ab:=hid (fun(w':World) (hb:Below w.1.size w w') (a:AD) I D (hra:Row OpR 3 w' a.ops I) (Z:a.ops.length<=1000/\I64 a.src)=>zO (w:=w') f X an V Y ci cn ct cl (hf.below hb) a I D t.per t.ph Z.2 hra Z.1);have ae:=hid hf.nods;have HR:=hid hr;have HA:=hid ha;obtain⟨m,g⟩:=ez (Jv f t);rw[g];obtain⟨J,R⟩:=ez t.node;have C:=hid R;rw[R];clear hf hr ha R;unfold fv at *;go_enter func102,ntmps102;go_upto_region 1 with fail
 obtain⟨H,y⟩:∃H,(w.alloc (.cells #[.slice X f.ins.length ci,.slice an f.nods.length cn,.slice V f.tasks.length ct,.slice Y f.tells.length cl] 35)).alloc (.cells #[.int .i64 J,.int .i64 t.per,.int .i64 t.ph,.slice ad t.args.length cap] 53)=H:=⟨_,rfl⟩;rw[y];have hB:Below w.1.size w H:=by rw[<-y];exact bq
 have ar:w.1.size+1<H.1.size:=by rw[<-y];simp
 have T:H.1[w.1.size]?=some (.cells #[.slice X f.ins.length ci,.slice an f.nods.length cn,.slice V f.tasks.length ct,.slice Y f.tells.length cl] 35 (0,0)):=by rw[<-y];exact(Za _ _ _ (by simp)).trans (Yx w _)
 have U:H.1[w.1.size+1]?=some (.cells #[.int .i64 J,.int .i64 t.per,.int .i64 t.ph,.slice ad t.args.length cap] 53 (0,0)):=by rw[<-y];simpa using Yx (w.alloc (.cells #[.slice X f.ins.length ci,.slice an f.nods.length cn,.slice V f.tasks.length ct,.slice Y f.tells.length cl] 35)) (.cells #[.int .i64 J,.int .i64 t.per,.int .i64 t.ph,.slice ad t.args.length cap] 53)
 obtain⟨⟨x0,x1,x2,x3⟩,xf⟩:=Yy T;obtain⟨⟨q0,q1,q2,q3⟩,qf⟩:=Yy U;have HB:=hid hB;have af:=hid T;have ag:=hid U;have ap:w.1.size<H.1.size:=oq;clear y hB T U;by_cases h0:J<0
 .obtain rfl:m=false:=g.symm.trans (V8 (.inl (by rw[C.o];exact h0)));clear g;go_wp2;exact Zl (v:=.bool false) (by simp only[results,results102];go_simp) rfl ⟨rfl,bq⟩
 by_cases Z:(f.nods.length:Int)<=J
 .obtain rfl:m=false:=g.symm.trans (V8 (.inr (by rw[C.o];exact Z)));have ah:J>=(f.nods.length:Int):=Z;clear g;go_wp2;exact Zl (v:=.bool false) (by simp only[results,results102];go_simp) rfl ⟨rfl,bq⟩
 have ah:¬J>=(f.nods.length:Int):=Z;obtain⟨k,rfl⟩:∃k:Nat,J=(k:Int):=⟨J.toNat,oq⟩;have hk:k<f.nods.length:=oq;have ay:(0:Int)<=(k:Int):=oq;have az:(k:Int)<(f.nods.length:Int):=oq;rw[KX hk C.o] at g;obtain⟨b,o,rfl,hb,nm,pa,pc,k9,bc,n2,d2,ea,el,ec,a2,a9,_,y1,_⟩:=ae.o.at hk;obtain⟨np,aa⟩:=ez (f.nods[k].nps);rw[aa] at y1 g;have y2:=(HB.o.cell (p:=⟨b,o+k*10+1,none⟩) hb).trans y1;clear y1 aa;by_cases h2:t.args.length=0
 .obtain rfl:m=false:=by rw[<-g,Z0 (fun h=>h h2),Bool.false_and]
  have aj:((t.args.length:Int) == 0)=true:=by rw[h2];rfl
  have ak:(t.args.length:Int)=0:=oq;clear g;go_wp2;go_quiet (fail);go_wp2;exact Zl (v:=.bool false) (by simp only[results,results102];go_simp) rfl ⟨rfl,bq⟩
 rw[Z1 h2,Bool.true_and] at g;have aj:((t.args.length:Int) == 0)=false:=ZZ.2 oq;have ak:¬(t.args.length:Int)=0:=oq;by_cases h3:t.args.length=np
 .rw[Z1 h3,Bool.true_and] at g;subst h3;have am:((t.args.length:Int) != (t.args.length:Int))=false:=by simp
  have j:=hid g;clear g;go_wp2;go_quiet (fail);go_wp2;go_loopw [39] (fun s39 wr=>Hid (∃i:Nat,s39=.int .i64 (i:Int)/\i<=t.args.length/\(t.args.take i).all (fun a=>XM f a t.per t.ph)=true/\Below H.1.size H wr)) (fun s39 _=>t.args.length-(intOf s39).toNat)
  case atStart=>exact⟨0,rfl,Zk _,by simp,bq⟩
  obtain⟨i,rfl,hi,M,A⟩:=hrel.o;clear hrel x0 x1 x2 x3 xf q0 q1 q2 q3 qf y2;have ba:=A.size;have HBW:=hid A;have L:=hid M;have HWW:=hid (HB.o.trans (A.mono oq));obtain⟨⟨x0,x1,x2,x3⟩,xf⟩:=Yy ((A.block _ ap).trans af.o);obtain⟨⟨q0,q1,q2,q3⟩,qf⟩:=Yy ((A.block _ ar).trans ag.o);have aw:w.1.size<wr.1.size:=oq;have ax:w.1.size+1<wr.1.size:=oq;clear M A;by_cases F:i<t.args.length
  .have ao:(i:Int)<(t.args.length:Int):=oq;have av:(0:Int)<=(i:Int):=oq;obtain⟨bb,oo,rfl,O,g0,I,D,g1,G⟩:=HR.o.at F;have hA:=HA.o _ (Zi F);obtain⟨⟨src,ops⟩,z⟩:=ez (t.args[i]);rw[z] at g0 g1 G hA;simp only at g0 g1 G hA;have y0:=(HWW.o.cell (p:=⟨bb,oo+i*2,none⟩) O).trans g0;have y1:=(HWW.o.cell (p:=⟨bb,oo+i*2+1,none⟩) O).trans g1;have q:=fun(w':World) (hb:Below w.1.size w w')=>ab.o w' hb ⟨src,ops⟩ I D (G.below VK hb) hA
   have au:=hid z;have E:=zD (f:=fun a=>XM f a t.per t.ph) F;rw[z,L.o,Bool.true_and] at E
   cases hfit:XM f ⟨src,ops⟩ t.per t.ph with
   | true =>
    rw[hfit] at q E;have HC:=hid q;have ac:=hid E;clear g0 g1 G hA z q hfit E;go_wp2_with (go_at_call 103;refine(HC.o _ bq).mono ?_;rintro x w6 ⟨rfl,hb6⟩);exact⟨hid ⟨i+1,by go_num,F,ac.o,bq⟩,by simp[intOf];omega⟩
   | false =>
    rw[hfit] at q;have HC:=hid q;obtain rfl:m=false:=by
     rw[<-j.o];refine Bool.eq_false_iff.2 (fun h=>?_);have:=List.all_eq_true.1 h _ (Zi F);rw[z,hfit] at this
     cases this
    clear g0 g1 G hA z q hfit E j;go_wp2_with (go_at_call 103;refine(HC.o _ bq).mono ?_;rintro x w6 ⟨rfl,hb6⟩);exact Zl (v:=.bool false) (by simp only[results,results102];go_simp) rfl ⟨rfl,bq⟩
  have ao:¬(i:Int)<(t.args.length:Int):=oq;obtain rfl:m=true:=by
   rw[<-j.o,<-L.o,List.take_of_length_le oq]
  clear j;go_wp2;exact Zl (v:=.bool true) (by simp only[results,results102];go_simp) rfl ⟨rfl,bq⟩
 obtain rfl:m=false:=by rw[<-g,Z0 h3,Bool.false_and]
 have am:((t.args.length:Int) != (np:Int))=true:=bne_iff_ne.2 oq;clear g;go_wp2;go_quiet (fail);go_wp2;exact Zl (v:=.bool false) (by simp only[results,results102];go_simp) rfl ⟨rfl,bq⟩
def Vu(n:Int):Bool:=decide (1<=n/\n<=1000)
def K1(f:FD)(t:LD):Bool:=Vu t.dl&&XM f t.arg t.per t.ph
def Xd(f:FD):Bool:=f.ins.all (fun c=>clock.YG c.1 c.2)&&(f.nods.all (fun n=>Vu n.bud)&&(f.tasks.all (Jv f)&&(f.tells.all (K1 f)&&decide (f.tasks.length<=30))))
theorem Zgm(h:f.ins.all (fun c=>clock.YG c.1 c.2)=false):Xd f=false:=by unfold Xd;rw[h];rfl
theorem ZeI(h:f.nods.all (fun n=>Vu n.bud)=false):Xd f=false:=by unfold Xd;rw[h,Bool.false_and,Bool.and_false]
theorem Zdh(h:f.tasks.all (Jv f)=false):Xd f=false:=by unfold Xd;rw[h,Bool.false_and,Bool.and_false,Bool.and_false]
theorem jT(h:f.tells.all (K1 f)=false):Xd f=false:=by unfold Xd;rw[h,Bool.false_and,Bool.and_false,Bool.and_false,Bool.and_false]
theorem Zdg(g:f.ins.all (fun c=>clock.YG c.1 c.2)=true)(j:f.nods.all (fun n=>Vu n.bud)=true)(m:f.tasks.all (Jv f)=true)(q:f.tells.all (K1 f)=true):Xd f=decide (f.tasks.length<=30):=by
 unfold Xd;rw[g,j,m,q,Bool.true_and,Bool.true_and,Bool.true_and,Bool.true_and]
theorem Eb{p:α->Bool}{l:List α}(hi:i<l.length){x:α}(f:l[i]=x)(h:p x=false):l.all p=false:=by
 refine Bool.eq_false_iff.2 (fun h2=>?_);have:=List.all_eq_true.1 h2 _ (Zi hi);rw[f,h] at this
 cases this
theorem UJ{p:α->Bool}{l:List α}(hi:i<l.length){x:α}(f:l[i]=x)(h:p x=true)(ht:(l.take i).all p=true):(l.take (i+1)).all p=true:=by
 rw[zD hi,ht,f,h];rfl
theorem yO(p q:Int)(w:World):Calls prog 41 #[.agg #[.int .i64 p,.int .i64 q]] w fun e w'=>e=.returned (.bool (clock.YG p q))/\Below w.1.size w w':=by
 by_cases h:1<=p/\p<=2000/\0<=q/\q<=2000
 .rw[clock.Qd h];exact clock.Xj p q w h
 rw[clock.Ka h];exact clock.Q3 p q w h
theorem Ue(f:FD)(ai an aT al:OA)(ci cn ct cl:Nat)(hf:FAP w f ai an aT al) :
  Calls prog 44 #[fv f ai an aT al ci cn ct cl] w fun x w'=>x=.returned (.bool (Xd f))/\Below w.1.size w w':=by
 have bc:=hf.lens;have au:=hid (fun(w':World) (hb:Below w.1.size w w') (a:AD) J H cp cf (hra:Row OpR 3 w' a.ops J) (h1:a.ops.length<=1000/\I64 a.src)=>zO (w:=w') f ai an aT al ci cn ct cl (hf.below hb) a J H cp cf h1.2 hra h1.1);have az:=hid (fun(w':World) (hb:Below w.1.size w w') (t:TD) J H (hr:Row xP 2 w' t.args J) (ha:t.args.length<=1000/\∀a∈t.args,a.ops.length<=1000/\I64 a.src)=>zw (w:=w') f ai an aT al ci cn ct cl (hf.below hb) t J H hr ha.1 ha.2);have HF:=hid hf;obtain⟨R,Y⟩:=ez (Xd f);rw[Y];have z:=hid Y;clear hf Y;unfold fv at *;go_enter func44,ntmps44;go_upto_region 1 with fail
 obtain⟨V,ab⟩:=ez (w.alloc (.cells #[.slice ai f.ins.length ci,.slice an f.nods.length cn,.slice aT f.tasks.length ct,.slice al f.tells.length cl] 35));rw[ab];have hB:Below w.1.size w V:=by rw[<-ab];exact bq
 have ae:V.1[w.1.size]?=some (.cells #[.slice ai f.ins.length ci,.slice an f.nods.length cn,.slice aT f.tasks.length ct,.slice al f.tells.length cl] 35 (0,0)):=by rw[<-ab];exact Yx w _
 have ac:=Zb ae;obtain⟨⟨x0,x1,x2,x3⟩,xf⟩:=Yy ae;have HB:=hid hB;have aa:=hid ae;clear ab hB ae;have ba:=hid (Zg V.1.size V);go_wp2;go_loopw [14] (fun s wr=>Hid (∃i:Nat,s=.int .i64 (i:Int)/\i<=f.ins.length/\(f.ins.take i).all (fun c=>clock.YG c.1 c.2)=true/\Below V.1.size V wr)) (fun s _=>f.ins.length-(intOf s).toNat)
 case atStart=>exact⟨0,rfl,Zk _,by simp,ba.o⟩
 obtain⟨i,rfl,bd,A,m⟩:=hrel.o;clear hrel x0 x1 x2 x3 xf;have aj:=m.size;have HBW:=hid m;have y:=hid A;have HWW:=hid (HB.o.trans (m.mono oq));obtain⟨⟨x0,x1,x2,x3⟩,xf⟩:=Yy ((m.block _ ac).trans aa.o);have ah:w.1.size<wr.1.size:=oq;clear A m;by_cases q:i<f.ins.length
 .have T:(i:Int)<(f.ins.length:Int):=oq;have ag:(0:Int)<=(i:Int):=oq;obtain⟨E,G,rfl,g,I,F⟩:=HF.o.ins.at q;obtain⟨⟨cp,cf⟩,j⟩:=ez (f.ins[i]);rw[j] at I F;simp only at I F;have y0:=(HWW.o.cell (p:=⟨E,G+i*2,none⟩) g).trans I;have y1:=(HWW.o.cell (p:=⟨E,G+i*2+1,none⟩) g).trans F;have af:=hid j;have M:=hid (fun w'=>yO cp cf w')
  cases hfit:clock.YG cp cf with
  | true =>
   rw[hfit] at M;have HK:=hid (UJ (p:=(fun c=>clock.YG c.1 c.2)) q j hfit y.o);clear I F j hfit;go_wp2_with (go_at_call 41;refine(M.o _).mono ?_;rintro x w6 ⟨rfl,hb6⟩);exact⟨hid ⟨i+1,by go_num,q,HK.o,bq⟩,by simp[intOf];omega⟩
  | false =>
   rw[hfit] at M;obtain rfl:R=false:=z.o.symm.trans (Zgm (Eb (p:=(fun c=>clock.YG c.1 c.2)) q j hfit));clear I F j hfit z;go_wp2_with (go_at_call 41;refine(M.o _).mono ?_;rintro x w6 ⟨rfl,hb6⟩);exact Zl (v:=.bool false) (by simp only[results,results44];go_simp) rfl ⟨rfl,bq⟩
 have T:¬(i:Int)<(f.ins.length:Int):=oq;have av:=hid (show f.ins.all (fun c=>clock.YG c.1 c.2)=true by rw[<-y.o,List.take_of_length_le oq]);obtain⟨W2,rfl⟩:=ey wr;have ak:=hid HBW.o;clear HBW y HWW;go_wp2;go_loopw [25] (fun s wr=>Hid (∃i:Nat,s=.int .i64 (i:Int)/\i<=f.nods.length/\(f.nods.take i).all (fun n=>Vu n.bud)=true/\Below V.1.size V wr)) (fun s _=>f.nods.length-(intOf s).toNat)
 case atStart=>exact⟨0,rfl,Zk _,by simp,ak.o⟩
 obtain⟨i,rfl,be,A,m⟩:=hrel.o;clear hrel x0 x1 x2 x3 xf;have aj:=m.size;have HBW:=hid m;have y:=hid A;have HWW:=hid (HB.o.trans (m.mono oq));obtain⟨⟨x0,x1,x2,x3⟩,xf⟩:=Yy ((m.block _ ac).trans aa.o);have ah:w.1.size<wr.1.size:=oq;clear A m;by_cases q:i<f.nods.length
 .have T:(i:Int)<(f.nods.length:Int):=oq;have ag:(0:Int)<=(i:Int):=oq;obtain⟨E,G,rfl,g,nm,pa,pc,k9,bh,n2,d2,ea,el,ec,a2,a9,I,F,L,O,g4,g5,g6,g7,g8,g9⟩:=HF.o.nods.at q;obtain⟨⟨bud,np⟩,j⟩:=ez (f.nods[i]);rw[j] at F L;simp only at F L;have y0:=(HWW.o.cell (p:=⟨E,G+i*10,none⟩) g).trans I;have y1:=(HWW.o.cell (p:=⟨E,G+i*10+1,none⟩) g).trans F;have y2:=(HWW.o.cell (p:=⟨E,G+i*10+2,none⟩) g).trans L;have y3:=(HWW.o.cell (p:=⟨E,G+i*10+3,none⟩) g).trans O;have y4:=(HWW.o.cell (p:=⟨E,G+i*10+4,none⟩) g).trans g4;have y5:=(HWW.o.cell (p:=⟨E,G+i*10+5,none⟩) g).trans g5;have y6:=(HWW.o.cell (p:=⟨E,G+i*10+6,none⟩) g).trans g6;have y7:=(HWW.o.cell (p:=⟨E,G+i*10+7,none⟩) g).trans g7;have y8:=(HWW.o.cell (p:=⟨E,G+i*10+8,none⟩) g).trans g8;have y9:=(HWW.o.cell (p:=⟨E,G+i*10+9,none⟩) g).trans g9;have af:=hid j;have M:=hid (fun w'=>yt (w:=w') bud)
  cases hfit:Vu bud with
  | true =>
   rw[show decide (1<=bud/\bud<=1000)=true from hfit] at M;have HK:=hid (UJ (p:=(fun n=>Vu n.bud)) q j hfit y.o);clear I F L O g4 g5 g6 g7 g8 g9 j hfit;go_wp2_with (go_at_call 101;refine(M.o _).mono ?_;rintro x w6 ⟨rfl,rfl⟩);exact⟨hid ⟨i+1,by go_num,q,HK.o,bq⟩,by simp[intOf];omega⟩
  | false =>
   rw[show decide (1<=bud/\bud<=1000)=false from hfit] at M;obtain rfl:R=false:=z.o.symm.trans (ZeI (Eb (p:=(fun n=>Vu n.bud)) q j hfit));clear I F L O g4 g5 g6 g7 g8 g9 j hfit z;go_wp2_with (go_at_call 101;refine(M.o _).mono ?_;rintro x w6 ⟨rfl,rfl⟩);exact Zl (v:=.bool false) (by simp only[results,results44];go_simp) rfl ⟨rfl,bq⟩
 have T:¬(i:Int)<(f.nods.length:Int):=oq;have aw:=hid (show f.nods.all (fun n=>Vu n.bud)=true by rw[<-y.o,List.take_of_length_le oq]);obtain⟨W3,rfl⟩:=ey wr;have am:=hid HBW.o;clear HBW y HWW;go_wp2;go_loopw [37] (fun s wr=>Hid (∃i:Nat,s=.int .i64 (i:Int)/\i<=f.tasks.length/\(f.tasks.take i).all (Jv f)=true/\Below V.1.size V wr)) (fun s _=>f.tasks.length-(intOf s).toNat)
 case atStart=>exact⟨0,rfl,Zk _,by simp,am.o⟩
 obtain⟨i,rfl,bf,A,m⟩:=hrel.o;clear hrel x0 x1 x2 x3 xf;have aj:=m.size;have HBW:=hid m;have y:=hid A;have HWW:=hid (HB.o.trans (m.mono oq));obtain⟨⟨x0,x1,x2,x3⟩,xf⟩:=Yy ((m.block _ ac).trans aa.o);have ah:w.1.size<wr.1.size:=oq;clear A m;by_cases q:i<f.tasks.length
 .have T:(i:Int)<(f.tasks.length:Int):=oq;have ag:(0:Int)<=(i:Int):=oq;obtain⟨E,G,rfl,g,I,F,L,J,H,O,D⟩:=HF.o.tasks.at q;have X:=HF.o.args _ (Zi q);obtain⟨⟨nd,Z,ph,args⟩,j⟩:=ez (f.tasks[i]);rw[j] at I F L O D X;simp only at I F L O D X;have y0:=(HWW.o.cell (p:=⟨E,G+i*4,none⟩) g).trans I;have y1:=(HWW.o.cell (p:=⟨E,G+i*4+1,none⟩) g).trans F;have y2:=(HWW.o.cell (p:=⟨E,G+i*4+2,none⟩) g).trans L;have y3:=(HWW.o.cell (p:=⟨E,G+i*4+3,none⟩) g).trans O;have af:=hid j;have C:=fun(w':World) (hb:Below w.1.size w w')=>az.o w' hb ⟨nd,Z,ph,args⟩ J H (D.below vC hb) X
  cases hfit:Jv f ⟨nd,Z,ph,args⟩ with
  | true =>
   rw[hfit] at C;have M:=hid C;have HK:=hid (UJ (p:=(Jv f)) q j hfit y.o);clear I F L O D X j hfit C;go_wp2_with (go_at_call 102;refine(M.o _ bq).mono ?_;rintro x w6 ⟨rfl,hb6⟩);exact⟨hid ⟨i+1,by go_num,q,HK.o,bq⟩,by simp[intOf];omega⟩
  | false =>
   rw[hfit] at C;have M:=hid C;obtain rfl:R=false:=z.o.symm.trans (Zdh (Eb (p:=(Jv f)) q j hfit));clear I F L O D X j hfit C z;go_wp2_with (go_at_call 102;refine(M.o _ bq).mono ?_;rintro x w6 ⟨rfl,hb6⟩);exact Zl (v:=.bool false) (by simp only[results,results44];go_simp) rfl ⟨rfl,bq⟩
 have T:¬(i:Int)<(f.tasks.length:Int):=oq;have ax:=hid (show f.tasks.all (Jv f)=true by rw[<-y.o,List.take_of_length_le oq]);obtain⟨W4,rfl⟩:=ey wr;have ao:=hid HBW.o;clear HBW y HWW;go_wp2;go_loopw [49] (fun s wr=>Hid (∃i:Nat,s=.int .i64 (i:Int)/\i<=f.tells.length/\(f.tells.take i).all (K1 f)=true/\Below V.1.size V wr)) (fun s _=>f.tells.length-(intOf s).toNat)
 case atStart=>exact⟨0,rfl,Zk _,by simp,ao.o⟩
 obtain⟨i,rfl,bg,A,m⟩:=hrel.o;clear hrel x0 x1 x2 x3 xf;have aj:=m.size;have HBW:=hid m;have y:=hid A;have HWW:=hid (HB.o.trans (m.mono oq));obtain⟨⟨x0,x1,x2,x3⟩,xf⟩:=Yy ((m.block _ ac).trans aa.o);have ah:w.1.size<wr.1.size:=oq;clear A m;by_cases q:i<f.tells.length
 .have T:(i:Int)<(f.tells.length:Int):=oq;have ag:(0:Int)<=(i:Int):=oq;obtain⟨E,G,rfl,g,I,F,L,g4,J,H,O,D⟩:=HF.o.tells.at q;have X:=HF.o.tops _ (Zi q);obtain⟨⟨Z,ph,⟨src,ar⟩,dl⟩,j⟩:=ez (f.tells[i]);rw[j] at I F L O g4 D X;simp only at I F L O g4 D X;have y0:=(HWW.o.cell (p:=⟨E,G+i*5,none⟩) g).trans I;have y1:=(HWW.o.cell (p:=⟨E,G+i*5+1,none⟩) g).trans F;have y2:=(HWW.o.cell (p:=⟨E,G+i*5+2,none⟩) g).trans L;have y3:=(HWW.o.cell (p:=⟨E,G+i*5+3,none⟩) g).trans O;have y4:=(HWW.o.cell (p:=⟨E,G+i*5+4,none⟩) g).trans g4;have af:=hid j;have C:=fun(w':World) (hb:Below w.1.size w w')=>au.o w' hb ⟨src,ar⟩ J H Z ph (D.below VK hb) X
  have HT:=hid (fun w'=>yt (w:=w') dl)
  cases htk:Vu dl with
  | false =>
   rw[show decide (1<=dl/\dl<=1000)=false from htk] at HT;obtain rfl:R=false:=z.o.symm.trans (jT (Eb (p:=(K1 f)) q j (by unfold K1;rw[htk];rfl)));clear I F L O g4 D X j htk C z;go_wp2_with (go_at_call 101;refine(HT.o _).mono ?_;rintro x w5 ⟨rfl,rfl⟩);exact Zl (v:=.bool false) (by simp only[results,results44];go_simp) rfl ⟨rfl,bq⟩
  | true =>
   rw[show decide (1<=dl/\dl<=1000)=true from htk] at HT
   cases hfit:XM f ⟨src,ar⟩ Z ph with
   | true =>
    rw[hfit] at C;have M:=hid C;have HK:=hid (UJ (p:=(K1 f)) q j (by unfold K1;rw[htk];exact hfit) y.o);clear I F L O g4 D X j htk C hfit;go_wp2_with (first|(go_at_call 101;refine(HT.o _).mono ?_;rintro x w5 ⟨rfl,rfl⟩)|(go_at_call 103;refine(M.o _ bq).mono ?_;rintro x w6 ⟨rfl,hb6⟩));exact⟨hid ⟨i+1,by go_num,q,HK.o,bq⟩,by simp[intOf];omega⟩
   | false =>
    rw[hfit] at C;have M:=hid C;obtain rfl:R=false:=z.o.symm.trans (jT (Eb (p:=(K1 f)) q j (by unfold K1;rw[htk];exact hfit)));clear I F L O g4 D X j htk C hfit z;go_wp2_with (first|(go_at_call 101;refine(HT.o _).mono ?_;rintro x w5 ⟨rfl,rfl⟩)|(go_at_call 103;refine(M.o _ bq).mono ?_;rintro x w6 ⟨rfl,hb6⟩));exact Zl (v:=.bool false) (by simp only[results,results44];go_simp) rfl ⟨rfl,bq⟩
 have T:¬(i:Int)<(f.tells.length:Int):=oq;have ay:=hid (show f.tells.all (K1 f)=true by rw[<-y.o,List.take_of_length_le oq]);have U:=z.o.symm.trans (Zdg av.o aw.o ax.o ay.o);by_cases ap:f.tasks.length<=30
 .have aq:(f.tasks.length:Int)<=30:=oq;obtain rfl:R=true:=by rw[U,Z1 ap]
  clear U z;go_wp2;exact Zl (v:=.bool true) (by simp only[results,results44];go_simp) rfl ⟨rfl,bq⟩
 have aq:¬(f.tasks.length:Int)<=30:=oq;obtain rfl:R=false:=by rw[U,Z0 ap]
 clear U z;go_wp2;exact Zl (v:=.bool false) (by simp only[results,results44];go_simp) rfl ⟨rfl,bq⟩
open Go.RowKit index clock
theorem ZbC:∀(l:List Op3)(n:Int),l.any Xr=false->0<=n->n<=1099511627776->(∃m,XJ l n=.ok m/\0<=m/\m<=1099511627776)\/(∃N,XJ l n=.error (0,N,2))\/XJ l n=.error (0,0,0):=by
 intro l
 induction l with
 | nil=>intro n _ f g;exact .inl ⟨n,rfl,f,g⟩
 | cons o l ih =>
  intro n j f g;rw[List.any_cons,Bool.or_eq_false_iff] at j;rw[XJ];by_cases hb:n=0/\XX o=true
  .have:XN o n=.error (0,o.2.1,2):=by unfold XN;exact Z3 hb
   rw[this];exact .inr (.inl ⟨_,rfl⟩)
  cases hs:X7 o n with
  | none =>
   have:XN o n=.error (0,0,0):=by unfold XN;rw[Z2 hb,hs]
   rw[this];exact .inr (.inr rfl)
  | some t =>
   have:XN o n=.ok t:=by unfold XN;rw[Z2 hb,hs]
   rw[this];have ht:=zc j.1 f g hb hs;exact ih t j.2 ht.1 ht.2
theorem eT:∀(p q:List Op3)(n:Int),XJ (p++q) n=match XJ p n with|.ok t=>XJ q t|.error e=>.error e:=by
 intro p
 induction p with
 | nil=>intro q n;rfl
 | cons x p ih =>
  intro q n;simp only[ZD,XJ]
  cases XN x n with
  | ok t=>exact ih q t
  | error e=>rfl
theorem Jf{p f k n d z f1:Int}(h:YD p f k n d=(z,f1,0)):YG p f=true/\YG z f1=true/\Jz k n d=true/\3<=k/\k<=8:=by
 unfold YD at h;split at h
 .simp only[Z5] at h;omega
 rename_i h0
 have x:YG p f=true:=by cases q:YG p f with|true=>rfl|false=>exact absurd (Or.inl q) h0
 have y:3<=k/\k<=8:=by
  constructor
  .exact Int.not_lt.1 (fun j=>h0 (Or.inr (Or.inl j)))
  exact Int.not_lt.1 (fun j=>h0 (Or.inr (Or.inr j)))
 split at h
 .simp only[Z5] at h;omega
 rename_i hf
 have v:Jz k n d=true:=by cases q:Jz k n d with|true=>rfl|false=>exact absurd q hf
 refine⟨x,?_,v,y.1,y.2⟩;have q:=Xz.1 x;have g:=Yk (show decide _=true from v);refine Xz.2 ?_;split at h
 .rename_i h3
  split at h
  .rename_i hz
   simp only[Z5] at h;obtain⟨rfl,rfl,_⟩:=h;have m:=g.1 (Or.inl h3);have e:=Int.ediv_mul_cancel (Int.dvd_of_emod_eq_zero hz);have C:1<=p/n:=by
    apply Yi;intro j;have:=Int.mul_le_mul_of_nonneg_right (show p/n<=0 by omega) (show 0<=n by omega);omega
   have A:p/n<=p:=Int.ediv_le_self n oq;omega
  simp only[Z5] at h;omega
 split at h
 .rename_i h4
  split at h
  .rename_i hz
   simp only[Z5] at h;obtain⟨rfl,rfl,_⟩:=h;have m:=g.1 (Or.inr h4);have:p*1<=p*n:=Int.mul_le_mul_of_nonneg_left m.1 oq;omega
  simp only[Z5] at h;omega
 split at h
 .rename_i h5
  split at h
  .unfold fin at h;have m:=g.2 h5;have:=Int.ediv_nonneg (Int.mul_nonneg (show 0<=p by omega) m.2.2.1) (show 0<=d by omega);split at h<;>(simp only[Z5] at h;omega)
  simp only[Z5] at h;omega
 split at h
 .simp only[Z5] at h;omega
 split at h
 .unfold fin at h;split at h<;>(simp only[Z5] at h;omega)
 split at h<;>(simp only[Z5] at h;omega)
theorem Zac{p f k N d q f1 t i:Int}(h:YD p f k N d=(q,f1,0))(j:XN (k,N,d) t=.ok i) :
  f+i*p<=f1+t*q/\(Xa (k,N,d)=true->f+i*p<f1+t*q):=by
 obtain⟨y,C,v,D,E⟩:=Jf h;have M:=Xz.1 y;have m:=Yk (show decide _=true from v);have g:X7 (k,N,d) t=some i:=by
  unfold XN at j;split at j
  .cases j
  cases hx:X7 (k,N,d) t with
  | none=>rw[hx] at j;cases j
  | some x=>rw[hx] at j;injection j with j;rw[j]
 unfold YD at h;rw[Z2 (by rw[y];simp;omega),Z2 (by rw[v];simp)] at h;unfold X7 at g;simp only at g;have G:k=3\/k=4\/k=5\/k=6\/k=7\/k=8:=oq;rcases G with rfl|rfl|rfl|rfl|rfl|rfl
 .simp only[Z3] at h g;injection g with g
  subst g;split at h
  .rename_i hz
   simp only[Z5] at h;obtain⟨rfl,rfl,_⟩:=h;have z:=m.1 (Or.inl rfl);have e:=Int.ediv_mul_cancel (Int.dvd_of_emod_eq_zero hz);have A:0<=p/N:=Int.ediv_nonneg oq oq;have F:t/N*N<=t:=Int.ediv_mul_le t oq;have:t/N*N*(p/N)<=t*(p/N):=Int.mul_le_mul_of_nonneg_right F A;have I:t/N*p=t/N*N*(p/N):=by rw[Int.mul_assoc,Int.mul_comm N,e]
   refine⟨oq,fun hd=>?_⟩;simp[Xa] at hd
  simp only[Z5] at h;omega
 .simp only[Z3,Z2 (show ¬(4:Int)=3 by decide)] at h g;split at h
  .rename_i hz
   split at g
   .injection g with g
    subst g;simp only[Z5] at h;obtain⟨rfl,rfl,_⟩:=h;have e:t*N*p=t*(p*N):=by rw[Int.mul_assoc,Int.mul_comm N]
    refine⟨oq,fun hd=>?_⟩;simp[Xa] at hd
   cases g
  simp only[Z5] at h;omega
 .simp at h g;subst g;split at h
  .rename_i hz
   have z:=m.2 rfl;have A:=Int.ediv_nonneg (Int.mul_nonneg (show 0<=p by omega) z.2.2.1) (show 0<=d by omega);unfold fin at h;split at h
   .simp only[Z5] at h;obtain⟨rfl,rfl,_⟩:=h;refine⟨oq,fun hd=>?_⟩;simp[Xa] at hd;have H:1<=N:=oq;have O:p*1<=p*N:=Int.mul_le_mul_of_nonneg_left H oq;have e:=Int.ediv_mul_cancel (Int.dvd_of_emod_eq_zero hz);have L:1<=p*N/d:=by
     apply Yi;intro J;have:=Int.mul_le_mul_of_nonneg_right (show p*N/d<=0 by omega) (show 0<=d by omega);omega
    omega
   simp only[Z5] at h;omega
  simp only[Z5] at h;omega
 .simp at h g;subst g;obtain⟨rfl,rfl⟩:=h;have e:(t-1)*p=t*p-p:=by rw[Int.sub_mul,Int.one_mul]
  exact⟨oq,fun _=>oq⟩
 .simp at h g;obtain⟨_,rfl⟩:=g;unfold fin at h;split at h
  .simp only[Z5] at h;obtain⟨rfl,rfl,_⟩:=h;have e:(t+1)*p=t*p+p:=by rw[Int.add_mul,Int.one_mul]
   refine⟨oq,fun hd=>?_⟩;simp[Xa] at hd
  simp only[Z5] at h;omega
 simp at h g;subst g;split at h
 .simp only[Z5] at h;obtain⟨rfl,rfl,_⟩:=h;have e:(t-1)*p=t*p-p:=by rw[Int.sub_mul,Int.one_mul]
  refine⟨oq,fun hd=>?_⟩;simp[Xa] at hd
 simp only[Z5] at h;omega
theorem Zae:∀(l:List Op3)(p f j g n i:Int),YG p f=true->YL p f l=(j,g,0)->XJ l.reverse n=.ok i ->
  YG j g=true/\f+i*p<=g+n*j/\(l.any Xa=true->f+i*p<g+n*j):=by
 intro l
 induction l with
 | nil =>
  intro p f j g n i q h hb;simp only[YL,Z5] at h;obtain⟨rfl,rfl,_⟩:=h;simp only[List.reverse_nil,XJ] at hb;injection hb with hb
  subst hb;exact⟨q,Int.le_refl _,fun h=>by simp at h⟩
 | cons o r ih =>
  intro p f j g n i q h hb;obtain⟨k,N,d⟩:=o;rw[List.reverse_cons,eT] at hb;rw[YL] at h;rcases ha:YD p f k N d with ⟨p1,f1,e1⟩
  simp only[ha] at h;split at h
  .rename_i he
   subst he
   cases hx:XJ r.reverse n with
   | error e=>rw[hx] at hb;cases hb
   | ok t =>
    rw[hx] at hb;simp only[XJ] at hb
    cases hs:XN (k,N,d) t with
    | error e=>rw[hs] at hb;cases hb
    | ok i' =>
     rw[hs] at hb;injection hb with hb
     subst hb;have v:=Zac ha hs;have m:=ih p1 f1 j g n t (Jf ha).2.1 h hx;refine⟨m.1,oq,fun hd=>?_⟩;rw[List.any_cons,Bool.or_eq_true] at hd;rcases hd with hd|hd
     .have:=v.2 hd;omega
     have:=m.2.2 hd;omega
  rename_i he
  simp only[Z5] at h;exact absurd h.2.2 he
theorem eW{l:List Op3}{x:Int}(h:QD l n=(m,x,1)):XJ l.reverse n=.ok m/\0<=m/\m<=1099511627776:=by
 unfold QD at h;split at h
 .cases h
 rename_i hc
 have f:l.reverse.any Xr=false:=by
  rw[List.any_reverse]
  cases f:l.any Xr with
  | false=>rfl
  | true=>exact absurd (Or.inr (Or.inr f)) hc
 rcases ZbC l.reverse n f oq oq with ⟨t,h1,h2,h3⟩|⟨N,h1⟩|h1
 .rw[h1] at h ⊢;simp only[ZcW,Z5] at h;obtain⟨rfl,_,_⟩:=h;exact⟨rfl,h2,h3⟩
 .rw[h1] at h;simp only[ZcW,Z5] at h;omega
 rw[h1] at h;simp only[ZcW,Z5] at h;omega
theorem uh{a:AD}{j g n m x:Int}(h:XM f a j g=true)(hb:QD a.ops n=(m,x,1)) :
  0<=m/\∃sp sf,XV f a.src=some (sp,sf)/\YG sp sf=true/\YG j g=true/\sf+m*sp<=g+n*j/\(a.ops.any Er=true->sf+m*sp<g+n*j):=by
 unfold XM at h
 cases hs:XV f a.src with
 | none=>rw[hs] at h;cases h
 | some s =>
  obtain⟨sp,sf⟩:=s;rw[hs] at h;simp only[ZC,Yl] at h;obtain⟨_,q,y,z⟩:=h;obtain⟨A,C,_⟩:=eW hb;unfold V9 at q y z;by_cases v:YG sp sf=true
  .rw[Z3 v] at q y z;have:=Zae a.ops sp sf j g n m v (by rw[<-q,<-y,<-z]) A;exact⟨C,sp,sf,rfl,v,this.1,this.2.1,this.2.2⟩
  rw[Z2 v] at q;simp at q
