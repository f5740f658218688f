/- Parts of the proof. -/
import Derived.StillTailTactics
import Derived.Test.YtdgifkjaflfdeaaGreatDoorX05
set_option linter.all false
set_option maxRecDepth 100000
set_option maxHeartbeats 16000000
namespace Go.Proofs.YtdgifkjaflfdeaaGreatDoor.syn
open Tryz
open Go.RowKit
variable {W1 w:World}{gb mb nn N p:Nat}{f stk0:List SE}{e:PE}{s:SE}
theorem qR(h:GW W1 gb mb nn f w){b o:Nat}(j:JC W1 b o e)(z:nn<=60000000000)(y:f.length<=1000)(g:UC e) :
  Calls prog 261 #[.pointer (some ⟨gb,0,none⟩),.pointer (some ⟨b,o,none⟩)] w fun x w'=>x=.returned (.tuple #[])/\((∃m,(m<=nn+1\/(e.args.len≠0/\m<=2*nn))/\GW W1 gb mb m f w')\/GW W1 gb mb nn (f++[⟨b,o,0,nn,e⟩]) w'):=by
 by_cases q:e.k=11
 .exact(ZcE h j q z).mono fun x w' ⟨h1,h2⟩=>⟨h1,.inl ⟨_,.inl (Zc _),h2⟩⟩
 by_cases v:e.args.len=0
 .exact(ZcD h j q (ZfX v)).mono fun x w' ⟨h1,h2⟩=>⟨h1,.inl ⟨nn,.inl (Nat.le_succ _),h2▸h⟩⟩
 refine(Zay h j q v z y g).mono fun x w' ⟨h1,h2⟩=>⟨h1,?_⟩
 rcases h2 with ⟨m,hm,h2⟩|h2
 .exact .inl ⟨m,.inr ⟨v,hm⟩,h2⟩
 exact .inr h2
structure Zfv (w:World) (gb g co:Nat) (vn:Value) (mb:Nat) (stk0:List SE) (s:SE):Prop where
 gbk:w.1[gb]?=some (XH vn (.slice (some ⟨g,0,none⟩) (stk0.length+1) co) mb)
 c0:w.cell? ⟨g,stk0.length*3,none⟩=some (.pointer (some ⟨s.b,s.o,none⟩))
 c1:w.cell? ⟨g,stk0.length*3+1,none⟩=some (.int .i64 s.next)
 c2:w.cell? ⟨g,stk0.length*3+2,none⟩=some (.int .i64 s.fr)
 fz:w.frozen? ⟨g,stk0.length*3+1,none⟩=false
 cap:stk0.length+1<=co
theorem last_at(h:GW W1 gb mb nn (stk0++[s]) w):∃vn g co xs,Zfv w gb g co vn mb stk0 s/\w.ownsRow W1.1.size 111 6 vn nn xs/\NmR xs nn/\w.ownsRow W1.1.size 401 3 (.slice (some ⟨g,0,none⟩) (stk0.length+1) co) (stk0.length+1) (UB stk0++s.v):=by
 obtain⟨vn,C,xs,y,x,q,f⟩:=h.sta;have z:(stk0++[s]).length=stk0.length+1:=by simp
 rw[z,Q6] at f;obtain⟨g,co,rfl,_,_⟩:=f.form oq;have m:∀j,j<3->w.cell? ⟨g,stk0.length*3+j,none⟩=(SE.v s)[j]?:=by
  intro j A;rw[f.cellAt _ oq,List.getElem?_append_right (by rw[Jy];omega),Jy,Nat.add_sub_cancel_left];show(s.v++[])[j]?=_;rw[List.append_nil]
 exact⟨vn,g,co,xs,⟨y,m 0 oq,m 1 oq,m 2 oq,f.frozenAt _,xj f⟩,x,q,by simpa [UB] using f⟩
theorem GW.next{W1 w:World}{gb mb nn g H:Nat}{stk0:List SE}{s:SE}{I:Value}(h:GW W1 gb mb nn (stk0++[s]) w)(z:w.1[gb]?=some (XH I (.slice (some ⟨g,0,none⟩) (stk0.length+1) H) mb))(E:s.next+1<=s.e.args.len) :
  GW W1 gb mb nn (stk0++[⟨s.b,s.o,s.next+1,s.fr,s.e⟩]) (w.setCell ⟨g,stk0.length*3+1,none⟩ (.int .i64 ((s.next:Int)+1))):=by
 obtain⟨⟨R,y,G⟩,f⟩:=Ut h z;have O:(stk0++[s]).length=stk0.length+1:=by simp
 rw[O,Q6] at f;have C:g≠gb:=fun e=>XL f z (by decide) (by rw[<-e];rfl)
 obtain⟨arr,clock,F,_⟩:=id h.map;have A:g≠mb:=fun e=>Us f (b:=mb) (fun cur e2=>by rw[F] at e2;cases e2) (by rw[<-e];rfl)
 have M:=(f.lt g rfl);have q:=h.low.size;have m:∀k,k≠g->(w.setCell ⟨g,stk0.length*3+1,none⟩ (.int .i64 ((s.next:Int)+1))).1[k]?=w.1[k]?:=fun k m=>heap_setCell_other _ _ _ _ m
 have D:(stk0++[(⟨s.b,s.o,s.next+1,s.fr,s.e⟩:SE)]).length=stk0.length+1:=by simp
 refine⟨⟨h.low.os,h.low.tape,h.low.output,by simpa [World.setCell] using q,fun k hk1=>(m k oq).trans (h.low.block k hk1)⟩,h.hgb,h.hmb,⟨I,.slice (some ⟨g,0,none⟩) (stk0.length+1) H,R,(m gb (fun e=>C e.symm)).trans z,?_,G,?_⟩,h.map.keep (m mb (fun e=>A e.symm)) (fun _ h=>h),fun x hx=>?_⟩
 .refine Xi y fun k hk1=>m k fun e=>?_
  rcases f.2 with ⟨j,_⟩|⟨g2,cap2,cur,j,_,hgo2,_⟩
  .cases j
  injection j with j _ _;injection j with j;injection j with j
  rw[e] at hk1;exact XL y (b:=g) (by rw[j];exact hgo2) (by decide) hk1.symm
 .rw[D,Q6];have:=(f.stored (stk0.length*3+1) (.int .i64 ((s.next:Int)+1))).1;rw[List.set_append_right _ _ (by rw[Jy];omega),Jy,Nat.add_sub_cancel_left] at this;simpa [UB,SE.v] using this
 rcases List.mem_append.1 hx with hx|hx
 .exact h.stk x (List.mem_append_left _ hx)
 rw[List.mem_singleton.1 hx];obtain⟨j,T,J,L⟩:=h.stk s (by simp);exact⟨j,E,J,L⟩
theorem Za8(h:GW W1 gb mb nn (stk0++[s]) w)(hn:nn<=60000000000)(ap:stk0.length<=900)(M:s.next<s.e.args.len) :
  Calls prog 262 #[.pointer (some ⟨gb,0,none⟩)] w fun x w'=>x=.returned (.tuple #[])/\∃e,s.e.args.at s.next=some e/\((∃m,(m<=nn+1\/(e.args.len≠0/\m<=2*nn))/\GW W1 gb mb m (stk0++[{ s with next:=s.next+1 }]) w')\/∃b o,GW W1 gb mb nn (stk0++[{ s with next:=s.next+1 }]++[⟨b,o,0,nn,e⟩]) w'):=by
 obtain⟨vn,g,co,xs,q,an,am,ao⟩:=last_at h;obtain⟨hex,ax,au,X⟩:=h.stk s (by simp);obtain⟨e,z,aq⟩:=s.e.args.at_some s.next M;have ah:=hid q;obtain⟨⟨g0,g1,g2⟩,gf⟩:=XZ q.gbk;have A:=q.c0;have C:=q.c1;have D:=q.fz;obtain⟨ad,cap,c4,y⟩:=hex.c4;have ar:=hex.len;obtain⟨O,o',rfl,ak,V,Z⟩:∃O o',ad=some ⟨O,o',none⟩/\O<W1.1.size/\AC W1 s.e.args O o'/\NF W1 s.e.args O o':=by
  rcases y with h0|h0
  .rw[h0] at M;exact absurd M (Ym _)
  exact h0
 have ae:=hid (JC.child s.e.args ak V Z s.next e z);have ab:=hid (Ar2.at s.e.args s.next e X.2 z);have d4:=(h.low.cell (p:=⟨s.b,s.o+4,none⟩) hex.lt).trans c4;have ag:=hid h;have ac:=hid z;have T:=hid (Zh hex.lt c4);obtain⟨m,Y⟩:=ez stk0.length;rw[Y] at A C D g1 ap;obtain⟨sb,so,f,aa,se⟩:=s;simp only at *;have ay:IntKind.i64.wrap (m:Int)=(m:Int):=ZL _ oq;have bc:IntKind.i64.wrap (f:Int)=(f:Int):=ZL _ oq;have az:IntKind.i64.wrap ((m:Int)+1-1)=(m:Int):=by rw[show(m:Int)+1-1=m by omega];exact ZL _ oq
 have av:(0:Int)<=(m:Int):=oq;have aw:(m:Int)<(m:Int)+1:=oq;have be:(f:Int)<(se.args.len:Int):=oq;have ba:IntKind.i64.wrap ((f:Int)+1)=(f:Int)+1:=ZL _ oq;have bb:IntKind.i64.wrap ((f:Int)+1-1)=(f:Int):=by rw[show(f:Int)+1-1=f by omega];exact ZL _ oq
 have bd:(0:Int)<=(f:Int):=oq;clear q an am ao hex y V Z z aq h c4 X;go_enter func262,ntmps262;go_wp2;go_still_tail 11,kq
 change wpList _ _ _ _ _ (w).drew;have H:(w).drew.1=(w).1:=rfl;have E:Below (w).1.size (w) (w).drew:=(Zg _ _).drew;have L:=hid (Zh H E);clear H E;change (w).drew.cell? _=_ at g1 A C d4;change (w).drew.frozen? _=_ at D;generalize (w).drew=wa at *
 go_wp2;go_still_tail 12,kq
 change wpList _ _ _ _ _ (wa).drew;have I:(wa).drew.1=(wa).1:=rfl;have F:Below (wa).1.size (wa) (wa).drew:=(Zg _ _).drew;have U:=hid (Zh I F);clear I F;change (wa).drew.cell? _=_ at g1 A C d4;change (wa).drew.frozen? _=_ at D;generalize (wa).drew=wb at *
 go_wp2;have j:GW W1 gb mb nn (stk0++[⟨sb,so,f+1,aa,se⟩]) (wb.setCell ⟨g,m*3+1,none⟩ (.int .i64 ((f:Int)+1))):=by
  have hb:Below w.1.size w wb:=L.o.2.trans (U.o.2.mono (by rw[L.o.1];exact Zc _));have al:wb.1=w.1:=U.o.1.trans L.o.1;have:=GW.next (ag.o.same hb) (stk0:=stk0) (s:=⟨sb,so,f,aa,se⟩) (by rw[al];exact ah.o.gbk) (by show f+1<=se.args.len;omega);rw[Y] at this;exact this
 have e0:(wb.setCell ⟨g,m*3+1,none⟩ (.int .i64 ((f:Int)+1))).cell? ⟨g,m*3,none⟩=some (.pointer (some ⟨sb,so,none⟩)):=by go_simp
 have e1:(wb.setCell ⟨g,m*3+1,none⟩ (.int .i64 ((f:Int)+1))).cell? ⟨g,m*3+1,none⟩=some (.int .i64 ((f:Int)+1)):=by go_simp
 have e4:(wb.setCell ⟨g,m*3+1,none⟩ (.int .i64 ((f:Int)+1))).cell? ⟨sb,so+4,none⟩=some (.slice (some ⟨O,o',none⟩) se.args.len cap):=(j.low.cell (p:=⟨sb,so+4,none⟩) T.o.1).trans T.o.2;have ef:=gf;clear A C d4 D g1;generalize wb.setCell ⟨g,m*3+1,none⟩ (.int .i64 ((f:Int)+1))=w5 at *;have af:=hid j;have ef:w5.frozen? ⟨gb,0,none⟩=false:=by
  obtain⟨_,_,_,hg,_⟩:=j.sta;exact(XZ hg).2 0
 clear j;go_still_tail 14,kq
 change wpList _ _ _ _ _ (w5).drew;have J:(w5).drew.1=(w5).1:=rfl;have G:Below (w5).1.size (w5) (w5).drew:=(Zg _ _).drew;have aj:=hid (Zh J G);clear J G;change (w5).drew.cell? _=_ at e0 e1 e4;change (w5).drew.frozen? _=_ at ef;generalize (w5).drew=wc at *
 have ai:=hid (qR (af.o.same aj.o.2) ae.o hn (by simp;omega) ab.o);go_wp2_with (go_at_call 261;refine ai.o.mono ?_;rintro x w6 ⟨rfl,R⟩;have H6:=hid R;clear R);refine Zl (v:=.tuple #[]) ?_ rfl ?_
 .simp[results,results262]
 refine⟨rfl,e,ac.o,?_⟩;rcases H6.o with R|R
 .exact .inl R
 exact .inr ⟨_,_,R⟩
theorem GW.pop{gb mb nn g q:Nat}{E:Value}(h:GW W1 gb mb nn (stk0++[s]) w)(j:w.1[gb]?=some (XH E (.slice (some ⟨g,0,none⟩) (stk0.length+1) q) mb)) :
  GW W1 gb mb nn stk0 (w.setCell ⟨gb,1,none⟩ (.slice (some ⟨g,0,none⟩) stk0.length q)):=by
 obtain⟨⟨I,y,D⟩,z⟩:=Ut h j;have H:(stk0++[s]).length=stk0.length+1:=by simp
 rw[H,Q6] at z;obtain⟨arr,clock,C,_⟩:=id h.map;have A:mb≠gb:=fun e=>by rw[<-e,C] at j;cases j
 have G:=Zb j;have v:=h.low.size;have F:=h.hgb;have m:∀k,k≠gb->(w.setCell ⟨gb,1,none⟩ (.slice (some ⟨g,0,none⟩) stk0.length q)).1[k]?=w.1[k]?:=fun k m=>heap_setCell_other _ _ _ _ m
 refine⟨⟨h.low.os,h.low.tape,h.low.output,by simpa [World.setCell] using v,fun k hk1=>(m k oq).trans (h.low.block k hk1)⟩,h.hgb,h.hmb,⟨E,_,I,gH j _,?_,D,?_⟩,h.map.keep (m mb A) (fun _ h=>h),fun x hx=>h.stk x (List.mem_append_left _ hx)⟩
 .exact Xi y fun k hk1=>m k fun e=>XL y j (by decide) (by rw[<-e];exact hk1.symm)
 have f:w.ownsRow W1.1.size 401 3 (.slice (some ⟨g,0,none⟩) stk0.length q) stk0.length (UB stk0):=by
  refine⟨Jy _,?_⟩;rcases z.2 with ⟨f,_⟩|⟨g2,cap2,cur,f,h2,h3,h4,h5,h6,h7⟩
  .cases f
  injection f with f h1b h1c;injection f with f;injection f with f
  subst f;subst h1c;refine .inr ⟨g,q,cur,rfl,h2,h3,oq,h5,h6,?_⟩;have:=Z4 (List.take (stk0.length*3)) h7;rw[List.take_take,Nat.min_eq_left oq] at this;rw[this,List.take_append_of_le_length (by rw[Jy];exact Zc _),List.take_of_length_le (by rw[Jy];exact Zc _)]
 exact Xi f fun k hk1=>m k fun e=>XL f j (by decide) (by rw[<-e];exact hk1.symm)
theorem ZfR{W1 w w3:World}{y:List SE}{z A:Value}(h:GW W1 gb mb nn y w)(f:w.1[gb]?=some (XH z A mb))(x:Upon mb w w3)(H:Vv w3 mb (GY W1) (PcV nn)):GW W1 gb mb nn y w3/\w3.1[gb]?=some (XH z A mb):=by
 obtain⟨arr,clock,q,_⟩:=id h.map;have j:∀k,k<w.1.size->k≠mb->w3.1[k]?=w.1[k]?:=fun k j hne=>x.block k j hne
 have m:=h.low.size;have g:w3.1[gb]?=some (XH z A mb):=(j gb (Zb f) (fun e=>by rw[e,q] at f;cases f)).trans f;obtain⟨⟨C,E,D⟩,F⟩:=Ut h f;have G:∀{e:TypeId}{size n:Nat}{v:Value}{C:List Value},w.ownsRow W1.1.size e size v n C->w3.ownsRow W1.1.size e size v n C:=fun h=>Xi h fun k hk2=>j k (h.lt k hk2).2 (fun e=>Us h (b:=mb) (fun cur e2=>by rw[q] at e2;cases e2) (by rw[<-e];exact hk2))
 exact⟨⟨⟨x.os.trans h.low.os,x.tape.trans h.low.tape,x.output.trans h.low.output,Zm m x.size,fun k hk1=>(j k oq (by have:=h.hmb;omega)).trans (h.low.block k hk1)⟩,h.hgb,h.hmb,⟨z,A,C,g,G E,D,G F⟩,H,h.stk⟩,g⟩
theorem uY(h:GW W1 gb mb nn (stk0++[s]) w)(hn:nn<=60000000000)(ax:stk0.length<=900)(ar:s.next=s.e.args.len) :
  Calls prog 262 #[.pointer (some ⟨gb,0,none⟩)] w fun x w'=>x=.returned (.tuple #[])/\GW W1 gb mb nn stk0 w':=by
 obtain⟨vn,g,co,xs,f,al,av,aw⟩:=last_at h;obtain⟨hex,be,au,aq⟩:=h.stk s (by simp);have aa:=hid f;obtain⟨ln,cn,ay⟩:∃ad cn,vn=.slice ad nn cn:=Qi al;subst ay;obtain⟨⟨X,g1,g2⟩,gf⟩:=XZ f.gbk;have j:=f.c0;have q:=f.c1;have y:=f.c2;have ai:=f.cap;obtain⟨ad,cap,c4,R⟩:=hex.c4;have ba:=hex.len;have d4:=(h.low.cell (p:=⟨s.b,s.o+4,none⟩) hex.lt).trans c4;have Y:=hid h;have ao:=hid hex;obtain⟨m,V⟩:=ez stk0.length;rw[V] at j q y g1 ax ai;obtain⟨sb,so,bh,an,se⟩:=s;simp only at *;subst ar;have A:=gf 1;have bg:IntKind.i64.wrap (m:Int)=(m:Int):=ZL _ oq;have bb:(0:Int)<=(m:Int):=oq;have bc:(m:Int)<(m:Int)+1:=oq;have bd:(m:Int)<=(co:Int):=oq;clear f al av aw hex R h c4 aq gf;go_enter func262,ntmps262;go_wp2;go_still_tail 11,kq
 change wpList _ _ _ _ _ (w).drew;have I:(w).drew.1=(w).1:=rfl;have D:Below (w).1.size (w) (w).drew:=(Zg _ _).drew;have ae:=hid (Zh I D);clear I D;change (w).drew.cell? _=_ at X g1 g2 j q y d4;change (w).drew.frozen? _=_ at A;generalize (w).drew=wa at *
 go_wp2;go_still_tail 12,kq
 change wpList _ _ _ _ _ (wa).drew;have J:(wa).drew.1=(wa).1:=rfl;have E:Below (wa).1.size (wa) (wa).drew:=(Zg _ _).drew;have af:=hid (Zh J E);clear J E;change (wa).drew.cell? _=_ at X g1 g2 j q y d4;change (wa).drew.frozen? _=_ at A;generalize (wa).drew=wb at *
 go_wp2;go_still_tail 18,kq
 change wpList _ _ _ _ _ (wb).drew;have L:(wb).drew.1=(wb).1:=rfl;have F:Below (wb).1.size (wb) (wb).drew:=(Zg _ _).drew;have ag:=hid (Zh L F);clear L F;change (wb).drew.cell? _=_ at X g1 g2 j q y d4;change (wb).drew.frozen? _=_ at A;generalize (wb).drew=wc at *
 have T:Below w.1.size w wc/\wc.1=w.1:=by
  have h1:=ae.o;have h2:=af.o;have h3:=ag.o;exact⟨h1.2.trans ((h2.2.trans (h3.2.mono (by rw[h2.1];exact Zc _))).mono (by rw[h1.1];exact Zc _)),h3.1.trans (h2.1.trans h1.1)⟩
 have z:=hid (Y.o.same T.1);have O:=hid T;clear T ae af ag j q y d4 X g1 g2 A;have X:wc.cell? ⟨gb,0,none⟩=some (.slice ln nn cn):=by have:=(XZ aa.o.gbk).1.1;simpa [World.cell?,O.o.2] using this
 go_wp2_with (at_mapUpdate;refine Gq KQ _ rfl _ _ _ rfl mb (GY W1) (PcV nn) _ (.agg #[.int .i64 (an:Int),.int .i64 (nn:Int)]) rfl rfl rfl z.o.map (fun v hv=>GY.ptr z.o.low v hv) ⟨sb,so,_,rfl,ao.o⟩ ⟨an,nn,rfl,au,Zc _⟩ ?_;intro C am bf ak;have ac:=hid am;have ab:=hid ak;clear am ak);have aj:wc.1[gb]?=some (XH (.slice ln nn cn) (.slice (some ⟨g,0,none⟩) (stk0.length+1) co) mb):=by rw[O.o.2];exact aa.o.gbk
 obtain⟨H,U⟩:=ZfR z.o aj ac.o ab.o;have ap:=hid U;have Z:=hid H;obtain⟨⟨q0,q1,q2⟩,qf⟩:=XZ U;have az:=qf 1;rw[V] at q1;clear aj H U X qf z O ac ab Y;go_still_tail 12,kq
 change wpList _ _ _ _ _ (C).drew;have M:(C).drew.1=(C).1:=rfl;have G:Below (C).1.size (C) (C).drew:=(Zg _ _).drew;have ah:=hid (Zh M G);clear M G;change (C).drew.cell? _=_ at q0 q1 q2;change (C).drew.frozen? _=_ at az;generalize (C).drew=wd at *
 go_wp2;refine bodyPost_end (v:=.tuple #[]) ?_ rfl ?_
 .simp[results,results262]
 have hgd:wd.1[gb]?=some (XH (.slice ln nn cn) (.slice (some ⟨g,0,none⟩) (stk0.length+1) co) mb):=by rw[ah.o.1];exact ap.o
 have:=GW.pop (Z.o.same ah.o.2) hgd;rw[V] at this;exact⟨rfl,this⟩
structure GS (W1:World) (gb mb N:Nat) (stk:List SE) (w:World):Prop where
 ex:∃nn p,GW W1 gb mb nn stk w/\nn<=T3 p/\p+Ja stk<=N/\stk.length<=p
theorem Zbt(p:Nat):T3 (p+3)=2*T3 p:=rfl
theorem GS.one{gb mb N nn p m:Nat}(h:GW W1 gb mb m f w)(x:nn<=T3 p)(j:m<=nn+1\/(e.args.len≠0/\m<=2*nn))(g:UC e)(y:p+e.sz+Ja f<=N)(z:f.length<=p):GS W1 gb mb N f w:=by
 refine⟨m,p+e.sz,h,?_,oq,oq⟩;rcases j with j|⟨h0,j⟩
 .have q:=yA p;have v:T3 (p+1)<=T3 (p+e.sz):=Gy (by unfold PE.sz;omega);omega
 have q:=Zbt p;have v:T3 (p+3)<=T3 (p+e.sz):=Gy (by have:=g.three h0;omega);omega
def ZgL(w:World)(x:Ending)(w':World):Prop:=(∃ln nn cn xs,x=.returned (.slice ln nn cn)/\w'.ownsRow w.1.size 111 6 (.slice ln nn cn) nn xs/\NmR xs nn/\nn<=60000000000)/\Below w.1.size w w'
def yd(stk:List SE):Nat:=2*Ja stk+stk.length
theorem least{P:Nat->Prop}(h:∃n,P n):∃n,P n/\∀m,P m->n<=m:=by
 obtain⟨n,q⟩:=h
 induction n using Nat.strongRecOn with
 | _ n ih =>
  by_cases f:∃m,m<n/\P m
  .obtain⟨m,g,j⟩:=f;exact ih m g j
  exact⟨n,q,fun m hm=>Nat.le_of_not_lt fun hlt=>f ⟨m,hlt,hm⟩⟩
def ZdO(W1:World)(gb mb N:Nat)(w:World)(n:Nat):Prop:=∃stk,GS W1 gb mb N stk w/\yd stk=n
noncomputable def muG(W1:World)(gb mb N:Nat)(w:World):Nat:=@Classical.epsilon Nat ⟨0⟩ (fun n=>ZdO W1 gb mb N w n/\∀m,ZdO W1 gb mb N w m->n<=m)
theorem EN(h:∃stk,GS W1 gb mb N stk w):ZdO W1 gb mb N w (muG W1 gb mb N w)/\∀m,ZdO W1 gb mb N w m->muG W1 gb mb N w<=m :=
 Classical.epsilon_spec (least (by obtain⟨stk,h⟩:=h;exact⟨_,stk,h,rfl⟩))
theorem GS.child(y:nn<=T3 p)(G:p+Ja (stk0++[s])<=N)(I:(stk0++[s]).length<=p)(j:UC e)(q:s.e.args.at s.next=some e)(v:s.next<s.e.args.len)
  (g:(∃m,(m<=nn+1\/(e.args.len≠0/\m<=2*nn))/\GW W1 gb mb m (stk0++[{ s with next:=s.next+1 }]) w)\/∃b o,GW W1 gb mb nn (stk0++[{ s with next:=s.next+1 }]++[⟨b,o,0,nn,e⟩]) w) :
  ∃stk,GS W1 gb mb N stk w/\yd stk<yd (stk0++[s]):=by
 obtain⟨f,z,E⟩:=s.e.args.at_some s.next v;obtain rfl:f=e:=Option.some.inj (z.symm.trans q);have H:Ja (stk0++[s])=Ja stk0+s.e.args.szFrom s.next:=by rw[JM];simp[Ja]
 have x:Ja (stk0++[{ s with next:=s.next+1 }])=Ja stk0+s.e.args.szFrom (s.next+1):=by rw[JM];simp[Ja]
 have F:(stk0++[s]).length=stk0.length+1:=by simp
 have A:(stk0++[{ s with next:=s.next+1 }]).length=stk0.length+1:=by simp
 have J:f.sz=f.args.sz+1:=rfl;rcases g with ⟨m,hm,g⟩|⟨b,o,g⟩
 .refine⟨_,GS.one g y hm j oq oq,?_⟩;unfold yd;omega
 have D:Ja (stk0++[{ s with next:=s.next+1 }]++[⟨b,o,0,nn,f⟩])=Ja stk0+s.e.args.szFrom (s.next+1)+f.args.sz:=by rw[JM,x];simp[Ja,PL.szFrom0]
 have C:(stk0++[{ s with next:=s.next+1 }]++[(⟨b,o,0,nn,f⟩:SE)]).length=stk0.length+2:=by simp
 refine⟨_,⟨nn,p+1,g,Zm y (Gy (Nat.le_succ _)),oq,oq⟩,?_⟩;unfold yd;omega
theorem zq{T:OA}{cap:Nat}(h:AE w e T cap)(ac:∀b o,T=some ⟨b,o,none⟩->NF w e.args b o)(g:UC e)(R:e.sz<=100) :
  Calls prog 252 #[ev e T cap] w (ZgL w):=by
 obtain⟨W1,f⟩:=ey (w.alloc (.cells #[.int .i64 e.k,.string e.nm,.int .i64 e.n,.int .i64 e.d,.slice T e.args.len cap,.int .i64 e.a] 111));have hb1:Below w.1.size w W1:=by rw[f];exact(Zg _ _).alloc (Zc _) _
 have ag:W1.1.size=w.1.size+1:=by rw[f];simp
 have hex:JC W1 w.1.size 0 e:=by
  have hn:=Yx w (.cells #[.int .i64 e.k,.string e.nm,.int .i64 e.n,.int .i64 e.d,.slice T e.args.len cap,.int .i64 e.a] 111);rw[<-f] at hn;obtain⟨⟨c0,c1,c2,c3,c4,c5⟩,cf⟩:=Xl hn;refine⟨oq,cf 0,c0,c1,c2,c3,c5,⟨T,cap,c4,?_⟩,Zm h.len.1 h.len.2⟩;rcases h.args with h0|⟨b,o,rfl,A,hac⟩
  .exact .inl h0
  exact .inr ⟨b,o,rfl,oq,hac.below hb1 _ _ _ A,(ac b o rfl).below hb1 _ _ _ A hac⟩
 have q:GW W1 (w.1.size+1+1) (w.1.size+1) 0 [] ((W1.alloc (.map #[] 0)).alloc (Obj.cells #[.slice none 0 0,.slice none 0 0,.map (some (w.1.size+1))] 389)):=by
  have hm:=Vv.new W1 (GY W1) (PcV 0);have ah:(W1.alloc (.map #[] 0)).1.size=w.1.size+1+1:=by simp[ag]
  refine⟨((Zg _ _).alloc (Zc _) _).alloc (by simp) _,oq,oq,⟨.slice none 0 0,.slice none 0 0,[],?_,Yg _ _ _ _,NmR.nil,Yg _ _ _ _⟩,?_,fun s hs=>(by cases hs)⟩
  .have:=Yx (W1.alloc (.map #[] 0)) (Obj.cells #[.slice none 0 0,.slice none 0 0,.map (some (w.1.size+1))] 389);rw[ah] at this;exact this
  rw[ag] at hm;exact hm.keep (Za _ _ _ (by rw[ah];omega)) (fun _ h=>h)
 have H:=hid (qR q hex oq (by simp) g);have HB1:=hid hb1;have HS:=hid R;rw[f] at H;obtain⟨k,nm,n,d,args,a⟩:=e;unfold ev;simp only at f H ⊢;have Y:=hid f;have am:=fun w=>run_makeMap (P:=prog) 386 w
 clear h ac hex q hb1 f R;have V:=hid g;clear g;go_enter func252,ntmps252;go_wp2_with (go_at_call 261;refine H.o.mono ?_;rintro x w4 ⟨rfl,I⟩;have H4:=hid I;clear I);clear H;have j:∃E,GS W1 (w.1.size+1+1) (w.1.size+1) 100 E w4:=by
  have I:=H4.o;rw[<-Y.o] at I;have hz:(⟨k,nm,n,d,args,a⟩:PE).sz=args.sz+1:=rfl;have R:=HS.o;rcases I with ⟨m,hm,I⟩|I
  .exact⟨[],GS.one (nn:=0) (p:=0) I (Zk _) hm V.o (by simp[Ja];omega) (by simp)⟩
  exact⟨_,⟨0,1,I,Zk _,by simp[Ja,PL.szFrom0];omega,by simp⟩⟩
 have aj:=hid j;clear j H4 Y V HS am;go_loopw [] (fun wr=>Hid (∃E,GS W1 (w.1.size+1+1) (w.1.size+1) 100 E wr)) (fun wr=>muG W1 (w.1.size+1+1) (w.1.size+1) 100 wr)
 case atStart=>exact aj.o
 have j:=hrel.o;clear hrel;obtain⟨⟨E,j,ab⟩,aa⟩:=EN j;obtain⟨nn,p,q,C,hp,ai⟩:=j.ex;have D:nn<=60000000000:=Zm C (ZfC oq);obtain⟨vn,vo,xs,hg,O,ae,af⟩:=q.sta;obtain⟨ln,cn,rfl⟩:=Qi O;obtain⟨lo,co,rfl⟩:=Qi af;obtain⟨⟨g0,g1,g2⟩,gf⟩:=XZ hg;have al:=hid O;have ak:=hid ae;have G:=hid q;have X:=hid ab;clear O ae q hg ab aa j af;rcases List.eq_nil_or_concat E with rfl|⟨stk0,s,hst⟩
 .simp only[Zx] at g1;go_wp2;go_ret;refine⟨⟨ln,nn,cn,xs,rfl,al.o.mono oq,ak.o,D⟩,HB1.o.trans (G.o.low.mono oq)⟩
 rw[List.concat_eq_append] at hst;subst hst;have z:(stk0++[s]).length=stk0.length+1:=by simp
 rw[z] at g1 ai;have an:(0:Int)<(stk0.length:Int)+1:=oq;obtain⟨hex,aq,ao,g⟩:=G.o.stk s (by simp);have J:stk0.length<=900:=oq;by_cases A:s.next<s.e.args.len
 .have L:=hid (Za8 G.o D J A);have v:=hid (fun(w':World) (e:PE) (y:s.e.args.at s.next=some e) (hw)=>GS.child (W1:=W1) (gb:=w.1.size+1+1) (mb:=w.1.size+1) (N:=100) (w:=w') C hp (by rw[z];exact ai) (Ar2.at _ _ _ g.2 y) y A hw);clear hex g C hp;go_wp2_with (go_at_call 262;refine L.o.mono ?_;rintro x w5 ⟨rfl,e,y,Z⟩;have U:=hid (v.o w5 e y Z);clear Z y);obtain⟨F,M,ap⟩:=U.o;refine⟨⟨F,M⟩,?_⟩;have h6:=(EN ⟨F,M⟩).2 _ ⟨F,M,rfl⟩;have h7:=X.o;omega
 have L:=hid (uY G.o D J oq);have hr:Ja (stk0++[s])=Ja stk0+s.e.args.szFrom s.next:=by rw[JM];simp[Ja]
 have v:=hid (fun(w':World) (hw:GW W1 (w.1.size+1+1) (w.1.size+1) nn stk0 w')=>(⟨nn,p,hw,C,oq,oq⟩:∃nn p,GW W1 (w.1.size+1+1) (w.1.size+1) nn stk0 w'/\nn<=T3 p/\p+Ja stk0<=100/\stk0.length<=p));have HR:=hid hr;clear hex g C hp hr;go_wp2_with (go_at_call 262;refine L.o.mono ?_;rintro x w5 ⟨rfl,Z⟩;have U:=hid (v.o w5 Z);clear Z);refine⟨⟨stk0,⟨U.o⟩⟩,?_⟩;have h6:=(EN (W1:=W1) (gb:=w.1.size+1+1) (mb:=w.1.size+1) (N:=100) (w:=w5) ⟨stk0,⟨U.o⟩⟩).2 _ ⟨stk0,⟨U.o⟩,rfl⟩;have h7:=X.o;have h8:=HR.o;unfold yd at h6 h7;simp only[z] at h7;omega
