/- Parts of the proof. -/
import Derived.Deep.AppendLies
import Derived.Deep.RegionHeld3
import Derived.Test.YtdgifkjaflfdeaaGreatDoorX07
set_option linter.all false
set_option maxRecDepth 100000
set_option maxHeartbeats 16000000
namespace Go.Proofs.YtdgifkjaflfdeaaGreatDoor.syn
open Tryz
open Go.RowKit
variable {P:Program}{T t:TypeId}{nm:String}{f n b o B:Nat}{w w':World}{v:Value}{q:List Int}{arr:Array Value}
theorem Vn{T S I e:TypeId}{g:Field}{x:TypeId}(h:(P.info? T).bind (fun i=>i.methods.find? (·.name == nm))=some ⟨nm,x,#[⟨S,0,true⟩],some (f,false)⟩)
  (C:P.underlying S=some (.struct #[g]))(E:g.type=I/\g.offset=0)(A:P.underlying I=some (.slice e))(q:(P.info? I).map (·.size)=some 1)(D:w.cell? ⟨b,o,none⟩=some v) :
  Sem.run P (method (n+1) T (.pointer (some ⟨b,o,none⟩)) nm) w=.ok (f,v) w:=by
 obtain⟨y,z⟩:=E
 cases hq:P.info? T with
 | none=>rw[hq] at h;cases h
 | some i =>
  rw[hq] at h;simp only[Option.bind_some] at h
  cases hj:P.info? I with
  | none=>rw[hj] at q;cases q
  | some j =>
   rw[hj] at q;have F:j.size=1:=by simpa using q
   have m:(⟨b,o,none⟩:Addr).add 0=⟨b,o,none⟩:=by unfold Addr.add;simp
   simp[method,typeInfo,hq,h,follow,receiverAt,Place.get,run_underlying C,run_underlying A,fieldPlace,sizeOf,hj,y,z,F,asAddr,loadVar,isAgg,m,D]
theorem Vm{T X:TypeId}{g:TypeId}(h:(P.info? T).bind (fun i=>i.methods.find? (·.name == nm))=some ⟨nm,g,#[],some (f,true)⟩)(j:P.underlying T=some (.pointer X))(w:World)(a:Addr) :
  Sem.run P (method (n+1) T (.pointer (some a)) nm) w=.ok (f,.pointer (some a)) w:=by
 cases hq:P.info? T with
 | none=>rw[hq] at h;cases h
 | some i =>
  rw[hq] at h;simp only[Option.bind_some] at h;simp[method,typeInfo,hq,h,follow,receiverAt,Place.get,run_underlying j]
theorem q_len : (prog.info? 293).bind (fun i => i.methods.find? (·.name == "Len")) = some ⟨"Len", 204, #[⟨201, 0, true⟩], some (105, false)⟩ := by kernel_rfl
theorem Zgc : (prog.info? 293).bind (fun i => i.methods.find? (·.name == "Less")) = some ⟨"Less", 352, #[⟨201, 0, true⟩], some (290, false)⟩ := by kernel_rfl
theorem Zge : (prog.info? 293).bind (fun i => i.methods.find? (·.name == "Swap")) = some ⟨"Swap", 302, #[⟨201, 0, true⟩], some (292, false)⟩ := by kernel_rfl
theorem Zhc : (prog.info? 293).bind (fun i => i.methods.find? (·.name == "Pop")) = some ⟨"Pop", 304, #[], some (297, true)⟩ := by kernel_rfl
theorem Zgd : (prog.info? 293).bind (fun i => i.methods.find? (·.name == "Push")) = some ⟨"Push", 300, #[], some (298, true)⟩ := by kernel_rfl
theorem Zgb:(match prog.underlying 201 with|some (.struct fs)=>some (fs.toList.map (fun f=>(f.type,f.offset)))|_=>none)=some [(199,0)]:=by kernel_rfl
theorem xo:∃fld,prog.underlying 201=some (.struct #[fld])/\fld.type=199/\fld.offset=0:=by
 have h:=Zgb;split at h
 .rename_i fs hfs
  simp only[Option.some.injEq] at h;obtain⟨l⟩:=fs
  cases l with
  | nil=>simp at h
  | cons f l =>
   cases l with
   | nil =>
    simp at h;exact⟨f,hfs,h.1,h.2⟩
   | cons g l=>simp at h
 cases h
theorem KG:prog.underlying 199=some (.slice 3):=by kernel_rfl
theorem ED:(prog.info? 199).map (·.size)=some 1:=by kernel_rfl
theorem jL:prog.underlying 293=some (.pointer 201):=by kernel_rfl
theorem Zff(n : Nat)    (hc : w.cell? ⟨b, o, none⟩ = some v) : Sem.run prog (method (n + 1) 293 (.pointer (some ⟨b, o, none⟩)) "Len") w = .ok (105, v) w := by
 obtain⟨fld,h1,h2⟩:=xo;exact Vn (n:=n) q_len h1 h2 KG ED hc
theorem KL(n : Nat)    (hc : w.cell? ⟨b, o, none⟩ = some v) : Sem.run prog (method (n + 1) 293 (.pointer (some ⟨b, o, none⟩)) "Less") w = .ok (290, v) w := by
 obtain⟨fld,h1,h2⟩:=xo;exact Vn (n:=n) Zgc h1 h2 KG ED hc
theorem EI(n : Nat)    (hc : w.cell? ⟨b, o, none⟩ = some v) : Sem.run prog (method (n + 1) 293 (.pointer (some ⟨b, o, none⟩)) "Swap") w = .ok (292, v) w := by
 obtain⟨fld,h1,h2⟩:=xo;exact Vn (n:=n) Zge h1 h2 KG ED hc
theorem Zg4 (n : Nat) (w : World) (a : Addr) : Sem.run prog (method (n + 1) 293 (.pointer (some a)) "Pop") w = .ok (297, .pointer (some a)) w := Vm (n := n) Zhc jL w a
theorem ZfY (n : Nat) (w : World) (a : Addr) : Sem.run prog (method (n + 1) 293 (.pointer (some a)) "Push") w = .ok (298, .pointer (some a)) w := Vm (n := n) Zgd jL w a
def QV(w:World)(B:Nat)(v:Value)(q:List Int):Prop:=w.ownsRow B 3 1 v q.length (ints q)
theorem QV.form(h:QV w B v q)(j:q≠[]):∃g cap,v=.slice (some ⟨g,0,none⟩) q.length cap/\B<=g/\g<w.1.size/\(∀i,i<q.length->w.cell? ⟨g,i,none⟩=some (.int .i64 (q.getD i 0)))/\∀i,w.frozen? ⟨g,i,none⟩=false:=by
 have m:0<q.length:=by cases q with
  | nil=>exact absurd rfl j
  | cons _ _=>simp
 have f:=h;rcases h.2 with ⟨_,h1⟩|⟨g,cap,cur,rfl,hb,hg,_⟩
 .omega
 exact⟨g,cap,rfl,hb,Zb hg,fun i hi=>(World.ownsRow.cellAt f i oq).trans (ints_at hi),World.ownsRow.frozenAt f⟩
theorem GJ(v:Value)(q:List Int)(h:QV w B v q):Calls prog 105 #[v] w fun x w'=>x=.returned (.int .i64 (q.length:Int))/\w'=w:=by
 obtain⟨f,cap,rfl⟩:=YC h;clear h;go_enter func105,ntmps105;go_wp2;go_ret;exact⟨rfl,rfl⟩
theorem VI(v:Value)(q:List Int)(h:QV w B v q)(i j:Nat)(hi:i<q.length)(z:j<q.length) :
  Calls prog 290 #[v,.int .i64 (i:Int),.int .i64 (j:Int)] w fun x w'=>x=.returned (.bool (decide (q.getD i 0<q.getD j 0)))/\∃m,w'=w.drewN m:=by
 obtain⟨g,cap,rfl,A,D,f,C⟩:=h.form (by intro e;rw[e] at hi;simp at hi);have c1:=f i hi;have c2:=f j z;have E:(0:Int)<=(i:Int):=oq;have G:(0:Int)<=(j:Int):=oq;have F:(i:Int)<(q.length:Int):=oq;have H:(j:Int)<(q.length:Int):=oq;generalize q.getD i 0=x at c1 ⊢;generalize q.getD j 0=y at c2 ⊢;clear f h;go_enter func290,ntmps290;go_upto_region 1 with fail
 go_still kq
 change Exit.then _ _ Exit.normal _ w.drew
 go_wp2;go_ret;exact⟨rfl,1,rfl⟩
theorem VR(v:Value)(q:List Int)(h:QV w B v q)(i j:Nat)(hi:i<q.length)(E:j<q.length) :
  Calls prog 292 #[v,.int .i64 (i:Int),.int .i64 (j:Int)] w fun x w'=>x=.returned (.tuple #[])/\QV w' B v (swp q i j)/\But (fun k=>v.ownBlock=some k) w w':=by
 obtain⟨g,cap,rfl,O,R,m,z⟩:=h.form (by intro e;rw[e] at hi;simp at hi);have c1:=m i hi;have c2:=m j E;have f1:=z i;have M:=z j;have U:(0:Int)<=(i:Int):=oq;have X:(0:Int)<=(j:Int):=oq;have V:(i:Int)<(q.length:Int):=oq;have Y:(j:Int)<(q.length:Int):=oq;obtain⟨x,A⟩:=ez (q.getD i 0);obtain⟨y,hy⟩:=ez (q.getD j 0);rw[A] at c1;rw[hy] at c2;have main:∀W:World,W.1=((w.setCell ⟨g,i,none⟩ (.int .i64 y)).setCell ⟨g,j,none⟩ (.int .i64 x)).1->W.os=w.os->W.tape=w.tape->W.output=w.output->QV W B (.slice (some ⟨g,0,none⟩) q.length cap) (swp q i j)/\But (fun k=>(Value.slice (some ⟨g,0,none⟩) q.length cap).ownBlock=some k) w W:=by
  intro W D H I J;have L:=V5 (V5 h i (.int .i64 y) hi) j (.int .i64 x) E;have f:But (fun k=>(Value.slice (some ⟨g,0,none⟩) q.length cap).ownBlock=some k) w ((w.setCell ⟨g,i,none⟩ (.int .i64 y)).setCell ⟨g,j,none⟩ (.int .i64 x)):=(But.set (S:=fun k=>(Value.slice (some ⟨g,0,none⟩) q.length cap).ownBlock=some k) (b:=g) (o:=i) rfl _).trans (But.set (S:=fun k=>(Value.slice (some ⟨g,0,none⟩) q.length cap).ownBlock=some k) (b:=g) (o:=j) rfl _);have C:But (fun k=>False) ((w.setCell ⟨g,i,none⟩ (.int .i64 y)).setCell ⟨g,j,none⟩ (.int .i64 x)) W:=⟨H.trans f.os.symm,I.trans f.tape.symm,J.trans f.output.symm,by rw[D];exact Zc _,fun k _ _=>by rw[D]⟩;refine⟨?_,f.then C (fun _ _ e=>e.elim)⟩;have F:=C.own L (fun _ _ e=>e);rw[ints_set,ints_set] at F;unfold QV;rw[XD];unfold swp;rw[A,hy];exact F
 have G:=hid main;obtain⟨u,T⟩:∃u,(w.setCell ⟨g,i,none⟩ (.int .i64 y)).cell? ⟨g,j,none⟩=some u:=by
  have:=World.ownsRow.cellAt (V5 h i (.int .i64 y) hi) j oq;rw[this];exact⟨_,Ze (by simp[Q1];omega)⟩
 clear main m z h A hy;go_enter func292,ntmps292;go_region
 all_goals go_wp2
 all_goals (go_end0;exact⟨rfl,G.o _ rfl rfl rfl rfl⟩)
theorem Kn(x:Int)(w:World):(Instr.typeAssert (.iface 3 (.int .i64 x)) 20 3 false).run prog w=.ok (.int .i64 x) w:=by kernel_rfl
theorem JK:(prog.info? 3).map (fun i=>(i.zero,i.size,i.bytes))=some (some (.int .i64 0),1,8):=by kernel_rfl
structure QM (w:World) (b o B:Nat) (v:Value) (q:List Int):Prop where
 cell:w.cell? ⟨b,o,none⟩=some v
 fz:w.frozen? ⟨b,o,none⟩=false
 own:QV w B v q
 lt:b<B
 hi:B<=w.1.size
def Ub(w:World)(b o B:Nat)(v:Value)(q':List Int)(w':World):Prop:=∃v' arr t arr',QM w' b o B v' q'/\(∀k,v'.ownBlock=some k->v.ownBlock=some k\/w.1.size<=k)/\But (fun k=>k=b\/v.ownBlock=some k) w w' /\
 w.1[b]?=some (.cells arr t (0,0))/\w'.1[b]?=some (.cells arr' t (0,0))/\arr'=arr.setIfInBounds o v'
theorem QM.but(h:QM w b o B v q){S:Nat->Prop}(hb:But S w w')(g:¬S b)(j:∀k,v.ownBlock=some k->¬S k):QM w' b o B v q:=by
 have f:b<w.1.size:=Zd h.lt h.hi;exact⟨(Zn (w:=w) (hb.block b f g)).trans h.cell,(Z7 (w:=w) (hb.block b f g)).trans h.fz,hb.own h.own j,h.lt,Zm h.hi hb.size⟩
theorem QM.keep(h:QM w b o B v q)(hb:Below w.1.size w w'):QM w' b o B v q:=h.but (But.of_below (S:=fun _=>False) hb) (fun h=>h) (fun _ _ h=>h)
theorem Vt(h:QV w B v q):∀k,v.ownBlock=some k->B<=k/\k<w.1.size:=World.ownsRow.lt h
theorem ZaM(h:QM w b o B v q)(ha:w.1[b]?=some (.cells arr t (0,0)))(hq:q.length<=100000)(x:Int) :
  Calls prog 298 #[.pointer (some ⟨b,o,none⟩),.iface 3 (.int .i64 x)] w fun y w'=>y=.returned (.tuple #[])/\Ub w b o B v (q++[x]) w':=by
 obtain⟨i0,L,M,O,R⟩:=info_parts JK;have U:=hid (Zh L (Zh M (Zh O R)));have c0:=h.cell;have f0:=h.fz;have J:=h.lt;have I:=h.hi;have V:=hid h;obtain⟨E,cap,rfl⟩:=YC h.own;have main:∀(A W:World)(m f:Nat),A.ownsRow B 3 1 (.slice (some ⟨m,0,none⟩) (q.length+1) f) (q.length+1) (ints q++[.int .i64 x])->But (fun k=>(Value.slice E q.length cap).ownBlock=some k) w A->((Value.slice E q.length cap).ownBlock=some m\/w.1.size<=m) ->
   W=(A.setCell ⟨b,o,none⟩ (.slice (some ⟨m,0,none⟩) (q.length+1) f))->Ub w b o B (.slice E q.length cap) (q++[x]) W:=by
  intro A W m f ho F aa hW;subst hW;have ac:=Vt V.o.own;have D:b<w.1.size:=Zd J I;have hb4:=F.block b D (fun e=>by have:=(ac b e).1;omega);have hs:=But.set (S:=fun k=>k=b) (w:=A) (o:=o) rfl (.slice (some ⟨m,0,none⟩) (q.length+1) f);have G:(A.setCell ⟨b,o,none⟩ (.slice (some ⟨m,0,none⟩) (q.length+1) f)).1[b]?=some (.cells (arr.setIfInBounds o (.slice (some ⟨m,0,none⟩) (q.length+1) f)) t (0,0)):=Zj A b o arr t _ (hb4.trans ha);have ab:o<arr.size:=by
   have:=V.o.cell;rw[Z8 w b o arr t (0,0) ha] at this;exact(Zq.1 this).1
  refine⟨_,arr,t,_,⟨?_,?_,?_,J,Zm I (Zm F.size hs.size)⟩,?_,(F.imp (fun i _ e=>.inr e)).then hs (fun i _ e=>.inl e),ha,G,rfl⟩
  .rw[Z8 _ b o _ t (0,0) G];simp[ab]
  .simp[World.frozen?,G]
  .have:=hs.own ho (fun k hk e=>by have:=(World.ownsRow.lt ho k hk).1;omega);unfold QV;rw[<-Jt];simpa using this
  intro k hk
  cases hk
  exact aa
 have Y:=hid main;have ag:=Kn x;have D:b<w.1.size:=oq;have ae:¬b=w.1.size:=oq;clear main h L M O R;go_enter func298,ntmps298;go_region_law (refine step_append_lies _ (by rfl) _ _ _ (by rfl) B 3 i0 _ 1 8 underlying199 U.o.1 U.o.2.1 U.o.2.2.1 U.o.2.2.2 rfl oq (.slice E q.length cap) q.length (ints q) (by rfl) ((V.o.keep bq).own) ⟨w.1.size,0,none⟩ 1 1 [.int .i64 x] (by rfl) (by rfl) (World.news_of_block (ZA _ _)) (by simp[Value.oneCell']) oq (by unfold maxLen;omega) oq (by simp;omega) (w.1.size+1) (by simp) ?_;intro m f A z j C af;have g:But (fun k=>(Value.slice E q.length cap).ownBlock=some k) w A:=(But.of_below (bq:Below w.1.size w _)).then (But.of_grown j) (fun i _ e=>e);have T:¬(Value.slice E q.length cap).ownBlock=some b:=(fun e=>by have:=(Vt V.o.own b e).1;omega);have c4:=(Zn (a:=⟨b,o,none⟩) (g.block b oq T)).trans c0;have f4:=(Z7 (a:=⟨b,o,none⟩) (g.block b oq T)).trans f0;have Z:=hid z;have H:=hid g;have X:=hid (show(Value.slice E q.length cap).ownBlock=some m\/w.1.size<=m from C.elim .inl (fun e=>.inr oq));clear z j C g)
 all_goals (go_wp2;go_end0;exact⟨rfl,Y.o _ _ m f Z.o H.o X.o rfl⟩)
theorem Zc2(h:QM w b o B v q)(D:w.1[b]?=some (.cells arr t (0,0)))(O:q≠[])(X:q.length<=100000) :
  Calls prog 297 #[.pointer (some ⟨b,o,none⟩)] w fun y w'=>y=.returned (.iface 3 (.int .i64 (q.getD (q.length-1) 0)))/\Ub w b o B v (q.take (q.length-1)) w':=by
 obtain⟨g,cap,rfl,U,hg,L,V⟩:=h.own.form O;have h0:0<q.length:=by cases q with
  | nil=>exact absurd rfl O
  | cons _ _=>simp
 have c0:=h.cell;have Z:=h.fz;have E:=h.lt;have C:=h.hi;obtain⟨n,A⟩:∃n,q.length=n+1:=⟨q.length-1,oq⟩;have c1:=L n oq;have main:Ub w b o B (.slice (some ⟨g,0,none⟩) q.length cap) (q.take (q.length-1)) (w.setCell ⟨b,o,none⟩ (.slice (some ⟨g,0,none⟩) n cap)):=by
  have H:=But.set (S:=fun k=>k=b) (w:=w) (o:=o) rfl (.slice (some ⟨g,0,none⟩) n cap);have j:(w.setCell ⟨b,o,none⟩ (.slice (some ⟨g,0,none⟩) n cap)).1[b]?=some (.cells (arr.setIfInBounds o (.slice (some ⟨g,0,none⟩) n cap)) t (0,0)):=Zj w b o arr t _ D;have G:o<arr.size:=by
   rw[Z8 w b o arr t (0,0) D] at c0;exact(Zq.1 c0).1
  refine⟨.slice (some ⟨g,0,none⟩) n cap,arr,t,_,⟨?_,?_,?_,E,Zm C H.size⟩,fun k hk=>.inl hk,H.imp (fun i _ e=>.inl e),D,j,rfl⟩
  .rw[Z8 _ b o _ t (0,0) j];simp[G]
  .simp[World.frozen?,j]
  have R:=jH (m:=n) h.own oq;have T:=H.own R (fun k hk e=>by have F:g=k:=(by simpa [Value.ownBlock] using hk);subst F;omega);unfold QV;rw[A,Nat.add_sub_cancel,Yc,show min n q.length=n by omega,show ints (q.take n)=(ints q).take n by unfold ints;rw[List.map_take]];exact T
 have z:=hid main;obtain⟨x,I⟩:=ez (q.getD n 0);have J:=hid (show q.getD (q.length-1) 0=x by rw[A,Nat.add_sub_cancel];exact I);rw[J.o];rw[I] at c1;rw[A] at z c0;rw[A];have Y:IntKind.i64.wrap (((n+1:Nat):Int)-1)=(n:Int):=by rw[show((n+1:Nat):Int)-1=(n:Int) by omega];exact ZL _ oq
 have f:=hid (fun(W:World) (hb:Below w.1.size w W)=>GJ (w:=W) _ q (B:=B) ((h.keep hb).own));rw[A] at f;have n0:(0:Int)<=(n:Int):=oq;have n1:(n:Int)<((n+1:Nat):Int):=oq;have n2:(n:Int)<=((n+1:Nat):Int):=oq;have M:n+1<=cap:=by
  rcases h.own.2 with ⟨e,_⟩|⟨_,_,_,e,_,_,e2,_⟩
  .cases e
  injection e with _ _ e3;rw[e3];omega
 have n3:(n:Int)<=(cap:Int):=oq;clear main L V h I J;go_enter func297,ntmps297;go_wp2_with (go_at_call 105;refine(f.o _ bq).mono ?_;rintro y w2 ⟨rfl,rfl⟩);go_ret;exact⟨rfl,z.o⟩
structure ZgV (w:World) (b o B:Nat) (v:Value) (ans:List Int) (n:Nat) (q:List Int) (j:Nat) (wr:World):Prop where
 go:upP n q j=ans
 fuel:j<n
 lt:j<q.length
 len:q.length<=100000
 qm:QM wr b o B v q
 but:But (fun k=>v.ownBlock=some k) w wr
theorem eH(j:Nat):((j:Int)-1).tdiv 2=(((j-1)/2:Nat):Int):=by
 cases j with
 | zero=>decide
 | succ j =>
  rw[show((j+1:Nat):Int)-1=(j:Int) by omega,Nat.add_sub_cancel];rfl
theorem Zgw(h:QM w b o B v q)(n j:Nat)(Y:j<n)(X:j<q.length)(Z:q.length<=100000) :
  Calls prog 178 #[.iface 293 (.pointer (some ⟨b,o,none⟩)),.int .i64 (j:Int)] w fun y w'=>y=.returned (.tuple #[])/\QM w' b o B v (upP n q j)/\But (fun k=>v.ownBlock=some k) w w':=by
 obtain⟨E,z⟩:=ez (upP n q j);rw[z];have D:=hid (show ZgV w b o B v E n q j w from ⟨z,Y,X,Z,h,But.refl _ _⟩);clear h Y X Z z;go_enter func178,ntmps178;go_wp2;go_loopw [1] (fun s1 wr=>Hid (∃n q j,s1=.int .i64 ((j:Nat):Int)/\ZgV w b o B v E n q j wr)) (fun s _=>(intOf s).toNat)
 case atStart=>exact⟨n,q,j,rfl,D.o⟩
 clear D;obtain⟨n,q,j,rfl,x⟩:=hrel.o;clear hrel;have I:=x.len;have H:=x.lt;have aa:=x.fuel;have c0:=x.qm.cell;have f:=hid x;have mL:=fun n=>KL n c0
 have U:=eH j;obtain⟨i,hi⟩:=ez ((j-1)/2);rw[hi] at U;obtain⟨m,rfl⟩:∃m,n=m+1:=⟨n-1,oq⟩;have g:=x.go;rw[upP,hi] at g;clear x;by_cases G:i=j
 .rw[Z3 G] at g;subst g;have V:((i:Int) == (j:Int))=true:=by rw[beq_iff_eq];omega
  go_wp2;go_end0;exact⟨rfl,f.o.qm,f.o.but⟩
 rw[Z2 G] at g;have V:((i:Int) == (j:Int))=false:=by rw[ZZ];omega
 have ab:i<j:=oq;have A:=hid (VI (w:=wr) v q f.o.qm.own j i H oq);by_cases M:q.getD j 0<q.getD i 0
 .rw[Z3 M] at g;rw[Z1 M] at A;have O:=hid g;clear g hi;go_wp2_with (first|(go_at_call 290;refine A.o.mono ?_;rintro y w2 ⟨rfl,C,rfl⟩;have mS:=fun n=>EI n (w:=wr.drewN C) (b:=b) (o:=o) (v:=v) c0;have T:=hid (VR (w:=wr.drewN C) v q (show QV (wr.drewN C) B v q from f.o.qm.own) i j oq H))|(go_at_call 292;refine T.o.mono ?_;rintro y w3 ⟨rfl,J,hb3⟩;have R:=hid J;have HB3:=hid hb3;clear J hb3));have hb:But (fun k=>v.ownBlock=some k) wr w3:=((But.refl _ wr).drewN C).trans HB3.o;have L:¬v.ownBlock=some b:=fun e=>by have:=(Vt f.o.qm.own b e).1;have:=f.o.qm.lt;omega
  have F:b<wr.1.size:=Zd f.o.qm.lt f.o.qm.hi;exact⟨hid ⟨m,swp q i j,i,rfl,O.o,oq,by rw[XD];omega,by rw[XD];exact I,⟨(Zn (w:=wr) (hb.block b F L)).trans f.o.qm.cell,(Z7 (w:=wr) (hb.block b F L)).trans f.o.qm.fz,R.o,f.o.qm.lt,Zm f.o.qm.hi hb.size⟩,f.o.but.trans hb⟩,by simp[intOf];omega⟩
 rw[Z2 M] at g;subst g;rw[Z0 M] at A;clear hi;go_wp2_with (go_at_call 290;refine A.o.mono ?_;rintro y w2 ⟨rfl,C,rfl⟩);go_end0;have hb:But (fun k=>v.ownBlock=some k) wr (wr.drewN C):=(But.refl _ wr).drewN C;exact⟨rfl,⟨f.o.qm.cell,f.o.qm.fz,f.o.qm.own,f.o.qm.lt,f.o.qm.hi⟩,f.o.but.trans hb⟩
structure GV (w:World) (b o B:Nat) (v:Value) (ans:List Int) (n:Nat) (k:Nat) (q:List Int) (i:Nat) (wr:World):Prop where
 go:QE k q i n=ans
 fuel:n-i<=k
 le:n<=q.length
 lt:i<n\/n=0/\i=0
 len:q.length<=100000
 qm:QM wr b o B v q
 but:But (fun k=>v.ownBlock=some k) w wr
theorem GV.next{f:List Int}{n k i g:Nat}{wr:World}(h:GV w b o B v f n (k+1) q i wr)(z:g<n/\i<g)(x:QE k (swp q i g) g n=f){w3:World}{m2:Nat}
  (y:QV w3 B v (swp q i g))(hb3:But (fun k=>v.ownBlock=some k) (wr.drewN m2) w3):GV w b o B v f n k (swp q i g) g w3:=by
 have hb:But (fun k=>v.ownBlock=some k) wr w3:=((But.refl _ wr).drewN m2).trans hb3;have m:¬v.ownBlock=some b:=fun e=>by have:=(Vt h.qm.own b e).1;have:=h.qm.lt;omega
 have j:b<wr.1.size:=Zd h.qm.lt h.qm.hi;have A:=h.fuel;have C:=h.lt;exact⟨x,oq,by rw[XD];exact h.le,.inl z.1,by rw[XD];exact h.len,⟨(Zn (w:=wr) (hb.block b j m)).trans h.qm.cell,(Z7 (w:=wr) (hb.block b j m)).trans h.qm.fz,y,h.qm.lt,Zm h.qm.hi hb.size⟩,h.but.trans hb⟩
def ZgC(y:Ending):Prop:=∃c:Bool,y=.returned (.bool c)
theorem ZbS(h:QM w b o B v q)(k n:Nat)(hn:n<=q.length)(hk:n<=k)(hq:q.length<=100000) :
  Calls prog 179 #[.iface 293 (.pointer (some ⟨b,o,none⟩)),.int .i64 0,.int .i64 (n:Int)] w fun y w'=>ZgC y/\QM w' b o B v (QE k q 0 n)/\But (fun k=>v.ownBlock=some k) w w':=by
 obtain⟨D,j⟩:=ez (QE k q 0 n);rw[j];have ab:=hid (show GV w b o B v D n k q 0 w from ⟨j,oq,hn,oq,hq,h,But.refl _ _⟩);clear h hk hn hq j;go_enter func179,ntmps179;go_wp2;go_loopw [7] (fun s7 wr=>Hid (∃k q i,s7=.int .i64 ((i:Nat):Int)/\GV w b o B v D n k q i wr)) (fun s _=>n-(intOf s).toNat)
 case atStart=>exact⟨k,q,0,rfl,ab.o⟩
 clear ab;obtain⟨k,q,i,rfl,F⟩:=hrel.o;clear hrel;have ak:=F.len;have aq:=F.le;have al:=F.fuel;have ac:=F.lt;have c0:=F.qm.cell;have x:=hid F;have G:=F.go;have mL:=fun n=>KL n c0
 obtain⟨O,Z⟩:=ez (2*i+1);obtain⟨U,H⟩:=ez (2*i+2);have e1:2*(i:Int)+1=(O:Int):=oq;have e2:(O:Int)+1=(U:Int):=oq;have n1:¬(O:Int)<0:=oq;have am:i<=100000:=oq;have aj:O<=200001:=oq;clear F;by_cases ap:n<=O
 .have j:q=D:=by
   cases k with
   | zero=>exact G
   | succ k=>rw[QE,Z3 oq] at G;exact G
  subst j;have ah:(n:Int)<=(O:Int):=oq;clear G ac Z H;go_wp2
  all_goals (go_ret;exact⟨⟨_,rfl⟩,x.o.qm,x.o.but⟩)
 obtain⟨k,rfl⟩:∃m,k=m+1:=⟨k-1,oq⟩;rw[QE,Z2 oq] at G;have ah:¬(n:Int)<=(O:Int):=oq;have ai:(O:Int)<(n:Int):=oq;have I:=uw (l:=q) (i:=i) (n:=n) oq;have M:xc q i n=if U<n/\q.getD U 0<q.getD O 0 then U else O:=by unfold xc;rw[Z,H]
 obtain⟨C,ae⟩:=ez (xc q i n);rw[ae] at G I M;have z:=hid G;have Y:=hid I;have ao:=I.1;have an:=I.2;clear G ae I Z ac;by_cases ag:U<n
 .have af:(U:Int)<(n:Int):=oq;have A:=hid (VI (w:=wr) v q x.o.qm.own U O oq oq);by_cases X:q.getD U 0<q.getD O 0
  .rw[Z3 ⟨ag,X⟩] at M;subst M;rw[Z1 X] at A;have f:=hid (fun m=>VI (w:=wr.drewN m) v q x.o.qm.own C i oq oq);by_cases g:q.getD C 0<q.getD i 0
   .have HG:=hid (show QE k (swp q i C) C n=D by have:=z.o;rw[Z3 g] at this;exact this);rw[Z1 g] at f;clear X g z H;go_wp2_with (first|(go_at_call 290;refine A.o.mono ?_;rintro y V ⟨rfl,E,rfl⟩;have aa:=fun n=>KL n (w:=wr.drewN E) (b:=b) (o:=o) (v:=v) c0;have L:=hid (f.o E);clear A)|(go_at_call 290;refine L.o.mono ?_;rintro y V ⟨rfl,m2,rfl⟩;have mS:=fun n=>EI n (w:=wr.drewN (E+m2)) (b:=b) (o:=o) (v:=v) c0;have T:=hid (VR (w:=wr.drewN (E+m2)) v q (show QV _ B v q from x.o.qm.own) i C oq oq))|(go_at_call 292;refine T.o.mono ?_;rintro y w3 ⟨rfl,J,hb3⟩;have R:=hid J;have HB3:=hid hb3;clear J hb3));exact⟨hid ⟨k,swp q i C,C,rfl,x.o.next Y.o HG.o (m2:=E+m2) R.o HB3.o⟩,by simp[intOf];omega⟩
   have j:q=D:=by have:=z.o;rw[Z2 g] at this;exact this
   rw[Z0 g] at f;subst j;clear X g z H;go_wp2_with (first|(go_at_call 290;refine A.o.mono ?_;rintro y V ⟨rfl,E,rfl⟩;have aa:=fun n=>KL n (w:=wr.drewN E) (b:=b) (o:=o) (v:=v) c0;have L:=hid (f.o E);clear A)|(go_at_call 290;refine L.o.mono ?_;rintro y V ⟨rfl,m2,rfl⟩))
   all_goals (go_ret;exact⟨⟨_,rfl⟩,⟨x.o.qm.cell,x.o.qm.fz,x.o.qm.own,x.o.qm.lt,x.o.qm.hi⟩,x.o.but.trans ((But.refl _ wr).drewN (E+m2))⟩)
  rw[Z2 (fun e=>X e.2)] at M;subst M;rw[Z0 X] at A;have f:=hid (fun m=>VI (w:=wr.drewN m) v q x.o.qm.own C i oq oq);by_cases g:q.getD C 0<q.getD i 0
  .have HG:=hid (show QE k (swp q i C) C n=D by have:=z.o;rw[Z3 g] at this;exact this);rw[Z1 g] at f;clear X g z H;go_wp2_with (first|(go_at_call 290;refine A.o.mono ?_;rintro y V ⟨rfl,E,rfl⟩;have aa:=fun n=>KL n (w:=wr.drewN E) (b:=b) (o:=o) (v:=v) c0;have L:=hid (f.o E);clear A)|(go_at_call 290;refine L.o.mono ?_;rintro y V ⟨rfl,m2,rfl⟩;have mS:=fun n=>EI n (w:=wr.drewN (E+m2)) (b:=b) (o:=o) (v:=v) c0;have T:=hid (VR (w:=wr.drewN (E+m2)) v q (show QV _ B v q from x.o.qm.own) i C oq oq))|(go_at_call 292;refine T.o.mono ?_;rintro y w3 ⟨rfl,J,hb3⟩;have R:=hid J;have HB3:=hid hb3;clear J hb3));exact⟨hid ⟨k,swp q i C,C,rfl,x.o.next Y.o HG.o (m2:=E+m2) R.o HB3.o⟩,by simp[intOf];omega⟩
  have j:q=D:=by have:=z.o;rw[Z2 g] at this;exact this
  rw[Z0 g] at f;subst j;clear X g z H;go_wp2_with (first|(go_at_call 290;refine A.o.mono ?_;rintro y V ⟨rfl,E,rfl⟩;have aa:=fun n=>KL n (w:=wr.drewN E) (b:=b) (o:=o) (v:=v) c0;have L:=hid (f.o E);clear A)|(go_at_call 290;refine L.o.mono ?_;rintro y V ⟨rfl,m2,rfl⟩))
  all_goals (go_ret;exact⟨⟨_,rfl⟩,⟨x.o.qm.cell,x.o.qm.fz,x.o.qm.own,x.o.qm.lt,x.o.qm.hi⟩,x.o.but.trans ((But.refl _ wr).drewN (E+m2))⟩)
 have af:¬(U:Int)<(n:Int):=oq;rw[Z2 (fun e=>ag e.1)] at M;subst M;have f:=hid (VI (w:=wr) v q x.o.qm.own C i oq oq);by_cases g:q.getD C 0<q.getD i 0
 .have HG:=hid (show QE k (swp q i C) C n=D by have:=z.o;rw[Z3 g] at this;exact this);rw[Z1 g] at f;clear g z H;go_wp2_with (first|(go_at_call 290;refine f.o.mono ?_;rintro y V ⟨rfl,m2,rfl⟩;have mS:=fun n=>EI n (w:=wr.drewN m2) (b:=b) (o:=o) (v:=v) c0;have T:=hid (VR (w:=wr.drewN m2) v q (show QV _ B v q from x.o.qm.own) i C oq oq))|(go_at_call 292;refine T.o.mono ?_;rintro y w3 ⟨rfl,J,hb3⟩;have R:=hid J;have HB3:=hid hb3;clear J hb3));exact⟨hid ⟨k,swp q i C,C,rfl,x.o.next Y.o HG.o (m2:=m2) R.o HB3.o⟩,by simp[intOf];omega⟩
 have j:q=D:=by have:=z.o;rw[Z2 g] at this;exact this
 rw[Z0 g] at f;subst j;clear g z H;go_wp2_with (go_at_call 290;refine f.o.mono ?_;rintro y V ⟨rfl,m2,rfl⟩)
 all_goals (go_ret;exact⟨⟨_,rfl⟩,⟨x.o.qm.cell,x.o.qm.fz,x.o.qm.own,x.o.qm.lt,x.o.qm.hi⟩,x.o.but.trans ((But.refl _ wr).drewN m2)⟩)
theorem Ub.then{w w' w2:World}{b o B:Nat}{v v':Value}{x:List Int}{arr f:Array Value}{t:TypeId}(q:∀k,v'.ownBlock=some k->v.ownBlock=some k\/w.1.size<=k)(hb:But (fun k=>k=b\/v.ownBlock=some k) w w')
  (y:w.1[b]?=some (.cells arr t (0,0)))(m:w'.1[b]?=some (.cells f t (0,0)))(z:f=arr.setIfInBounds o v')(j:QM w2 b o B v' x)(hb2:But (fun k=>v'.ownBlock=some k) w' w2):Ub w b o B v x w2:=by
 have g:¬v'.ownBlock=some b:=fun e=>by have:=(Vt j.own b e).1;have:=j.lt;omega
 refine⟨v',arr,t,f,j,q,hb.then hb2 (fun i hi e=>?_),y,(hb2.block b (Zb m) g).trans m,z⟩;rcases q i e with h|h
 .exact .inr h
 omega
theorem zW(h:QM w b o B v q)(H:w.1[b]?=some (.cells arr t (0,0)))(R:q.length<=10000)(x:Int) :
  Calls prog 116 #[.iface 293 (.pointer (some ⟨b,o,none⟩)),.iface 3 (.int .i64 x)] w fun y w'=>y=.returned (.tuple #[])/\Ub w b o B v (Jd q x) w':=by
 have J:=hid (ZaM h H oq x);have U:=fun n w=>ZfY n w ⟨b,o,none⟩
 clear h H;go_enter func116,ntmps116;go_wp2_with (first|(go_at_call 298;refine J.o.mono ?_;rintro y O ⟨rfl,I,F,V,G,f,g,hb2,j,m,z⟩;have c2:=f.cell;have T:=fun n=>Zff n c2;have L:=hid f;have C:=hid (GJ I (q++[x]) f.own);have D:=hid (fun(W:World) (hW:W=O)=>Zgw (w:=W) (b:=b) (o:=o) (B:=B) (v:=I) (q:=q++[x]) (hW▸f) (q.length+1) q.length oq (by simp) (by simp;omega));have A:=hid (Zh g (Zh hb2 (Zh j (Zh m z))));clear f g hb2 j m z)|(go_at_call 105;refine C.o.mono ?_;rintro y X ⟨rfl,rfl⟩;have M:(((q++[x]).length:Nat):Int)-1=(q.length:Int):=(by simp))|(go_at_call 178;refine(D.o _ rfl).mono ?_;rintro y Y ⟨rfl,E,hb4⟩));go_end0;obtain⟨g,hb2,j,m,z⟩:=A.o;exact⟨rfl,Ub.then g hb2 j m z E hb4⟩
theorem Zce(h:QM w b o B v q)(U:w.1[b]?=some (.cells arr t (0,0)))(hq:q≠[])(aa:q.length<=10000) :
  Calls prog 117 #[.iface 293 (.pointer (some ⟨b,o,none⟩))] w fun y w'=>y=.returned (.iface 3 (.int .i64 (QB q).1))/\Ub w b o B v (QB q).2 w':=by
 have h0:0<q.length:=by cases q with
  | nil=>exact absurd rfl hq
  | cons _ _=>simp
 obtain⟨n,hn⟩:∃n,q.length=n+1:=⟨q.length-1,oq⟩;have c0:=h.cell;have f:b<w.1.size:=Zd h.lt h.hi;have j:¬v.ownBlock=some b:=fun e=>by have:=(Vt h.own b e).1;have:=h.lt;omega
 have mL:=fun n=>Zff n c0
 have mS:=fun n=>EI n c0
 have J:=hid (GJ v q h.own);have R:=hid (VR (w:=w) v q h.own 0 n oq oq);have I:Qf q=QE q.length (swp q 0 n) 0 n:=by unfold Qf;rw[show q.length-1=n by omega]
 have m:=hid (fun(W:World) (h1:QV W B v (swp q 0 n)) (h2:But (fun k=>v.ownBlock=some k) w W) =>
  ZbS (w:=W) (b:=b) (o:=o) (B:=B) (v:=v) (q:=swp q 0 n) ⟨(Zn (w:=w) (h2.block b f j)).trans h.cell,(Z7 (w:=w) (h2.block b f j)).trans h.fz,h1,h.lt,Zm h.hi h2.size⟩ q.length n (by rw[XD];omega) oq (by rw[XD];omega))
 rw[<-I] at m;have A:=hid (fun(W:World) (h1:QM W b o B v (Qf q)) (h2:But (fun k=>v.ownBlock=some k) w W)=>Zc2 (w:=W) h1 ((h2.block b f j).trans U) (by intro e;have:=Jm q;rw[e] at this;simp at this;omega) (by rw[Jm];omega));have E:QB q=((Qf q).getD ((Qf q).length-1) 0,(Qf q).take ((Qf q).length-1)):=by unfold QB;rw[Jm]
 rw[E];simp only;have HH:=hid h;have z:=hid U;have ab:IntKind.i64.wrap ((q.length:Int)-1)=(n:Int):=by rw[show(q.length:Int)-1=(n:Int) by omega];exact ZL _ oq
 have ac:(q.length:Int)-1=(n:Int):=oq;have mP:=fun n w=>Zg4 n w ⟨b,o,none⟩
 obtain⟨x,hx⟩:=ez ((Qf q).getD ((Qf q).length-1) 0);obtain⟨q',F⟩:=ez ((Qf q).take ((Qf q).length-1));rw[hx,F] at A ⊢;clear h U hq I E hx F;go_enter func117,ntmps117;go_wp2_with (first|(go_at_call 105;refine J.o.mono ?_;rintro y w3 ⟨rfl,rfl⟩)|(go_at_call 292;refine R.o.mono ?_;rintro y w2 ⟨rfl,G,hb2⟩;have M:=hid G;have HB2:=hid hb2;clear G hb2)|(go_at_call 179;refine(m.o _ M.o HB2.o).mono ?_;rintro y w4 ⟨⟨cc,rfl⟩,H,hb4⟩;have O:=hid H;have HB4:=hid (HB2.o.trans hb4);clear H hb4)|(go_at_call 297;refine(A.o _ O.o HB4.o).mono ?_;rintro y w5 ⟨rfl,D⟩;have L:=hid D;clear D));go_ret;obtain⟨v5,Z,t1,C,Y,T,hb5,g,V,X⟩:=L.o;have e1:=(HB4.o.block b f j).trans z.o;rw[e1] at g;injection g with g
 injection g with g hh4 hh5
 subst g;subst hh4;refine⟨rfl,v5,arr,t,C,Y,fun k hk=>?_,?_,z.o,V,X⟩
 .rcases T k hk with h1|h1
  .exact .inl h1
  exact .inr (Zm HB4.o.size h1)
 exact(HB4.o.imp (fun i _ e=>.inr e)).then hb5 (fun i hi e=>e)
