/- Parts of the proof. -/
import Derived.Test.YtgigilkpndhddaaGreatDoorV06
import Derived.Test.YtgigilkpndhddaaGreatDoorV08
set_option linter.all false
set_option maxRecDepth 100000
set_option maxHeartbeats 16000000
namespace Go.Proofs.YtgigilkpndhddaaGreatDoor.clock
open Tryz
open Go.RowKit
theorem Y0(p f:Int)(w:World) :
  Calls prog 116 #[.agg #[.int .i64 p,.int .i64 f]] w fun e w'=>e=.returned (.bool (YF p f))∧Below w.heap.size w w':=by
 by_cases g:0<p
 ·by_cases j:p≤2000
  ·by_cases m:0≤f
   ·by_cases q:f≤2000
    ·have E:=Lib.hid (YQ (p:=p) (f:=f) oz);go_enter func116,ntmps116;go_wp2;go_ret;exact⟨Xx (by rw[E.out]),Vg _⟩
    have E:=Lib.hid (Q5 (p:=p) (f:=f) oz);have z:2000<f:=oz;have b:decide (f≤2000)=false:=Yt q;clear q;go_enter func116,ntmps116;go_wp2;go_ret;exact⟨Xx (by rw[E.out];try (simp;omega)),Vg _⟩
   have E:=Lib.hid (Q5 (p:=p) (f:=f) oz);have y:f<0:=oz;have b:decide (0≤f)=false:=Yt m;clear m;go_enter func116,ntmps116;go_wp2;go_ret;exact⟨Xx (by rw[E.out];try (simp;omega)),Vg _⟩
  have E:=Lib.hid (Q5 (p:=p) (f:=f) oz);have x:2000<p:=oz;have b:decide (p≤2000)=false:=Yt j;clear j;go_enter func116,ntmps116;go_wp2;go_ret;exact⟨Xx (by rw[E.out];try (simp;omega)),Vg _⟩
 have E:=Lib.hid (Q5 (p:=p) (f:=f) oz);have v:p≤0:=oz;have b:decide (0<p)=false:=Yt g;clear g;go_enter func116,ntmps116;go_wp2;go_ret;exact⟨Xx (by rw[E.out];try (simp;omega)),Vg _⟩
open Go.RowKit syn
theorem Xz{w:World}{b:Nat}{v0 v1:Value}{t:TypeId}(h:w.heap[b]?=some (.cells #[v0,v1] t (0,0))) :
  (w.cell? ⟨b,0,none⟩=some v0∧w.cell? ⟨b,1,none⟩=some v1)∧∀o,w.frozen? ⟨b,o,none⟩=false:=VZ h
theorem V0{w:World}{b:Nat}{f g j:Value}{t:TypeId}(h:w.heap[b]?=some (.cells #[f,g,j] t (0,0))) :
  (w.cell? ⟨b,0,none⟩=some f∧w.cell? ⟨b,1,none⟩=some g∧w.cell? ⟨b,2,none⟩=some j)∧∀o,w.frozen? ⟨b,o,none⟩=false:=by
 refine⟨⟨?_,?_,?_⟩,?_⟩
 all_goals first|(intro o;simp[World.frozen?,h])|simp[World.cell?,h]
def Kk(p f k n d:Int)(w:World)(a b c:Int):Prop:=Calls prog 74 #[.agg #[.int .i64 p,.int .i64 f],.agg #[.int .i64 k,.int .i64 n,.int .i64 d]] w fun e w'=>e=.returned (.tuple #[.agg #[.int .i64 a,.int .i64 b],.int .i64 c])∧Below w.heap.size w w'
theorem Zd0(p f k n d:Int)(w:World)(h:1≤p∧p≤2000∧0≤f∧f≤2000)(O:k=3)(R:1≤n)(hm:n≤100)(J:p%n=0):Kk p f k n d w (p/n) f 0:=by
 unfold Kk;subst O;have j:=syn.hid (fun w=>Y0 p f w);rw[YQ h] at j;have H:decide (n<1)=false:=syn.ZZ syn.oq;have I:decide (100<n)=false:=syn.ZZ syn.oq;have T:(n == 0)=false:=syn.ZY.2 syn.oq;have G:¬n=0:=syn.oq;have ht:p.tmod n=p%n:=Int.tmod_eq_emod_of_nonneg syn.oq;have hq:p.tdiv n=p/n:=Int.tdiv_eq_ediv_of_nonneg syn.oq;have U:=KV (p:=p) (n:=n) syn.oq syn.oq R J;rw[J] at ht;have m:=syn.hid (fun w=>Y0 (p/n) f w);rw[YQ syn.oq] at m;go_enter func74,ntmps74
 repeat' (first|(go_at_call 116;(with_reducible refine(j.out _).mono ?_);rintro e g ⟨rfl,hb1⟩;clear j;obtain⟨D,E⟩:=YC hb1;have X:w.heap.size<g.heap.size:=Yy hb1 syn.oq;have M:w.heap.size+1<g.heap.size:=Yy hb1 syn.oq;have F:w.heap.size+1+1<g.heap.size:=Yy hb1 syn.oq;have y:g.heap[w.heap.size+1+1]?=some (.cells #[.int .i64 0,.int .i64 0] 62 (0,0)):=(hb1.block _ syn.oq).trans (by simpa using Yw ((w.alloc _).alloc _) _);have A:=syn.hid y;have x:g.heap[w.heap.size+1]?=some (.cells #[.int .i64 3,.int .i64 n,.int .i64 d] 156 (0,0)):=(hb1.block _ syn.oq).trans ((syn.Za _ _ _ (by simp)).trans (by simpa using Yw (w.alloc _) _));have z:=syn.hid x;clear y x)|go_values|go_skip|go_guarded|go_step|go_upon|(simp only[Int.not_lt,Int.not_le] at *;go_simp)|(go_values<;>(try go_simp))|(go_ite<;>go_prune<;>(try go_simp))|(split<;>(first|(rename_i hx;exact(hx _ rfl).elim)|go_prune)))
 go_region;generalize hw3:World.drew g=w3;have hb3:Below g.heap.size g w3:=by rw[←hw3];exact(syn.Zg _ _).drew
 have s3:w.heap.size+1+1<w3.heap.size:=by rw[←hw3];exact F
 have q:=syn.hid ((hb3.block _ F).trans A.out);have C:=syn.hid ((hb3.block _ M).trans z.out);obtain⟨⟨r0,r1⟩,rf⟩:=Xz q.out;obtain⟨⟨o0,o1,o2⟩,V⟩:=V0 C.out;clear hw3 D E
 repeat' (first|(go_at_call 116;(with_reducible refine(m.out _).mono ?_);rintro e L ⟨rfl,hb2⟩;obtain⟨⟨u0,u1⟩,uf⟩:=Xz ((hb2.block w3.heap.size syn.oq).trans (Yw w3 _));obtain⟨⟨v0,v1⟩,vf⟩:=Xz ((hb2.block (w.heap.size+1+1) syn.oq).trans ((syn.Za _ _ _ s3).trans q.out));have Y:w3.heap.size<L.heap.size:=Yy hb2 syn.oq;have Z:w.heap.size+1+1<L.heap.size:=Yy hb2 syn.oq)|go_values|go_skip|go_guarded|go_step|go_upon|(simp only[Int.not_lt,Int.not_le] at *;go_simp)|(go_values<;>(try go_simp))|(go_ite<;>go_prune<;>(try go_simp))|(split<;>(first|(rename_i hx;exact(hx _ rfl).elim)|go_prune)))
 refine syn.Zl (v:=.tuple #[.agg #[.int .i64 (p/n),.int .i64 f],.int .i64 0]) (by simp only[results,results74];go_simp;try rfl) rfl ⟨?_,?_⟩
 ·rfl
 exact syn.bq
theorem Zd1(p f k n d:Int)(w:World)(h:1≤p∧p≤2000∧0≤f∧f≤2000)(M:k=4)(O:1≤n)(Z:n≤100)(hz:p*n≤2000):Kk p f k n d w (p*n) f 0:=by
 unfold Kk;subst M;have j:=syn.hid (fun w=>Y0 p f w);rw[YQ h] at j;have H:decide (n<1)=false:=syn.ZZ syn.oq;have I:decide (100<n)=false:=syn.ZZ syn.oq;have R:(n == 0)=false:=syn.ZY.2 syn.oq;have G:¬n=0:=syn.oq;have T:=um (p:=p) (n:=n) syn.oq O;have m:=syn.hid (fun w=>Y0 (p*n) f w);rw[YQ syn.oq] at m;go_enter func74,ntmps74
 repeat' (first|(go_at_call 116;(with_reducible refine(j.out _).mono ?_);rintro e g ⟨rfl,hb1⟩;clear j;obtain⟨D,E⟩:=YC hb1;have V:w.heap.size<g.heap.size:=Yy hb1 syn.oq;have L:w.heap.size+1<g.heap.size:=Yy hb1 syn.oq;have F:w.heap.size+1+1<g.heap.size:=Yy hb1 syn.oq;have y:g.heap[w.heap.size+1+1]?=some (.cells #[.int .i64 0,.int .i64 0] 62 (0,0)):=(hb1.block _ syn.oq).trans (by simpa using Yw ((w.alloc _).alloc _) _);have A:=syn.hid y;have x:g.heap[w.heap.size+1]?=some (.cells #[.int .i64 4,.int .i64 n,.int .i64 d] 156 (0,0)):=(hb1.block _ syn.oq).trans ((syn.Za _ _ _ (by simp)).trans (by simpa using Yw (w.alloc _) _));have z:=syn.hid x;clear y x)|go_values|go_skip|go_guarded|go_step|go_upon|(simp only[Int.not_lt,Int.not_le] at *;go_simp)|(go_values<;>(try go_simp))|(go_ite<;>go_prune<;>(try go_simp))|(split<;>(first|(rename_i hx;exact(hx _ rfl).elim)|go_prune)))
 go_region;generalize hw3:World.drew g=w3;have hb3:Below g.heap.size g w3:=by rw[←hw3];exact(syn.Zg _ _).drew
 have s3:w.heap.size+1+1<w3.heap.size:=by rw[←hw3];exact F
 have q:=syn.hid ((hb3.block _ F).trans A.out);have C:=syn.hid ((hb3.block _ L).trans z.out);obtain⟨⟨r0,r1⟩,rf⟩:=Xz q.out;obtain⟨⟨o0,o1,o2⟩,U⟩:=V0 C.out;clear hw3 D E
 repeat' (first|(go_at_call 116;(with_reducible refine(m.out _).mono ?_);rintro e J ⟨rfl,hb2⟩;obtain⟨⟨u0,u1⟩,uf⟩:=Xz ((hb2.block w3.heap.size syn.oq).trans (Yw w3 _));obtain⟨⟨v0,v1⟩,vf⟩:=Xz ((hb2.block (w.heap.size+1+1) syn.oq).trans ((syn.Za _ _ _ s3).trans q.out));have X:w3.heap.size<J.heap.size:=Yy hb2 syn.oq;have Y:w.heap.size+1+1<J.heap.size:=Yy hb2 syn.oq)|go_values|go_skip|go_guarded|go_step|go_upon|(simp only[Int.not_lt,Int.not_le] at *;go_simp)|(go_values<;>(try go_simp))|(go_ite<;>go_prune<;>(try go_simp))|(split<;>(first|(rename_i hx;exact(hx _ rfl).elim)|go_prune)))
 refine syn.Zl (v:=.tuple #[.agg #[.int .i64 (p*n),.int .i64 f],.int .i64 0]) (by simp only[results,results74];go_simp;try rfl) rfl ⟨?_,?_⟩
 ·rfl
 exact syn.bq
theorem Zd2(p f k n d:Int)(w:World)(h:1≤p∧p≤2000∧0≤f∧f≤2000)(X:k=5)(Y:0≤n)(hm:n≤100)(hd:1≤d)(he:d≤100)(hz:p*n%d=0)(hl:f+p*n/d≤2000):Kk p f k n d w p (f+p*n/d) 0:=by
 unfold Kk;subst X;have m:=syn.hid (fun w=>Y0 p f w);rw[YQ h] at m;have O:decide (n<0)=false:=syn.ZZ syn.oq;have R:decide (100<n)=false:=syn.ZZ syn.oq;have L:decide (d<1)=false:=syn.ZZ syn.oq;have M:decide (100<d)=false:=syn.ZZ syn.oq;have V:(d == 0)=false:=syn.ZY.2 syn.oq;have J:¬d=0:=syn.oq;have g:0≤p*n:=Int.mul_nonneg syn.oq Y;have z:=(uk (p:=p) (n:=n) syn.oq syn.oq syn.oq syn.oq).2;have ht:(p*n).tmod d=p*n%d:=Int.tmod_eq_emod_of_nonneg g;have hq:(p*n).tdiv d=p*n/d:=Int.tdiv_eq_ediv_of_nonneg g;have Z:0≤p*n/d:=Int.ediv_nonneg g syn.oq;have aa:=(Zct (x:=p*n) (d:=d) syn.oq z hd).2;rw[hz] at ht;have q:=syn.hid (fun w=>Y0 p (f+p*n/d) w);rw[YQ syn.oq] at q;go_enter func74,ntmps74
 repeat' (first|(go_at_call 116;(with_reducible refine(m.out _).mono ?_);rintro e j ⟨rfl,hb1⟩;clear m;obtain⟨G,H⟩:=YC hb1;have a1:w.heap.size<j.heap.size:=Yy hb1 syn.oq;have U:w.heap.size+1<j.heap.size:=Yy hb1 syn.oq;have I:w.heap.size+1+1<j.heap.size:=Yy hb1 syn.oq;have C:j.heap[w.heap.size+1+1]?=some (.cells #[.int .i64 0,.int .i64 0] 62 (0,0)):=(hb1.block _ syn.oq).trans (by simpa using Yw ((w.alloc _).alloc _) _);have E:=syn.hid C;have A:j.heap[w.heap.size+1]?=some (.cells #[.int .i64 5,.int .i64 n,.int .i64 d] 156 (0,0)):=(hb1.block _ syn.oq).trans ((syn.Za _ _ _ (by simp)).trans (by simpa using Yw (w.alloc _) _));have D:=syn.hid A;clear C A)|go_values|go_skip|go_guarded|go_step|go_upon|(simp only[Int.not_lt,Int.not_le] at *;go_simp)|(go_values<;>(try go_simp))|(go_ite<;>go_prune<;>(try go_simp))|(split<;>(first|(rename_i hx;exact(hx _ rfl).elim)|go_prune)))
 go_region;generalize hw3:World.drew j=w3;have hb3:Below j.heap.size j w3:=by rw[←hw3];exact(syn.Zg _ _).drew
 have s3:w.heap.size+1+1<w3.heap.size:=by rw[←hw3];exact I
 have y:=syn.hid ((hb3.block _ I).trans E.out);have F:=syn.hid ((hb3.block _ U).trans D.out);obtain⟨⟨r0,r1⟩,rf⟩:=Xz y.out;obtain⟨⟨o0,o1,o2⟩,ab⟩:=V0 F.out;clear hw3 G H
 repeat' (first|(go_at_call 116;(with_reducible refine(q.out _).mono ?_);rintro e T ⟨rfl,hb2⟩;obtain⟨⟨u0,u1⟩,uf⟩:=Xz ((hb2.block w3.heap.size syn.oq).trans (Yw w3 _));obtain⟨⟨v0,v1⟩,vf⟩:=Xz ((hb2.block (w.heap.size+1+1) syn.oq).trans ((syn.Za _ _ _ s3).trans y.out));have a4:w3.heap.size<T.heap.size:=Yy hb2 syn.oq;have a5:w.heap.size+1+1<T.heap.size:=Yy hb2 syn.oq)|go_values|go_skip|go_guarded|go_step|go_upon|(simp only[Int.not_lt,Int.not_le] at *;go_simp)|(go_values<;>(try go_simp))|(go_ite<;>go_prune<;>(try go_simp))|(split<;>(first|(rename_i hx;exact(hx _ rfl).elim)|go_prune)))
 refine syn.Zl (v:=.tuple #[.agg #[.int .i64 p,.int .i64 (f+p*n/d)],.int .i64 0]) (by simp only[results,results74];go_simp;try rfl) rfl ⟨?_,?_⟩
 ·rfl
 exact syn.bq
theorem ra6(p f k n d:Int)(w:World)(h:1≤p∧p≤2000∧0≤f∧f≤2000)(I:k=6):Kk p f k n d w p f 0:=by
 unfold Kk;subst I;have j:=syn.hid (fun w=>Y0 p f w);rw[YQ h] at j;have m:=syn.hid (fun w=>Y0 p f w);rw[YQ syn.oq] at m;go_enter func74,ntmps74
 repeat' (first|(go_at_call 116;(with_reducible refine(j.out _).mono ?_);rintro e g ⟨rfl,hb1⟩;clear j;obtain⟨D,E⟩:=YC hb1;have L:w.heap.size<g.heap.size:=Yy hb1 syn.oq;have H:w.heap.size+1<g.heap.size:=Yy hb1 syn.oq;have F:w.heap.size+1+1<g.heap.size:=Yy hb1 syn.oq;have y:g.heap[w.heap.size+1+1]?=some (.cells #[.int .i64 0,.int .i64 0] 62 (0,0)):=(hb1.block _ syn.oq).trans (by simpa using Yw ((w.alloc _).alloc _) _);have A:=syn.hid y;have x:g.heap[w.heap.size+1]?=some (.cells #[.int .i64 6,.int .i64 n,.int .i64 d] 156 (0,0)):=(hb1.block _ syn.oq).trans ((syn.Za _ _ _ (by simp)).trans (by simpa using Yw (w.alloc _) _));have z:=syn.hid x;clear y x)|go_values|go_skip|go_guarded|go_step|go_upon|(simp only[Int.not_lt,Int.not_le] at *;go_simp)|(go_values<;>(try go_simp))|(go_ite<;>go_prune<;>(try go_simp))|(split<;>(first|(rename_i hx;exact(hx _ rfl).elim)|go_prune)))
 go_region;generalize hw3:World.drew g=w3;have hb3:Below g.heap.size g w3:=by rw[←hw3];exact(syn.Zg _ _).drew
 have s3:w.heap.size+1+1<w3.heap.size:=by rw[←hw3];exact F
 have q:=syn.hid ((hb3.block _ F).trans A.out);have C:=syn.hid ((hb3.block _ H).trans z.out);obtain⟨⟨V,X⟩,Y⟩:=Xz q.out;obtain⟨⟨R,T,U⟩,J⟩:=V0 C.out;clear hw3 D E
 repeat' (first|(go_at_call 116;(with_reducible refine(m.out _).mono ?_);rintro e G ⟨rfl,hb2⟩;obtain⟨⟨u0,u1⟩,Z⟩:=Xz ((hb2.block w3.heap.size syn.oq).trans (Yw w3 _));obtain⟨⟨v0,v1⟩,vf⟩:=Xz ((hb2.block (w.heap.size+1+1) syn.oq).trans ((syn.Za _ _ _ s3).trans q.out));have M:w3.heap.size<G.heap.size:=Yy hb2 syn.oq;have O:w.heap.size+1+1<G.heap.size:=Yy hb2 syn.oq)|go_values|go_skip|go_guarded|go_step|go_upon|(simp only[Int.not_lt,Int.not_le] at *;go_simp)|(go_values<;>(try go_simp))|(go_ite<;>go_prune<;>(try go_simp))|(split<;>(first|(rename_i hx;exact(hx _ rfl).elim)|go_prune)))
 refine syn.Zl (v:=.tuple #[.agg #[.int .i64 p,.int .i64 f],.int .i64 0]) (by simp only[results,results74];go_simp;try rfl) rfl ⟨?_,?_⟩
 ·rfl
 exact syn.bq
theorem Zd3(p f k n d:Int)(w:World)(h:1≤p∧p≤2000∧0≤f∧f≤2000)(I:k=7)(R:f+p≤2000):Kk p f k n d w p (f+p) 0:=by
 unfold Kk;subst I;have j:=syn.hid (fun w=>Y0 p f w);rw[YQ h] at j;have m:=syn.hid (fun w=>Y0 p (f+p) w);rw[YQ syn.oq] at m;go_enter func74,ntmps74
 repeat' (first|(go_at_call 116;(with_reducible refine(j.out _).mono ?_);rintro e g ⟨rfl,hb1⟩;clear j;obtain⟨D,E⟩:=YC hb1;have L:w.heap.size<g.heap.size:=Yy hb1 syn.oq;have H:w.heap.size+1<g.heap.size:=Yy hb1 syn.oq;have F:w.heap.size+1+1<g.heap.size:=Yy hb1 syn.oq;have y:g.heap[w.heap.size+1+1]?=some (.cells #[.int .i64 0,.int .i64 0] 62 (0,0)):=(hb1.block _ syn.oq).trans (by simpa using Yw ((w.alloc _).alloc _) _);have A:=syn.hid y;have x:g.heap[w.heap.size+1]?=some (.cells #[.int .i64 7,.int .i64 n,.int .i64 d] 156 (0,0)):=(hb1.block _ syn.oq).trans ((syn.Za _ _ _ (by simp)).trans (by simpa using Yw (w.alloc _) _));have z:=syn.hid x;clear y x)|go_values|go_skip|go_guarded|go_step|go_upon|(simp only[Int.not_lt,Int.not_le] at *;go_simp)|(go_values<;>(try go_simp))|(go_ite<;>go_prune<;>(try go_simp))|(split<;>(first|(rename_i hx;exact(hx _ rfl).elim)|go_prune)))
 go_region;generalize hw3:World.drew g=w3;have hb3:Below g.heap.size g w3:=by rw[←hw3];exact(syn.Zg _ _).drew
 have s3:w.heap.size+1+1<w3.heap.size:=by rw[←hw3];exact F
 have q:=syn.hid ((hb3.block _ F).trans A.out);have C:=syn.hid ((hb3.block _ H).trans z.out);obtain⟨⟨X,Y⟩,Z⟩:=Xz q.out;obtain⟨⟨T,U,V⟩,J⟩:=V0 C.out;clear hw3 D E
 repeat' (first|(go_at_call 116;(with_reducible refine(m.out _).mono ?_);rintro e G ⟨rfl,hb2⟩;obtain⟨⟨u0,u1⟩,uf⟩:=Xz ((hb2.block w3.heap.size syn.oq).trans (Yw w3 _));obtain⟨⟨v0,v1⟩,vf⟩:=Xz ((hb2.block (w.heap.size+1+1) syn.oq).trans ((syn.Za _ _ _ s3).trans q.out));have M:w3.heap.size<G.heap.size:=Yy hb2 syn.oq;have O:w.heap.size+1+1<G.heap.size:=Yy hb2 syn.oq)|go_values|go_skip|go_guarded|go_step|go_upon|(simp only[Int.not_lt,Int.not_le] at *;go_simp)|(go_values<;>(try go_simp))|(go_ite<;>go_prune<;>(try go_simp))|(split<;>(first|(rename_i hx;exact(hx _ rfl).elim)|go_prune)))
 refine syn.Zl (v:=.tuple #[.agg #[.int .i64 p,.int .i64 (f+p)],.int .i64 0]) (by simp only[results,results74];go_simp;try rfl) rfl ⟨?_,?_⟩
 ·rfl
 exact syn.bq
theorem Zd4(p f k n d:Int)(w:World)(h:1≤p∧p≤2000∧0≤f∧f≤2000)(I:k=8)(T:p≤f):Kk p f k n d w p (f-p) 0:=by
 unfold Kk;subst I;have j:=syn.hid (fun w=>Y0 p f w);rw[YQ h] at j;have J:decide (f<p)=false:=syn.ZZ syn.oq;have m:=syn.hid (fun w=>Y0 p (f-p) w);rw[YQ syn.oq] at m;go_enter func74,ntmps74
 repeat' (first|(go_at_call 116;(with_reducible refine(j.out _).mono ?_);rintro e g ⟨rfl,hb1⟩;clear j;obtain⟨D,E⟩:=YC hb1;have M:w.heap.size<g.heap.size:=Yy hb1 syn.oq;have H:w.heap.size+1<g.heap.size:=Yy hb1 syn.oq;have F:w.heap.size+1+1<g.heap.size:=Yy hb1 syn.oq;have y:g.heap[w.heap.size+1+1]?=some (.cells #[.int .i64 0,.int .i64 0] 62 (0,0)):=(hb1.block _ syn.oq).trans (by simpa using Yw ((w.alloc _).alloc _) _);have A:=syn.hid y;have x:g.heap[w.heap.size+1]?=some (.cells #[.int .i64 8,.int .i64 n,.int .i64 d] 156 (0,0)):=(hb1.block _ syn.oq).trans ((syn.Za _ _ _ (by simp)).trans (by simpa using Yw (w.alloc _) _));have z:=syn.hid x;clear y x)|go_values|go_skip|go_guarded|go_step|go_upon|(simp only[Int.not_lt,Int.not_le] at *;go_simp)|(go_values<;>(try go_simp))|(go_ite<;>go_prune<;>(try go_simp))|(split<;>(first|(rename_i hx;exact(hx _ rfl).elim)|go_prune)))
 go_region;generalize hw3:World.drew g=w3;have hb3:Below g.heap.size g w3:=by rw[←hw3];exact(syn.Zg _ _).drew
 have s3:w.heap.size+1+1<w3.heap.size:=by rw[←hw3];exact F
 have q:=syn.hid ((hb3.block _ F).trans A.out);have C:=syn.hid ((hb3.block _ H).trans z.out);obtain⟨⟨Y,Z⟩,rf⟩:=Xz q.out;obtain⟨⟨U,V,X⟩,L⟩:=V0 C.out;clear hw3 D E
 repeat' (first|(go_at_call 116;(with_reducible refine(m.out _).mono ?_);rintro e G ⟨rfl,hb2⟩;obtain⟨⟨u0,u1⟩,uf⟩:=Xz ((hb2.block w3.heap.size syn.oq).trans (Yw w3 _));obtain⟨⟨v0,v1⟩,vf⟩:=Xz ((hb2.block (w.heap.size+1+1) syn.oq).trans ((syn.Za _ _ _ s3).trans q.out));have O:w3.heap.size<G.heap.size:=Yy hb2 syn.oq;have R:w.heap.size+1+1<G.heap.size:=Yy hb2 syn.oq)|go_values|go_skip|go_guarded|go_step|go_upon|(simp only[Int.not_lt,Int.not_le] at *;go_simp)|(go_values<;>(try go_simp))|(go_ite<;>go_prune<;>(try go_simp))|(split<;>(first|(rename_i hx;exact(hx _ rfl).elim)|go_prune)))
 refine syn.Zl (v:=.tuple #[.agg #[.int .i64 p,.int .i64 (f-p)],.int .i64 0]) (by simp only[results,results74];go_simp;try rfl) rfl ⟨?_,?_⟩
 ·rfl
 exact syn.bq
theorem jF(W:World)(p f k n d a b:Int)(g:YB p f k n d=(a,b,0)) :
  Calls prog 74 #[.agg #[.int .i64 p,.int .i64 f],.agg #[.int .i64 k,.int .i64 n,.int .i64 d]] W fun e w'=>e=.returned (.tuple #[.agg #[.int .i64 a,.int .i64 b],.int .i64 0])∧Below W.heap.size W w':=by
 show Kk p f k n d W a b 0;unfold YB at g;split at g
 ·simp only[syn.Z4] at g;omega
 rename_i h0
 have h:1≤p∧p≤2000∧0≤f∧f≤2000:=Xq.1 (by cases hr:YF p f with|true=>rfl|false=>exact absurd (Or.inl hr) h0);have v:3≤k∧k≤8:=by
  constructor
  ·exact Int.not_lt.1 (fun hc=>h0 (Or.inr (Or.inl hc)))
  exact Int.not_lt.1 (fun hc=>h0 (Or.inr (Or.inr hc)))
 split at g
 ·simp only[syn.Z4] at g;omega
 rename_i h1
 have q:Q9 k n d=true:=by cases hr:Q9 k n d with|true=>rfl|false=>exact absurd hr h1
 unfold Q9 at q;have m:=syn.Yj q;obtain rfl|rfl|rfl|rfl|rfl|rfl:k=3∨k=4∨k=5∨k=6∨k=7∨k=8:=syn.oq
 ·have j:=m.1 syn.oq;simp only[if_true] at g;split at g
  ·rename_i hz
   simp only[syn.Z4] at g;obtain⟨rfl,rfl,_⟩:=g;exact Zd0 p f 3 n d W h rfl j.1 j.2 hz
  simp only[syn.Z4] at g;omega
 ·have j:=m.1 syn.oq;simp only[show ¬(4:Int)=3 by omega,if_false,if_true] at g;split at g
  ·rename_i hz
   simp only[syn.Z4] at g;obtain⟨rfl,rfl,_⟩:=g;exact Zd1 p f 4 n d W h rfl j.1 j.2 hz
  simp only[syn.Z4] at g;omega
 ·have j:=m.2 syn.oq;simp only[show ¬(5:Int)=3 by omega,show ¬(5:Int)=4 by omega,if_false,if_true] at g;split at g
  ·rename_i hz
   unfold fin at g;split at g
   ·rename_i hl
    simp only[syn.Z4] at g;obtain⟨rfl,rfl,_⟩:=g;exact Zd2 p f 5 n d W h rfl j.2.2.1 j.2.2.2 j.1 j.2.1 hz hl
   simp only[syn.Z4] at g;omega
  simp only[syn.Z4] at g;omega
 ·simp only[show ¬(6:Int)=3 by omega,show ¬(6:Int)=4 by omega,show ¬(6:Int)=5 by omega,if_false,if_true,syn.Z4] at g;obtain⟨rfl,rfl,_⟩:=g;exact ra6 p f 6 n d W h rfl
 ·simp only[show ¬(7:Int)=3 by omega,show ¬(7:Int)=4 by omega,show ¬(7:Int)=5 by omega,show ¬(7:Int)=6 by omega,if_false,if_true] at g;unfold fin at g;split at g
  ·rename_i hl
   simp only[syn.Z4] at g;obtain⟨rfl,rfl,_⟩:=g;exact Zd3 p f 7 n d W h rfl hl
  simp only[syn.Z4] at g;omega
 simp only[show ¬(8:Int)=3 by omega,show ¬(8:Int)=4 by omega,show ¬(8:Int)=5 by omega,show ¬(8:Int)=6 by omega,show ¬(8:Int)=7 by omega,if_false] at g;split at g
 ·rename_i hl
  simp only[syn.Z4] at g;obtain⟨rfl,rfl,_⟩:=g;exact Zd4 p f 8 n d W h rfl hl
 simp only[syn.Z4] at g;omega
end Go.Proofs.YtgigilkpndhddaaGreatDoor.clock
namespace Go.Proofs.YtgigilkpndhddaaGreatDoor.syn
open Tryz
open Go.RowKit
def nxt(c:Int × Int)(o:Int × Int × Int):Int × Int:=((clock.YB c.1 c.2 o.1 o.2.1 o.2.2).1,(clock.YB c.1 c.2 o.1 o.2.1 o.2.2).2.1)
def Xi(c:Int × Int)(ops:List (Int × Int × Int)):Nat→Int × Int
 | 0=>c
 | i+1=>nxt (Xi c ops i) (ops.getD i (0,0,0))
def ckQ(c:Int × Int)(ops:List (Int × Int × Int))(n:Nat):List (Int × Int):=(List.range (n+1)).map (Xi c ops)
theorem xW(c:Int × Int)(ops:List (Int × Int × Int))(n:Nat):ckQ c ops (n+1)=ckQ c ops n++[Xi c ops (n+1)]:=by unfold ckQ;rw[Yi,ZU];rfl
theorem Jk(c:Int × Int)(ops:List (Int × Int × Int))(n:Nat):(ckQ c ops n).length=n+1:=by simp[ckQ]
theorem GB(c:Int × Int)(ops:List (Int × Int × Int)){n i:Nat}(h:i≤n):(ckQ c ops n).getD i (0,0)=Xi c ops i:=by
 unfold ckQ;rw[Zf,List.getElem?_map,List.getElem?_range oq];rfl
def ckC(l:List (Int × Int)):List Value:=l.flatMap (fun c=>[.int .i64 c.1,.int .i64 c.2])
theorem V2(l m:List (Int × Int)):ckC (l++m)=ckC l++ckC m:=by simp[ckC]
theorem yL:∀l:List (Int × Int),(ckC l).length=l.length*2
 | []=>rfl
 | c::l=>by have:=yL l;unfold ckC at *;simp only[List.flatMap_cons,Zx,Zp,Zw];omega
theorem V3:∀(l:List (Int × Int))(k:Nat),k<l.length→(ckC l)[k*2]?=some (.int .i64 (l.getD k (0,0)).1)∧(ckC l)[k*2+1]?=some (.int .i64 (l.getD k (0,0)).2)
 | [],k,h=>absurd h (by simp)
 | c::l,0,_=>⟨rfl,rfl⟩
 | c::l,k+1,h=>by
  have ih:=V3 l k (by simpa using h);have e:ckC (c::l)=[.int .i64 c.1,.int .i64 c.2]++ckC l:=rfl;rw[e,List.getElem?_append_right (by simp;omega),List.getElem?_append_right (by simp;omega)];simp only[Zp,Zw,List.getD_cons_succ];rw[show(k+1)*2-2=k*2 by omega,show(k+1)*2+1-2=k*2+1 by omega];exact ih
theorem kJ(l:List (Int × Int)):∀u∈ckC l,u.oneCell'=true:=by
 intro u f;unfold ckC at f;obtain⟨c,_,h⟩:=List.mem_flatMap.1 f;simp only[ZR,List.not_mem_nil,or_false] at h;rcases h with rfl|rfl<;>rfl
def Uc(l:List (Int × Int)):Nat→Int
 | 0=>(l.getD (l.length-1) (0,0)).2
 | i+1=>Uc l i+((l.getD i (0,0)).1+(l.getD (i+1) (0,0)).1)
def YW(l:List (Int × Int)):Int:=Uc l (l.length-1)
theorem xw{l:List (Int × Int)}(h:∀k,k<l.length→0≤(l.getD k (0,0)).1∧(l.getD k (0,0)).1≤2000∧0≤(l.getD k (0,0)).2∧(l.getD k (0,0)).2≤2000)(h0:0<l.length):∀i,i<l.length→0≤Uc l i∧Uc l i≤2000+4000*(i:Int)
 | 0,_=>by have:=h (l.length-1) oq;unfold Uc;omega
 | i+1,hi=>by
  have h1:=xw h h0 i oq;have h2:=h i oq;have h3:=h (i+1) hi;unfold Uc;push_cast;omega
theorem xq{w:World}(l:List (Int × Int))(g off cap:Nat)(X:0<l.length)(hl:l.length≤1000)(hc:l.length≤cap)(R:g<w.heap.size)
  (f:∀k,k<l.length→w.cell? ⟨g,off+k*2,none⟩=some (.int .i64 (l.getD k (0,0)).1)∧w.cell? ⟨g,off+k*2+1,none⟩=some (.int .i64 (l.getD k (0,0)).2))
  (z:∀k,k<l.length→0≤(l.getD k (0,0)).1∧(l.getD k (0,0)).1≤2000∧0≤(l.getD k (0,0)).2∧(l.getD k (0,0)).2≤2000) :
  Calls prog 31 #[.slice (some ⟨g,off,none⟩) l.length cap] w fun x w'=>x=.returned (.int .i64 (YW l))∧Below w.heap.size w w':=by
 have T:=hid f;have HS:=hid (xw z X);have F:=hid z;obtain⟨n,J⟩:=ez l.length;have Z:=f (l.length-1) oq;have y:=Z.2;have q:=hid (show YW l=Uc l (n-1) by unfold YW;rw[J]);have j:=hid (show Uc l 0=(l.getD (n-1) (0,0)).2 by unfold Uc;rw[J]);rw[J] at X hl hc y ⊢;have E:=hid J;clear f z Z J;have M:IntKind.i64.wrap ((n:Int)-1)=((n-1:Nat):Int):=by rw[show((n:Int)-1)=((n-1:Nat):Int) by omega];exact ZK _ oq
 obtain⟨m,Y⟩:=ez (n-1);rw[Y] at M y q j;obtain rfl:n=m+1:=oq;clear Y;obtain⟨ph,L⟩:=ez ((l.getD m (0,0)).2);rw[L] at y j;go_enter func31,ntmps31;by_cases H:cap=1
 ·subst H;obtain rfl:m=0:=oq;rw[j.out] at q;go_wp2;go_rounds 1;go_wp2;go_ret;exact⟨by rw[q.out];rfl,Zg _ _⟩
 go_wp2;clear y M L;go_loopw [3,16] (fun s i wr=>Hid (∃k:Nat,i=.int .i64 (k:Int)∧k≤m∧s=.int .i64 (Uc l k)∧Below w.heap.size w wr)) (fun _ i _=>m-(intOf i).toNat)
 case atStart=>exact⟨0,rfl,Zk _,by rw[j.out],Zg _ _⟩
 obtain⟨k,rfl,hk,rfl,hb⟩:=hrel.out;clear hrel;have HB:=hid hb;have U:g<wr.heap.size:=Zd R hb.size;clear hb;by_cases aa:k<m
 ·have c1:=(HB.out.cell (p:=⟨g,off+k*2,none⟩) R).trans (T.out k (by rw[E.out];omega)).1;have c2:=(HB.out.cell (p:=⟨g,off+(k+1)*2,none⟩) R).trans (T.out (k+1) (by rw[E.out];omega)).1;have c3:=(HB.out.cell (p:=⟨g,off+(k+1)*2+1,none⟩) R).trans (T.out (k+1) (by rw[E.out];omega)).2;rw[show off+(k+1)*2=off+2+k*2 by omega] at c2 c3;have e1:=F.out k (by rw[E.out];omega);have e2:=F.out (k+1) (by rw[E.out];omega);have e3:=HS.out k (by rw[E.out];omega);have G:=hid (show Uc l (k+1)=Uc l k+((l.getD k (0,0)).1+(l.getD (k+1) (0,0)).1) from rfl);obtain⟨O,A⟩:=ez ((l.getD k (0,0)).1);obtain⟨p2,C⟩:=ez ((l.getD (k+1) (0,0)).1);obtain⟨f2,I⟩:=ez ((l.getD (k+1) (0,0)).2);obtain⟨s0,D⟩:=ez (Uc l k);rw[A,C,D] at G;rw[A] at c1 e1;rw[C] at c2 e2;rw[I] at c3;rw[D] at e3 ⊢;have ab:IntKind.i64.wrap (O+p2)=O+p2:=ZK _ oq;have ac:IntKind.i64.wrap (s0+(O+p2))=s0+(O+p2):=ZK _ oq;have ae:IntKind.i64.wrap ((k:Int)+1)=((k+1:Nat):Int):=ZK _ oq;have i1:(k:Int)<(m:Int):=oq;have i2:(k:Int)<((m+1:Nat):Int):=oq;have i0:(0:Int)≤(k:Int):=oq;clear A C I D;go_upto_region 5 with fail
  obtain⟨V,v⟩:=ez (wr.alloc (.cells #[.int .i64 p2,.int .i64 f2] 62));have hb5:Below wr.heap.size wr V:=by rw[←v];exact bq
  have d1:=(hb5.cell (p:=⟨g,off+k*2,none⟩) U).trans c1;have d2:V.cell? ⟨wr.heap.size,0,none⟩=some (.int .i64 p2):=by rw[←v];exact(YD (Yw _ _)).1.1
  have HB5:=hid (HB.out.trans (hb5.mono HB.out.size));rw[v];clear v hb5 c1 c2 c3;go_region_held (fun w'=>w'.cell? ⟨g,off+k*2,none⟩=some (.int .i64 O)∧w'.cell? ⟨wr.heap.size,0,none⟩=some (.int .i64 p2)) (go_keep) (fail);go_wp2;go_roundw
  case rel=>exact⟨k+1,by go_num,oq,Z3 (Value.int .i64) G.out.symm,arith.below_drewN HB5.out 1⟩
  simp[intOf];omega
 obtain rfl:k=m:=oq;go_wp2;go_ret;exact⟨by rw[q.out];rfl,HB.out⟩
theorem UX:(prog.info? 62).map (fun i=>(i.zero,i.size,i.bytes))=some (some (.agg #[.int .i64 0,.int .i64 0]),2,16):=by kernel_rfl
theorem Zdr{w:World}{b:Nat}{f g j:Value}{t:TypeId}(h:w.heap[b]?=some (.cells #[f,g,j] t (0,0))):(w.cell? ⟨b,0,none⟩=some f∧w.cell? ⟨b,1,none⟩=some g∧w.cell? ⟨b,2,none⟩=some j)∧∀o,w.frozen? ⟨b,o,none⟩=false:=by
 refine⟨⟨?_,?_,?_⟩,?_⟩
 all_goals first|(intro o;simp[World.frozen?,h])|simp[World.cell?,h]
def CkI(w:World)(B:Nat)(c:Int × Int)(ops:List (Int × Int × Int))(k:Nat)(v:Value)(W:World):Prop :=
 W.heap[B]?=some (.cells #[.int .i64 (Xi c ops k).1,.int .i64 (Xi c ops k).2] 62 (0,0))∧W.ownsRow (B+1) 62 2 v (k+1) (ckC (ckQ c ops k))∧Below w.heap.size w W
theorem XS{w:World}{b:Nat}{u v x:Value}{t:TypeId}(h:w.heap[b]?=some (.cells #[u,v] t (0,0))):(w.setCell ⟨b,0,none⟩ x).heap[b]?=some (.cells #[x,v] t (0,0))∧(w.setCell ⟨b,1,none⟩ x).heap[b]?=some (.cells #[u,x] t (0,0)):=by
 constructor
 ·rw[Zj w _ _ _ _ _ h];rfl
 rw[Zj w _ _ _ _ _ h];rfl
theorem yN{w:World}(x0 x1 x2 x3:Value)(src:Int)(c:Int × Int)(ops:List (Int × Int × Int))(ad:Option Addr)(cap:Nat)(hl:ops.length≤1000)(M:Row OpR 3 w ops ad)
  (hS:∀W,Below w.heap.size w W→Calls prog 76 #[.agg #[x0,x1,x2,x3],.int .i64 src] W fun x w'=>x=.returned (.tuple #[.agg #[.int .i64 c.1,.int .i64 c.2],.bool true])∧Below W.heap.size W w') :
  Calls prog 30 #[.agg #[x0,x1,x2,x3],.agg #[.int .i64 src,.slice ad ops.length cap]] w fun x w'=>(∃v,x=.returned v∧w'.ownsRow w.heap.size 62 2 v (ops.length+1) (ckC (ckQ c ops ops.length)))∧Below w.heap.size w w':=by
 obtain⟨n,hn⟩:=ez ops.length;have HS:=hid hS;have HR:=hid M;have HN:=hid hn;rw[hn] at hl ⊢;clear hS M hn;obtain⟨p,q⟩:=c;have br:=hid (show Xi (p,q) ops 0=(p,q) from rfl);simp only at HS;go_enter func30,ntmps30;go_upto_region 1 with fail
 obtain⟨W1,z⟩:=ez ((w.alloc (.cells #[x0,x1,x2,x3] 34)).alloc (.cells #[.int .i64 src,.slice ad n cap] 69));have hB:Below w.heap.size w W1:=by rw[←z];exact bq
 have ax:W1.heap[w.heap.size]?=some (.cells #[x0,x1,x2,x3] 34 (0,0)):=by rw[←z];exact(Za _ _ _ (by simp)).trans (Yw w _)
 have J:W1.heap[w.heap.size+1]?=some (.cells #[.int .i64 src,.slice ad n cap] 69 (0,0)):=by
  rw[←z];have:=Yw (w.alloc (.cells #[x0,x1,x2,x3] 34)) (.cells #[.int .i64 src,.slice ad n cap] 69)
  rwa [Zu] at this
 obtain⟨⟨a0,a1,a2,a3⟩,af⟩:=Yx ax;obtain⟨⟨y0,y1⟩,yf⟩:=YD J;have au:=Zb J;have HQ:=hid J;have HB:=hid hB;clear ax J hB
 first|rw[z]|skip
 clear z;go_upto_region 2 with (go_at_call 76;refine(HS.out _ HB.out).mono ?_;rintro x f ⟨rfl,hb3⟩;have HB3:=hid (HB.out.trans (hb3.mono HB.out.size));have bk:w.heap.size+1<f.heap.size:=Zd au hb3.size;have bg:=hid ((hb3.block _ au).trans HQ.out);clear hb3 a0 a1 a2 a3 af y0 y1 yf)
 obtain⟨F,A⟩:=ez (f.alloc (.cells #[.int .i64 p,.int .i64 q] 62));have hb4:Below f.heap.size f F:=by rw[←A];exact bq
 have V:F.heap[f.heap.size]?=some (.cells #[.int .i64 p,.int .i64 q] 62 (0,0)):=by rw[←A];exact Yw _ _
 have bm:F.heap.size=f.heap.size+1:=by rw[←A];simp
 rw[A];clear A;obtain⟨⟨z0,z1⟩,zf⟩:=YD V;have bh:=hid V;have HB4:=hid hb4;clear V hb4;go_upto_region 3 with fail
 obtain⟨W5,G⟩:=ez (F.alloc (.cells #[.int .i64 p,.int .i64 q] 62));have hb5:Below F.heap.size F W5:=by rw[←G];exact bq
 have ay:W5.heap[F.heap.size]?=some (.cells #[.int .i64 p,.int .i64 q] 62 (0,0)):=by rw[←G];exact Yw _ _
 rw[G];clear G z0 z1 zf;have HB5:=hid (HB3.out.trans ((HB4.out.mono HB3.out.size).trans (hb5.mono (Zm HB3.out.size HB4.out.size))));have aj:Below f.heap.size f W5:=HB4.out.trans (hb5.mono HB4.out.size);obtain⟨⟨y0,y1⟩,yf⟩:=YD ((aj.block _ bk).trans bg.out);have bc:=hid (show CkI w f.heap.size (p,q) ops 0 (.slice (some ⟨F.heap.size,0,none⟩) 1 1) W5 from ⟨(hb5.block _ oq).trans bh.out,⟨rfl,.inr ⟨F.heap.size,1,#[.int .i64 p,.int .i64 q],rfl,oq,ay,oq,by unfold maxLen;omega,rfl,rfl⟩⟩,HB5.out⟩);have bv:=HB5.out.size;clear hb5 ay aj;go_wp2;clear y0 y1 yf;go_loopw [7,22] (fun v i wr=>Hid (∃k:Nat,i=.int .i64 (k:Int)∧k≤n∧CkI w f.heap.size (p,q) ops k v wr)) (fun _ i _=>n-(intOf i).toNat)
 case atStart=>exact⟨0,rfl,Zk _,bm▸bc.out⟩
 obtain⟨k,rfl,hk,hi⟩:=hrel.out;clear hrel;have L:=hid hi;clear hi;have bn:f.heap.size<wr.heap.size:=Zb L.out.1;have bp:=L.out.2.2.size;by_cases I:k<n
 ·obtain⟨bo,oo,rfl,bs,ak⟩:=(HR.out.below J8 L.out.2.2).at (i:=k) (by rw[HN.out];exact I);have E:=hid (show Xi (p,q) ops (k+1)=nxt (Xi (p,q) ops k) (ops[k]'(by rw[HN.out];exact I)) from by rw[Xi,Zf,Ze (by rw[HN.out];exact I)];rfl);obtain⟨⟨ok,on,od⟩,aw⟩:∃o,ops[k]'(by rw[HN.out];exact I)=o:=⟨_,rfl⟩;rw[aw] at ak E;obtain⟨h0,h1,h2⟩:=ak;simp only at h0 h1 h2;have Y:=xW (p,q) ops k;have O:=hid L.out.1;have bf:=hid L.out.2.1;have HBW:=hid L.out.2.2;obtain⟨⟨cp,cq⟩,al⟩:=ez (Xi (p,q) ops k);rw[al] at O E;obtain⟨⟨dp,dq⟩,T⟩:=ez (Xi (p,q) ops (k+1));rw[T] at Y E;have bj:=hid Y;clear Y;have HA:=hid (fun W=>(clock.VY cp cq ok on od W).mono (fun e w' h=>(show(e=.returned (.tuple #[.agg #[.int .i64 dp,.int .i64 dq],.int .i64 (clock.YB cp cq ok on od).2.2])∧Below W.heap.size W w') from ⟨by
   rw[h.1];have e1:=E.out;unfold nxt at e1;injection e1 with e1 e2
   unfold clock.yz clock.Km;rw[←e1,←e2],h.2⟩)))
  have ba:=hid T;obtain⟨er,am⟩:=ez ((clock.YB cp cq ok on od).2.2);rw[am] at HA;have i1:(k:Int)<(n:Int):=oq;have i0:(0:Int)≤(k:Int):=oq;have bw:IntKind.i64.wrap ((k:Int)+1)=((k+1:Nat):Int):=ZK _ oq;clear aw al T am;obtain⟨⟨z0,z1⟩,zf⟩:=YD O.out;go_upto_region 6 with fail
  obtain⟨W6,H⟩:=ez (wr.alloc (.cells #[.int .i64 ok,.int .i64 on,.int .i64 od] 156));have hb6:Below wr.heap.size wr W6:=by rw[←H];exact bq
  have az:W6.heap[wr.heap.size]?=some (.cells #[.int .i64 ok,.int .i64 on,.int .i64 od] 156 (0,0)):=by rw[←H];exact Yw _ _
  rw[H];clear H h0 h1 h2 z0 z1 zf;have HB6:=hid hb6;have y:=hid ((hb6.block _ bn).trans O.out);obtain⟨⟨z0,z1⟩,zf⟩:=YD y.out;obtain⟨⟨o0,o1,o2⟩,of⟩:=Zdr az;clear az hb6;go_upto_region 7 with (go_at_call 77;refine(HA.out _).mono ?_;rintro e w7 ⟨rfl,R⟩;have HB7:=hid R;have q7:=(R.block _ (Zb y.out)).trans y.out;have bi:=hid q7;obtain⟨⟨r0,r1⟩,rf⟩:=YD q7;clear R q7 z0 z1 zf o0 o1 o2 of)
  obtain⟨Z,m⟩:=ez ((w7.setCell ⟨f.heap.size,0,none⟩ (.int .i64 dp)).setCell ⟨f.heap.size,1,none⟩ (.int .i64 dq));have g:=HB6.out.trans (HB7.out.mono HB6.out.size);have X:Z.heap[f.heap.size]?=some (.cells #[.int .i64 dp,.int .i64 dq] 62 (0,0)):=by rw[←m];exact(XS (XS bi.out).1).2
  have av:Z.ownsRow (f.heap.size+1) 62 2 u7 (k+1) (ckC (ckQ (p,q) ops k)):=by rw[←m];exact Xg (Xg (own_below bf.out g) oq _) oq _
  have bu:w7.heap.size≤Z.heap.size:=by rw[←m];simp
  have ai:Below w.heap.size w Z:=by rw[←m];exact((HBW.out.trans (g.mono HBW.out.size)).setCell (by show w.heap.size≤f.heap.size;omega) _).setCell (by show w.heap.size≤f.heap.size;omega) _
  have bt:=g.size;rw[m];clear m r0 r1 rf;have ae:=hid X;have ac:=hid av;have aa:=hid ai;obtain⟨⟨r0,r1⟩,rf⟩:=YD X;obtain⟨i0,ao,ap,aq,ar⟩:=info_parts UX;have D:=hid (Zh ao (Zh ap (Zh aq ar)));clear X av ai g ao ap aq ar;go_upto_region 8 with (refine wpList_append_own _ (by rfl) (.tmp 32) (.tmp 34) 30 (by rfl) (f.heap.size+1) 62 i0 _ 2 16 underlying30 D.out.1 D.out.2.1 D.out.2.2.1 D.out.2.2.2 rfl oq u7 (k+1) (ckC (ckQ (p,q) ops k)) (by rfl) (own_below ac.out bq) ⟨Z.heap.size,0,none⟩ 1 1 [.int .i64 dp,.int .i64 dq] (by rfl) (by rfl) (World.news_of_block (Zz _ _)) (by simp[Value.oneCell']) (by unfold maxLen;omega) oq (by simp;omega) ?_;intro v9 w9 C an bl;have be:=hid C;have bb:=hid an;clear C an bl)
  clear r0 r1 rf;have U:=X3 ac.out;have ab:=hid ((But.of_below ((Zg _ Z).alloc (Zc _) (.cells #[.int .i64 dp,.int .i64 dq] 62))).then (But.of_grown bb.out) (fun _ _ e=>e));have ag:Below w.heap.size w w9:=aa.out.trans (ab.out.below aa.out.size (fun j e=>by have:=U j e;omega));have ah:=(ab.out.block _ (Zb ae.out) (fun e=>by have:=U _ e;omega)).trans ae.out;have bd:=hid (show CkI w f.heap.size (p,q) ops (k+1) v9 w9 from ⟨by rw[ba.out];exact ah,by rw[bj.out,V2];exact be.out,ag⟩);clear ag ah U;go_wp2;go_roundw
  case rel=>exact⟨k+1,by go_num,oq,bd.out⟩
  simp[intOf];omega
 obtain rfl:k=n:=oq;go_wp2;go_ret;exact⟨⟨_,rfl,Xd L.out.2.1 oq⟩,L.out.2.2⟩
def Zf1{α:Type}(F:Fence)(n:Nat)(P:Program)(g:Nat)(lb:Array Value)(encs:α→Array Value)(R:World→Prop)(Ok:List α→α→World→Prop)(Kp:World→World→Prop)(S Sp:List α→Prop)(w:World):Prop :=
 ∀(l:Nat)(J Jx:List α→World→Prop)(W:World),Below w.heap.size w W→OwnFrom W.heap.size J→OwnFrom W.heap.size Jx→(∀pre W1,J pre W1→R W1) →
  (∀pre x W1,J pre W1→Ok pre x W1→YieldAt F (n-1) P l (encs x) W1 fun e W'=>(e=.returned (.bool true)∧J (pre++[x]) W'∧Kp W1 W')∨(e=.returned (.bool false)∧Jx (pre++[x]) W')) →
  J [] W→CallsIn F n P g (#[.func (.yield l) #[] #[]]++lb) W fun e W'=>(∃v,e=.returned v)∧((∃xs,S xs∧J xs W')∨(∃pre,Sp pre∧Jx pre W'))
theorem Zfq{α:Type}{F:Fence}{n:Nat}{P:Program}{g:Operand}{ps:Array Tmp}{assign body:Code}{Q:Exit→Act→World→Prop}{a:Act}{w:World}(ar:F.round=none)(h1:1≤n){gf:Nat}{lb:Array Value}
  (hg:a.eval g=.func (.func gf) #[] lb)(ai:F.fn gf)(eg:∀args w,(callFunc gf args).run P w=.ok (.enter gf args) w){encs:α→Array Value}{R:World→Prop}{Ok:List α→α→World→Prop}{Kp:World→World→Prop}{S Sp:List α→Prop}
  (ag:Zf1 F (n-1) P gf lb encs R Ok Kp S Sp w)(M:∀{A B C:World},Kp A B→Kp B C→Kp A C)(aa:∀(W:World)(l:Nat)(o o':Obj),w.heap.size≤l→W.heap[l]?=some o→o.isCells=false→Kp W (W.putObj l o'))(al:∀W W':World,Below W.heap.size W W'→Kp W W')(aq:∀x,(encs x).size=ps.size)
  (I Ix:List α→World→Prop)(hI:OwnFrom w.heap.size I)(L:OwnFrom w.heap.size Ix)(aj:∀pre W,I pre W→R W)(h0:I [] w)
  (Ax:List α→α→Act→World→Prop)(ah:∀pre x G,OwnFrom w.heap.size (fun(_:Unit) W=>Ax pre x G W))
  (y:∀(l:Nat)(pre:List α)(x:α)(W:World)(K:Act→World→Prop),I pre W→Ok pre x W→(∀G W',Below W.heap.size W W'→I pre W'→Ax pre x G W'→K G W') →
   assign.wpIn (F.inRound l) (n-1-1) P (Exit.then K (fun _ _ _=>False)) { tmps:=(ps.zip (encs x)).foldl (fun t (p,v)=>t.setIfInBounds p v) a.tmps,defers:=[] } W)
  (O:∀(l:Nat)(pre:List α)(x:α)(G:Act)(W:World),w.heap.size≤l→(∃r,W.heap[l]?=some (.loop r))→I pre W→Ax pre x G W →
   body.wpIn (F.inRound l) (n-1-1) P (ownPostG w.heap.size Kp I (fun c xs W=>c=.ret∧Ix xs W) (pre++[x]) W) G W)
  (U:∀(D:Nat)(xs:List α)(W:World),w.heap.size≤D→S xs→I xs W→W.heap[D]?=some (.deferred (some []))→Q .normal { a with defers:=mkD D::a.defers } W)
  (Z:∀(D:Nat)(pre:List α)(W:World),w.heap.size≤D→Sp pre→Ix pre W→W.heap[D]?=some (.deferred (some []))→Code.ret.wpIn F n P Q { a with defers:=mkD D::a.defers } W) :
  (Code.rangeFunc g ps assign body).wpIn F n P Q a w:=by
 refine wpIn_rangeFunc (fun fn hfn=>?_);rw[ar];let R:LoopState→Option Code→Loop:=fun st pe=>{ state:=st,pending:=pe,fn,tmps:=a.tmps,params:=ps,assign,body,defers:=w.heap.size }
 let W1:World:=(w.alloc (.deferred (some []))).alloc (.loop (R .ready none));have av:W1.heap.size=w.heap.size+2:=by simp[W1]
 have hb1:Below w.heap.size w W1:=((Zg _ w).alloc (Zc _) _).alloc (by simp) _;have hL:W1.heap[w.heap.size+1]?=some (.loop (R .ready none)):=by
  have:=World.alloc_heap_new (w.alloc (.deferred (some []))) (.loop (R .ready none))
  rwa [Zu] at this
 have hD:W1.heap[w.heap.size]?=some (.deferred (some [])):=(Za _ _ _ (by simp)).trans (World.alloc_heap_new w _);refine⟨w.heap.size+1,[mkD w.heap.size],W1,{ target:=.fn (.func gf) lb,args:=#[.func (.yield (w.heap.size+1)) #[] #[]] },W1,gf,#[.func (.yield (w.heap.size+1)) #[] #[]]++lb,W1,run_enterLoop_outer _ _ _ _ _,?_,?_,?_,fun _=>h1,?_⟩
 ·simp only[resolve,hg];simp[go_sem]
 ·intro f' ac;simp[Target.leads] at ac;subst ac;exact ai
 ·simp[invoke,go_sem,eg]
 have m:∀{A B:World}{row:Option Nat}{k:Nat}{o:Obj},A.grownBy B row→(∀r,row=some r→W1.heap.size≤r∧∃o:Obj,A.heap[r]?=some o∧o.isCells=false)→k<W1.heap.size→A.heap[k]?=some o→B.heap[k]?=some o:=by
  intro A B row k o f q X ho;refine(f.block k (Zq.1 ho).1 (fun e=>?_)).trans ho;have:=(q k e.symm).1;omega
 have J:∀{A:World}{row:Option Nat},(∀r,row=some r→W1.heap.size≤r∧∃o:Obj,A.heap[r]?=some o∧o.isCells=false)→(∀r,row=some r→w.heap.size≤r∧∃o:Obj,A.heap[r]?=some o∧o.isCells=false) :=
  fun q r e=>⟨by have:=(q r e).1;omega,(q r e).2⟩
 refine(ag (w.heap.size+1) (fun pre W=>(I pre W∧W.heap[w.heap.size+1]?=some (.loop (R .ready none)))∧W.heap[w.heap.size]?=some (.deferred (some [])))
  (fun pre W=>(Ix pre W∧W.heap[w.heap.size+1]?=some (.loop (R .done (some .ret))))∧W.heap[w.heap.size]?=some (.deferred (some []))) W1 hb1
  (fun s A B row hs f q=>⟨⟨hI s A B row hs.1.1 f (J q),m f q oq hs.1.2⟩,m f q oq hs.2⟩)
  (fun s A B row hs f q=>⟨⟨L s A B row hs.1.1 f (J q),m f q oq hs.1.2⟩,m f q oq hs.2⟩)
  (fun pre W1 h=>aj pre W1 h.1.1) ?_ ⟨⟨hI.alloc _ (hI.alloc _ h0),hL⟩,hD⟩).mono ?_
 ·rintro pre x W ⟨⟨hi,H⟩,X⟩ ap;refine⟨fn,_,assign,body,run_yield (P:=P) (args:=encs x) H (aq x),roundIn_of_wpIn hfn (y _ pre x W _ hi ap (fun G Wa hba hia hax=>?_))⟩;have E:=(hba.block _ (Zq.1 H).1).trans H;have an:=(hba.block _ (Zq.1 X).1).trans X;have ao:w.heap.size+1<Wa.heap.size:=(Zq.1 E).1;have au:w.heap.size+1<W.heap.size:=(Zq.1 H).1;refine⟨_,run_beginRound E rfl,?_⟩;have Y:(Wa.putObj (w.heap.size+1) (.loop { R .ready none with state:=.busy })).heap[w.heap.size+1]?=some (.loop { R .ready none with state:=.busy }):=World.putObj_heap_same ao;have ae:(Wa.putObj (w.heap.size+1) (.loop { R .ready none with state:=.busy })).heap[w.heap.size]?=some (.deferred (some [])):=(World.putObj_heap_other oq).trans an;have ak:Kp W Wa:=al _ _ hba;have ab:Kp W (Wa.putObj (w.heap.size+1) (.loop { R .ready none with state:=.busy })):=M ak (aa _ _ _ _ oq E rfl);refine wpIn_mono (O _ pre x G _ oq ⟨_,Y⟩ (hI.putObj _ hia oq E rfl) ((ah pre x G).putObj (s:=()) _ hax oq E rfl)) ?_;rintro e a3 W3 hp
  cases e with
  | normal =>
   obtain⟨z,af,V⟩:=hp;have j:=z.same _ _ oq Y rfl;have T:=z.same _ _ (Zc _) ae rfl;exact⟨_,_,run_endRound (P:=P) none j,.inl ⟨rfl,⟨⟨hI.putObj _ V oq j rfl,World.putObj_heap_same (Zq.1 j).1⟩,(World.putObj_heap_other oq).trans T⟩,M (M ab af) (aa _ _ _ _ oq j rfl)⟩⟩
  | ret =>
   obtain⟨z,_,V⟩:=hp;have j:=z.same _ _ oq Y rfl;have T:=z.same _ _ (Zc _) ae rfl;exact⟨_,_,run_endRound (P:=P) (some .ret) j,.inr ⟨rfl,⟨L.putObj _ V oq j rfl,World.putObj_heap_same (Zq.1 j).1⟩,(World.putObj_heap_other oq).trans T⟩⟩
  | exit id=>obtain⟨_,h,_⟩:=hp;cases h
  | goto t=>obtain⟨_,h,_⟩:=hp;cases h
  | panic ch=>exact hp.elim
  | outgrown=>exact hp.elim
 rintro e W2 ⟨⟨v,rfl⟩,(⟨xs,hS,⟨hi,H⟩,X⟩|⟨pre,am,⟨hi,H⟩,X⟩)⟩
 ·exact⟨none,_,run_endLoop (P:=P) H (by simp[R]),U _ xs _ (Zc _) hS (hI.putObj _ hi oq H rfl) ((World.putObj_heap_other oq).trans X)⟩
 exact⟨some .ret,_,run_endLoop (P:=P) H (by simp[R]),Z _ pre _ (Zc _) am (L.putObj _ hi oq H rfl) ((World.putObj_heap_other oq).trans X)⟩
attribute [local go_sem] ZT
abbrev RdX:=AD × Int × Option Addr × Nat
def rdP(x:RdX):AD × Int:=(x.1,x.2.1)
def rdT(l:List TD):List (AD × Int):=l.flatMap (fun t=>t.args.map (fun a=>(a,0)))
def YV(f:FD):List (AD × Int):=rdT f.tasks++f.tells.map (fun t=>(t.arg,t.dl))
def rdE(x:RdX):Array Value:=#[.agg #[.int .i64 x.1.src,.slice x.2.2.1 x.1.ops.length x.2.2.2],.int .i64 x.2.1]
def Zfs(wS:World)(f:FD)(pre:List RdX)(x:RdX)(_:World):Prop:=(∃r,pre.map rdP++rdP x::r=YV f)∧Row OpR 3 wS x.1.ops x.2.2.1
def Zgm(f:FD)(pre:List RdX):Prop:=∃r,pre.map rdP++r=YV f
theorem ES{l:List TD}{i:Nat}(h:i<l.length):rdT (l.take (i+1))=rdT (l.take i)++l[i].args.map (fun a=>(a,0)):=by
 unfold rdT;rw[Zv h,List.flatMap_append];simp
theorem gB{f:FD}{i k:Nat}(h:i<f.tasks.length)(m:k<f.tasks[i].args.length):∃r,(rdT (f.tasks.take i)++(f.tasks[i].args.take k).map (fun a=>(a,(0:Int))))++(f.tasks[i].args[k],0)::r=YV f:=by
 refine⟨(f.tasks[i].args.drop (k+1)).map (fun a=>(a,0))++rdT (f.tasks.drop (i+1))++f.tells.map (fun t=>(t.arg,t.dl)),?_⟩;have g:rdT f.tasks=rdT (f.tasks.take i)++f.tasks[i].args.map (fun a=>(a,0))++rdT (f.tasks.drop (i+1)):=by
  rw[←ES h];unfold rdT;rw[←List.flatMap_append,List.take_append_drop]
 have j:f.tasks[i].args.map (fun a=>(a,(0:Int)))=(f.tasks[i].args.take k).map (fun a=>(a,0))++(f.tasks[i].args[k],0)::(f.tasks[i].args.drop (k+1)).map (fun a=>(a,0)):=by
  have e:f.tasks[i].args=f.tasks[i].args.take k++f.tasks[i].args[k]::f.tasks[i].args.drop (k+1):=by rw[←ZN m,List.take_append_drop]
  exact(Z3 (List.map (fun a=>(a,(0:Int)))) e).trans (by rw[ZU,List.map_cons])
 unfold YV;rw[g,j];simp[List.append_assoc]
theorem jD{f:FD}{k:Nat}(j:k<f.tells.length):∃r,(rdT f.tasks++(f.tells.take k).map (fun t=>(t.arg,t.dl)))++(f.tells[k].arg,f.tells[k].dl)::r=YV f:=by
 refine⟨(f.tells.drop (k+1)).map (fun t=>(t.arg,t.dl)),?_⟩;have e:f.tells=f.tells.take k++f.tells[k]::f.tells.drop (k+1):=by rw[←ZN j,List.take_append_drop]
 have g:f.tells.map (fun t=>(t.arg,t.dl))=(f.tells.take k).map (fun t=>(t.arg,t.dl))++(f.tells[k].arg,f.tells[k].dl)::(f.tells.drop (k+1)).map (fun t=>(t.arg,t.dl)):=(Z3 (List.map (fun t:LD=>(t.arg,t.dl))) e).trans (by rw[ZU,List.map_cons]);unfold YV;rw[g,List.append_assoc]
def FlB(W:World)(b:Nat)(f:FD)(ai an aT al:Option Addr)(ci cn ct cl:Nat):Prop:=W.heap[b]?=some (.cells #[.slice ai f.ins.length ci,.slice an f.nods.length cn,.slice aT f.tasks.length ct,.slice al f.tells.length cl] 34 (0,0))
def RdR(wS:World)(f:FD)(ai an aT al:Option Addr)(ci cn ct cl b:Nat)(W:World):Prop:=Below wS.heap.size wS W∧FlB W b f ai an aT al ci cn ct cl
theorem gN{w:World}{f:FD}{g:Option Addr}(h:Row gS 4 w f.tasks g){i:Nat}(hi:i<f.tasks.length):∃b o ad cap,g=some ⟨b,o,none⟩∧b<w.heap.size∧w.cell? ⟨b,o+i*4,none⟩=some (.int .i64 f.tasks[i].node)∧w.cell? ⟨b,o+i*4+1,none⟩=some (.int .i64 f.tasks[i].per)∧w.cell? ⟨b,o+i*4+2,none⟩=some (.int .i64 f.tasks[i].ph)∧w.cell? ⟨b,o+i*4+3,none⟩=some (.slice ad f.tasks[i].args.length cap)∧Row xG 2 w f.tasks[i].args ad:=by
 obtain⟨b,o,e,hb,j,m,q,ad,cap,v,x⟩:=h.at hi;exact⟨b,o,ad,cap,e,hb,j,m,q,v,x⟩
theorem Zft{wS:World}(f:FD)(ai an aT al:Option Addr)(ci cn ct cl b n l:Nat)(J Jx:List RdX→World→Prop)(W:World)(hJ:OwnFrom W.heap.size J)(hf:FAP wS f ai an aT al)(ap:∀pre W1,J pre W1→RdR wS f ai an aT al ci cn ct cl b W1)
  (hY:∀m pre (x:RdX) W1,J pre W1→Zfs wS f pre x W1→YieldAt Fence.wide m prog l (rdE x) W1 fun e W'=>(e=.returned (.bool true)∧J (pre++[x]) W'∧True)∨(e=.returned (.bool false)∧Jx (pre++[x]) W'))
  (h0:J [] W) :
  CallsIn Fence.wide n prog 75 #[.func (.yield l) #[] #[],.pointer (some ⟨b,0,none⟩)] W fun e W'=>(∃v,e=.returned v)∧((∃xs,xs.map rdP=YV f∧J xs W')∨(∃pre,Zgm f pre∧Jx pre W')):=by
 have HY:=hid hY;have az:=hid h0;have HJ:=hid hJ;have HR:=hid ap;obtain⟨⟨x0,x1,x2,x3⟩,xf⟩:=Yx (ap _ _ h0).2;obtain⟨T,hT⟩:=ez f.tasks.length;obtain⟨L,hL⟩:=ez f.tells.length;have G:=hf.lens;have ay:=hid hf.args;have be:=hid hf.tasks;have bc:=hid hf.tells;rw[hT] at x2 G;rw[hL] at x3 G;have HT:=hid hT;have HL:=hid hL;obtain⟨_,_,bl,bk⟩:=G;clear hY h0 hJ ap hT hL hf;refine callsIn_of_wp func75 rfl trivial ?_ rfl;simp only[ntmps75,ZI,Zp,Zw,Nat.reduceAdd,Nat.reduceSub,ZF,ZE,ZL,ZJ,ZM,ZC];gi_wp2;clear x0 x1 x2 x3 xf;gi_loopw [12] (fun v wr=>Hid (∃(i:Nat)(pre:List RdX),v=.int .i64 (i:Int)∧i≤T∧pre.map rdP=rdT (f.tasks.take i)∧J pre wr)) (fun v _=>T-(intOf v).toNat)
 case atStart=>exact⟨0,[],rfl,Zk _,rfl,az.out⟩
 obtain⟨i,pre,rfl,hi,ae,X⟩:=hrel.out;clear hrel;have aq:=hid X;have ac:=hid ae;have O:=HR.out _ _ X;clear X ae;by_cases Y:i<T
 ·obtain⟨bb,oo,ad,cap,bg,av,y0,y1,y2,y3,af⟩:=gN be.out (i:=i) (by rw[HT.out];exact Y);have ag:=hid af;rw[←O.1.cell (p:=⟨bb,_,none⟩) av] at y0 y1 y2 y3;have bj:=Zd av O.1.size;have I:=hid (ay.out _ (Zi (show i<f.tasks.length by rw[HT.out];exact Y)));have aj:=hid (fun k hk=>gB (f:=f) (i:=i) (k:=k) (by rw[HT.out];exact Y) hk);have am:=hid (ES (l:=f.tasks) (i:=i) (by rw[HT.out];exact Y));obtain⟨td,aa⟩:∃td,f.tasks[i]'(by rw[HT.out];exact Y)=td:=⟨_,rfl⟩;rw[aa] at y0 y1 y2 y3 I aj am ag;obtain⟨node,aw,ph,args⟩:=td;simp only at y0 y1 y2 y3 I aj am ag;obtain⟨A,hA⟩:=ez args.length;have HA:=hid hA;have bh:=I.out.1;rw[hA] at y3 bh;have i1:(i:Int)<(T:Int):=oq;have i0:(0:Int)≤(i:Int):=oq;have bm:IntKind.i64.wrap ((i:Int)+1)=((i+1:Nat):Int):=ZK _ oq;clear O af aa hA;obtain⟨w0,rfl⟩:=ey wr;rw[bg];gi_wp2;clear y0 y1 y2 y3;gi_loopw [19] (fun v wq=>Hid (∃(k:Nat)(H:List RdX),v=.int .i64 (k:Int)∧k≤A∧H.map rdP=rdT (f.tasks.take i)++(args.take k).map (fun a=>(a,(0:Int)))∧J H wq)) (fun v _=>A-(intOf v).toNat)
  case atStart=>exact⟨0,pre,rfl,Zk _,by rw[ac.out];simp,Qc HJ.out aq.out bq⟩
  obtain⟨k,H,rfl,hk,Z,X⟩:=hrel.out;clear hrel;have z:=hid X;have F:=hid Z;have O:=HR.out _ _ X;clear X Z;by_cases j:k<A
  ·obtain⟨ba,oa,e2,V,z0,y,g,z1,C⟩:=ag.out.at (i:=k) (by rw[HA.out];exact j);subst e2;rw[←O.1.cell (p:=⟨ba,_,none⟩) V] at z0 z1;have au:=Zd V O.1.size;have M:=hid C;obtain⟨r,R⟩:=aj.out k (by rw[HA.out];exact j);have D:(args.take (k+1)).map (fun a=>(a,(0:Int)))=(args.take k).map (fun a=>(a,(0:Int)))++[(args[k]'(by rw[HA.out];exact j),0)]:=by rw[Zv (by rw[HA.out];exact j),ZU];rfl
   have ar:=I.out.2 _ (Zi (show k<args.length by rw[HA.out];exact j));obtain⟨a,ha⟩:∃a,args[k]'(by rw[HA.out];exact j)=a:=⟨_,rfl⟩;rw[ha] at z0 z1 M R D ar;rw[←F.out] at R;obtain⟨fn,ax,assign,body,hy,U⟩:=HY.out (n-1) H (a,0,y,g) (wr.alloc (.cells #[.int .i64 a.src,.slice y a.ops.length g] 69)) (Qc HJ.out z.out bq) ⟨⟨r,R⟩,M.out⟩;simp only[rdE] at hy;have ah:=hid U;have ao:=hid D;have j1:(k:Int)<(A:Int):=oq;have j0:(0:Int)≤(k:Int):=oq;have bi:IntKind.i64.wrap ((k:Int)+1)=((k+1:Nat):Int):=ZK _ oq;have ak:=hid R;clear U D R O C ha;gi_wp2;refine⟨(fun h=>by cases h),ah.out.mono ?_⟩;rintro e W1 (⟨rfl,q,_⟩|⟨rfl,q⟩)
   ·have E:=hid q;clear q hy;gi_wp2;go_roundw
    case rel=>exact⟨k+1,H++[(a,0,y,g)],by go_num,oq,by rw[ZU,F.out,ao.out,List.append_assoc];rfl,E.out⟩
    simp[intOf];omega
   have E:=hid q;clear q hy;gi_wp2;exact Zl (v:=.tuple #[]) (by simp only[results,results75];go_simp) rfl ⟨⟨_,rfl⟩,.inr ⟨H++[(a,0,y,g)],⟨r,by rw[ZU,List.append_assoc];exact ak.out⟩,E.out⟩⟩
  obtain rfl:k=A:=oq;gi_wp2;go_roundw
  case rel=>exact⟨i+1,H,by go_num,oq,by rw[am.out,F.out,←HA.out,ZS],z.out⟩
  simp[intOf];omega
 obtain rfl:i=T:=oq;obtain⟨⟨x0,x1,x2,x3⟩,xf⟩:=Yx O.2;rw[HL.out] at x3;have bd:=hid (show pre.map rdP=rdT f.tasks by rw[ac.out,←HT.out,ZS]);clear O;obtain⟨w0,rfl⟩:=ey wr;gi_wp2;clear x0 x1 x2 x3 xf;gi_loopw [32] (fun v wq=>Hid (∃(k:Nat)(H:List RdX),v=.int .i64 (k:Int)∧k≤L∧H.map rdP=rdT f.tasks++(f.tells.take k).map (fun t=>(t.arg,t.dl))∧J H wq)) (fun v _=>L-(intOf v).toNat)
 case atStart=>exact⟨0,pre,rfl,Zk _,by rw[bd.out];simp,aq.out⟩
 obtain⟨k,H,rfl,hk,Z,X⟩:=hrel.out;clear hrel;have z:=hid X;have F:=hid Z;have O:=HR.out _ _ X;clear X Z;by_cases j:k<L
 ·obtain⟨ba,oa,bf,V,z0,z1,z2,z4,y,g,z3,C⟩:=bc.out.at (i:=k) (by rw[HL.out];exact j);rw[←O.1.cell (p:=⟨ba,_,none⟩) V] at z0 z1 z2 z3 z4;have au:=Zd V O.1.size;have M:=hid C;obtain⟨r,R⟩:=jD (f:=f) (k:=k) (by rw[HL.out];exact j);have D:(f.tells.take (k+1)).map (fun t=>(t.arg,t.dl))=(f.tells.take k).map (fun t=>(t.arg,t.dl))++[((f.tells[k]'(by rw[HL.out];exact j)).arg,(f.tells[k]'(by rw[HL.out];exact j)).dl)]:=by rw[Zv (by rw[HL.out];exact j),ZU];rfl
  obtain⟨td,aa⟩:∃td,f.tells[k]'(by rw[HL.out];exact j)=td:=⟨_,rfl⟩;rw[aa] at z0 z1 z2 z3 z4 M R D;rw[←F.out] at R;obtain⟨aw,ph,⟨src,ab⟩,dl⟩:=td;simp only at z0 z1 z2 z3 z4 M R D;obtain⟨fn,ax,assign,body,hy,U⟩:=HY.out (n-1) H (⟨src,ab⟩,dl,y,g) (wr.alloc (.cells #[.int .i64 aw,.int .i64 ph,.int .i64 src,.slice y ab.length g,.int .i64 dl] 71)) (Qc HJ.out z.out bq) ⟨⟨r,R⟩,M.out⟩;simp only[rdE] at hy;have ah:=hid U;have ao:=hid D;have ak:=hid R;have j1:(k:Int)<(L:Int):=oq;have j0:(0:Int)≤(k:Int):=oq;have bi:IntKind.i64.wrap ((k:Int)+1)=((k+1:Nat):Int):=ZK _ oq;clear U D R O C aa;rw[bf];gi_wp2;refine⟨(fun h=>by cases h),ah.out.mono ?_⟩;rintro e W1 (⟨rfl,q,_⟩|⟨rfl,q⟩)
  ·have E:=hid q;clear q hy;gi_wp2;go_roundw
   case rel=>exact⟨k+1,H++[(⟨src,ab⟩,dl,y,g)],by go_num,oq,by rw[ZU,F.out,ao.out,List.append_assoc];rfl,E.out⟩
   simp[intOf];omega
  have E:=hid q;clear q hy;gi_wp2;exact Zl (v:=.tuple #[]) (by simp only[results,results75];go_simp) rfl ⟨⟨_,rfl⟩,.inr ⟨H++[(⟨src,ab⟩,dl,y,g)],⟨r,by rw[ZU,List.append_assoc];exact ak.out⟩,E.out⟩⟩
 obtain rfl:k=L:=oq;gi_wp2;go_end0;exact⟨⟨_,rfl⟩,.inl ⟨H,by rw[F.out,←HL.out,ZS];rfl,z.out⟩⟩
theorem Zcx{wS:World}(f:FD)(ai an aT al:Option Addr)(ci cn ct cl b n:Nat)(w:World)(hf:FAP wS f ai an aT al) :
  Zf1 Fence.wide n prog 75 #[.pointer (some ⟨b,0,none⟩)] rdE (RdR wS f ai an aT al ci cn ct cl b) (Zfs wS f) (fun _ _=>True) (fun xs=>xs.map rdP=YV f) (Zgm f) w:=fun l J Jx W hW hJ hJx hR hY h0 =>
 Zft f ai an aT al ci cn ct cl b n l J Jx W hJ hf hR (fun m pre x W1 hj ho=>YieldAt.deep rfl m (hY pre x W1 hj ho)) h0
def YN(f:FD)(x:AD × Int):List (Int × Int):=ckQ ((XR f x.1.src).getD (0,0)) x.1.ops x.1.ops.length
def stepW(f:FD)(s:Int × Int)(x:AD × Int):Option (Int × Int):=match clock.YL 1 (YN f x++[(s.2,0)]) with
 | none=>none
 | some h=>if 4000<max s.1 (YW (YN f x)+x.2) then none else some (max s.1 (YW (YN f x)+x.2),h)
def Jd(f:FD):List (AD × Int)→Int × Int→Option (Int × Int)
 | [],s=>some s
 | x::l,s=>(stepW f s x).bind (Jd f l)
theorem ze(f:FD):∀(l:List (AD × Int))(s:Int × Int)(m:List (AD × Int)),Jd f (l++m) s=(Jd f l s).bind (Jd f m)
 | [],s,m=>rfl
 | x::l,s,m=>by
  show(stepW f s x).bind (Jd f (l++m))=((stepW f s x).bind (Jd f l)).bind (Jd f m)
  cases stepW f s x with
  | none=>rfl
  | some t=>exact ze f l t m
theorem Zc3(f:FD)(x:AD × Int)(s:Int × Int):Jd f [x] s=stepW f s x:=by
 show(stepW f s x).bind (Jd f [])=_
 cases stepW f s x<;>rfl
def xB:Option (Int × Int)→Value
 | none=>.tuple #[.int .i64 0,.int .i64 0,.int .i64 8]
 | some s=>.tuple #[.int .i64 s.1,.int .i64 s.2,.int .i64 0]
structure RdG (f:FD):Prop where
 src:∀x∈YV f,∃c,XR f x.1.src=some c
 few:∀x∈YV f,x.1.ops.length≤20∧I64 x.1.src
 dl:∀x∈YV f,0≤x.2∧x.2≤1000
 clk:∀x∈YV f,∀i,i≤x.1.ops.length→1≤(Xi ((XR f x.1.src).getD (0,0)) x.1.ops i).1∧(Xi ((XR f x.1.src).getD (0,0)) x.1.ops i).1≤2000∧0≤(Xi ((XR f x.1.src).getD (0,0)) x.1.ops i).2∧(Xi ((XR f x.1.src).getD (0,0)) x.1.ops i).2≤2000
 ok:∀x∈YV f,∀i,i<x.1.ops.length→(clock.YB (Xi ((XR f x.1.src).getD (0,0)) x.1.ops i).1 (Xi ((XR f x.1.src).getD (0,0)) x.1.ops i).2 (x.1.ops.getD i (0,0,0)).1 (x.1.ops.getD i (0,0,0)).2.1 (x.1.ops.getD i (0,0,0)).2.2).2.2=0
theorem RdG.get{f:FD}(h:RdG f){x:AD × Int}(j:x∈YV f):∀k,k<(YN f x).length→1≤((YN f x).getD k (0,0)).1∧((YN f x).getD k (0,0)).1≤2000∧0≤((YN f x).getD k (0,0)).2∧((YN f x).getD k (0,0)).2≤2000:=by
 intro k g;unfold YN at *;rw[Jk] at g;rw[GB _ _ oq];exact h.clk x j k oq
theorem V9{f:FD}(h:RdG f){x:AD × Int}(g:x∈YV f):0≤YW (YN f x)∧YW (YN f x)≤100000:=by
 have q:(YN f x).length=x.1.ops.length+1:=Jk _ _ _;have m:=(h.few x g).1;have j:=xw (l:=YN f x) (fun k hk=>by have:=h.get g k hk;omega) oq ((YN f x).length-1) oq;unfold YW;omega
theorem Ey{h p:Int}(h1:1≤h)(p1:1≤p):1≤clock.JS h p:=arith.U6 (arith.xj (x:=p) h1) p1
theorem Ep:∀(l:List (Int × Int))(h k:Int),(∀c∈l,1≤c.1)→1≤h→h≤2000→clock.YL h l=some k→1≤k∧k≤2000
 | [],h,k,_,h1,h2,e=>by injection e with e;omega
 | c::l,h,k,hl,h1,h2,e=>by
  rw[clock.YL] at e;by_cases ho:2000<clock.JS h c.1
  ·rw[Z2 ho] at e;cases e
  rw[Z1 ho] at e;exact Ep l _ k (fun c hc=>hl c (List.mem_cons_of_mem _ hc)) (Ey h1 (hl c List.mem_cons_self)) oq e
theorem Vz{f:FD}(h:RdG f){x:AD × Int}(m:x∈YV f):∀c∈YN f x,1≤c.1∧c.1≤2000∧0≤c.2∧c.2≤2000:=by
 intro c j;obtain⟨k,g,e⟩:=Ym j;have:=h.get m k g;rw[Zf,Ze g] at this;simp only[Z9] at this;rw[e] at this;exact this
theorem jU{f:FD}(h:RdG f){x:AD × Int}(m:x∈YV f){s t:Int × Int}(j:0≤s.1∧s.1≤4000∧1≤s.2∧s.2≤2000)(e:stepW f s x=some t):0≤t.1∧t.1≤4000∧1≤t.2∧t.2≤2000:=by
 unfold stepW at e
 cases hh:clock.YL 1 (YN f x++[(s.2,0)]) with
 | none=>rw[hh] at e;cases e
 | some k =>
  rw[hh] at e;simp only at e;have hb:=Ep _ 1 k (fun c hc=>by
   rcases List.mem_append.1 hc with hc|hc
   ·exact(Vz h m c hc).1
   obtain rfl:=List.mem_singleton.1 hc;exact j.2.2.1) oq oq hh
  by_cases g:4000<max s.1 (YW (YN f x)+x.2)
  ·rw[Z2 g] at e;cases e
  rw[Z1 g] at e;injection e with e
  subst e;exact⟨by simp only;omega,by simp only;omega,hb.1,hb.2⟩
theorem gP{f:FD}(h:RdG f):∀(l:List (AD × Int))(s t:Int × Int),(∀x∈l,x∈YV f)→(0≤s.1∧s.1≤4000∧1≤s.2∧s.2≤2000)→Jd f l s=some t→0≤t.1∧t.1≤4000∧1≤t.2∧t.2≤2000
 | [],s,t,_,hs,e=>by injection e with e;subst e;exact hs
 | x::l,s,t,hl,hs,e=>by
  have e2:(stepW f s x).bind (Jd f l)=some t:=e
  cases hh:stepW f s x with
  | none=>rw[hh] at e2;cases e2
  | some u =>
   rw[hh] at e2;exact gP h l u t (fun y hy=>hl y (List.mem_cons_of_mem _ hy)) (jU h (hl x List.mem_cons_self) hs hh) e2
def WnI(f:FD)(ai an aT al:Option Addr)(ci cn ct cl n s:Nat)(w:World)(pre:List RdX)(W:World):Prop :=
 ∃sv hv:Int,Jd f (pre.map rdP) (0,1)=some (sv,hv)∧Boxed W s 2 (.int .i64 sv)∧Boxed W (s+1) 2 (.int .i64 hv)∧FlB W n f ai an aT al ci cn ct cl ∧
  Boxed W (n+1) 2 (.int .i64 0)∧Boxed W (n+1+1) 2 (.int .i64 0)∧Boxed W (n+1+1+1) 38 (.int .i64 0)∧Below w.heap.size w W
def WnX(f:FD)(n:Nat)(w:World)(pre:List RdX)(W:World):Prop :=
 Jd f (pre.map rdP) (0,1)=none∧Boxed W (n+1) 2 (.int .i64 0)∧Boxed W (n+1+1) 2 (.int .i64 0)∧Boxed W (n+1+1+1) 38 (.int .i64 8)∧Below w.heap.size w W
theorem Y5{A B:World}{row:Option Nat}{b:Nat}{cs:Array Value}{t:TypeId}{fr:Nat × Nat}(h:A.heap[b]?=some (.cells cs t fr))(hg:A.grownBy B row)(hr:∀r,row=some r→∃o:Obj,A.heap[r]?=some o∧o.isCells=false):B.heap[b]?=some (.cells cs t fr) :=
 (hg.block b (Zb h) (fun e=>by obtain⟨o,ho,hc⟩:=hr b e.symm;rw[h] at ho;injection ho with ho;subst ho;cases hc)).trans h
theorem WnI.below{f:FD}{j an g m:Option Addr}{q v x cl n s:Nat}{w W W':World}{pre:List RdX}(h:WnI f j an g m q v x cl n s w pre W)(hb:Below W.heap.size W W'):WnI f j an g m q v x cl n s w pre W':=by
 obtain⟨I,H,G,y,z,A,C,D,E,F⟩:=h;exact⟨I,H,G,(hb.block _ (Boxed.lt y)).trans y,(hb.block _ (Boxed.lt z)).trans z,(hb.block _ (Zb A)).trans A,(hb.block _ (Boxed.lt C)).trans C,(hb.block _ (Boxed.lt D)).trans D,(hb.block _ (Boxed.lt E)).trans E,F.trans (hb.mono F.size)⟩
theorem WnI.own{f:FD}{ai an aT al:Option Addr}{ci cn ct cl n s:Nat}{w:World}{base:Nat}(hb:w.heap.size≤base):OwnFrom base (WnI f ai an aT al ci cn ct cl n s w):=fun p A B row h hg hrw=>by
 obtain⟨sv,hv,h0,h1,h2,h3,h4,h5,h6,h7⟩:=h;have hc:=fun r e=>(hrw r e).2
 exact⟨sv,hv,h0,Y5 h1 hg hc,Y5 h2 hg hc,Y5 h3 hg hc,Y5 h4 hg hc,Y5 h5 hg hc,Y5 h6 hg hc,ownFrom_below (β:=Unit) (Zc _) hb () A B row h7 hg hrw⟩
theorem WnX.own{f:FD}{n:Nat}{w:World}{base:Nat}(hb:w.heap.size≤base):OwnFrom base (WnX f n w):=fun p A B row h hg hrw=>by
 obtain⟨h0,h4,h5,h6,h7⟩:=h;have hc:=fun r e=>(hrw r e).2
 exact⟨h0,Y5 h4 hg hc,Y5 h5 hg hc,Y5 h6 hg hc,ownFrom_below (β:=Unit) (Zc _) hb () A B row h7 hg hrw⟩
def Kv(l:List (Int × Int))(h:Int):Bool:=l.all (fun c=>decide (h%c.1=0))
structure ZaX (l:List (Int × Int)) (r:Int):Prop where
 bd:0≤r∧r≤2000
 yes:1≤r→Kv l r=true
 no:∀k:Int,1≤k→(1≤r→k<r)→(r=0→k≤2000)→Kv l k=false
theorem eP{l:List (Int × Int)}{h:Int}{i:Nat}(hi:i<l.length):Kv (l.take (i+1)) h=(Kv (l.take i) h&&decide (h%(l.getD i (0,0)).1=0)):=by
 unfold Kv;rw[Zv hi,List.all_append,Zf,Ze hi];simp
theorem xm{w:World}(l:List (Int × Int))(H:Option Addr)(cap:Nat)(O:l.length≤100000000)
  (f:∀k,k<l.length→∃g o,H=some ⟨g,o,none⟩∧w.cell? ⟨g,o+k*2,none⟩=some (.int .i64 (l.getD k (0,0)).1))
  (z:∀k,k<l.length→1≤(l.getD k (0,0)).1∧(l.getD k (0,0)).1≤2000) :
  Calls prog 12 #[.slice H l.length cap] w fun x w'=>(∃r,x=.returned (.int .i64 r)∧ZaX l r)∧w'=w:=by
 have J:=hid f;have E:=hid z;obtain⟨n,G⟩:=ez l.length;have D:=hid G;rw[G] at O ⊢;clear f z G;go_enter func12,ntmps12;go_wp2;go_loopw [3] (fun h wr=>Hid (wr=w∧∃k:Int,h=.int .i64 k∧1≤k∧k≤2001∧∀j:Int,1≤j→j<k→Kv l j=false)) (fun h _=>2001-(intOf h).toNat)
 case atStart=>exact⟨rfl,1,rfl,oq,oq,fun j h1 h2=>oq⟩
 obtain⟨rfl,k,rfl,F,M,A⟩:=hrel.out;clear hrel;have v:=hid A;clear A;obtain⟨Z,rfl⟩:=ey wr;by_cases R:k≤2000
 ·have U:IntKind.i64.wrap (k+1)=k+1:=ZK _ oq;go_wp2;go_loopw [4,5] (fun b i wr=>Hid (wr=Z∧∃j:Nat,i=.int .i64 (j:Int)∧j≤n∧b=.bool (Kv (l.take j) k))) (fun _ i _=>n-(intOf i).toNat)
  case atStart=>exact⟨rfl,0,rfl,Zk _,rfl⟩
  obtain⟨rfl,j,rfl,hj,rfl⟩:=hrel.out;clear hrel;obtain⟨w1,rfl⟩:=ey wr;by_cases y:j<n
  ·obtain⟨g,o,rfl,L⟩:=J.out j (by rw[D.out];exact y);have hb:=E.out j (by rw[D.out];exact y);have C:=hid (eP (l:=l) (h:=k) (i:=j) (by rw[D.out];exact y));obtain⟨p,I⟩:=ez ((l.getD j (0,0)).1);rw[I] at L hb C;obtain⟨d,hd⟩:=ez (Kv (l.take j) k);rw[hd] at C ⊢;have hm:k.tmod p=k%p:=Int.tmod_eq_emod_of_nonneg oq;have hz:(p == 0)=false:=by rw[ZY];omega
   have Y:¬p=0:=oq;have T:0≤k%p∧k%p<p:=⟨Int.emod_nonneg _ oq,Int.emod_lt_of_pos _ oq⟩;have V:IntKind.i64.wrap (k%p)=k%p:=ZK _ oq;have X:IntKind.i64.wrap ((j:Int)+1)=((j+1:Nat):Int):=ZK _ oq;have i1:(j:Int)<(n:Int):=oq;have i0:(0:Int)≤(j:Int):=oq;clear I hd
   cases d with
   | false =>
    go_wp2;go_roundw
    case rel=>exact⟨(by first|rfl|trivial),j+1,by go_num,oq,by rw[C.out];rfl⟩
    simp[intOf];omega
   | true =>
    go_wp2;go_roundw
    case rel=>exact⟨(by first|rfl|trivial),j+1,by go_num,oq,by rw[C.out,Bool.true_and];first|rfl|(congr 1;done)|(simp;done)|(congr 1;simp)⟩
    simp[intOf];omega
  obtain rfl:j=n:=oq;have q:=hid (show Kv (l.take j) k=Kv l k by rw[←D.out,ZS]);obtain⟨d,hd⟩:=ez (Kv (l.take j) k);rw[hd] at q ⊢;clear hd
  cases d with
  | false =>
   go_wp2;go_roundw
   case rel=>exact⟨(by first|rfl|trivial),k+1,by go_num,oq,oq,fun m h1 h2=>by
    by_cases e:m=k
    ·rw[e];exact q.out.symm
    exact v.out m h1 oq⟩
   simp[intOf];omega
  | true =>
   go_wp2;go_ret;exact⟨⟨k,rfl,⟨oq,fun _=>q.out.symm,fun m h1 h2 _=>v.out m h1 (h2 F)⟩⟩,rfl⟩
 obtain rfl:k=2001:=oq;go_wp2;go_ret;exact⟨⟨0,rfl,⟨oq,fun h=>oq,fun m h1 _ h3=>v.out m h1 (by have:=h3 rfl;omega)⟩⟩,rfl⟩
theorem ZbX{h p:Int}(f:1≤h)(g:1≤p):clock.JS h p=((Nat.lcm h.toNat p.toNat:Nat):Int):=by
 obtain⟨a,rfl⟩:∃a:Nat,h=(a:Int):=⟨h.toNat,oq⟩;obtain⟨b,rfl⟩:∃b:Nat,p=(b:Int):=⟨p.toNat,oq⟩;unfold clock.JS arith.Ql;simp only[ZQ];rw[←Int.natCast_ediv,←Int.natCast_mul];congr 1;unfold Nat.lcm;rw[Nat.div_mul_right_comm (Nat.gcd_dvd_left a b)]
theorem qD{h p m:Int}(f:1≤h)(g:1≤p)(j:1≤m):clock.JS h p ∣ m↔h ∣ m∧p ∣ m:=by
 rw[ZbX f g];obtain⟨a,rfl⟩:∃a:Nat,h=(a:Int):=⟨h.toNat,oq⟩;obtain⟨b,rfl⟩:∃b:Nat,p=(b:Int):=⟨p.toNat,oq⟩;obtain⟨k,rfl⟩:∃k:Nat,m=(k:Int):=⟨m.toNat,oq⟩;simp only[ZQ,Int.natCast_dvd_natCast];exact Nat.lcm_dvd_iff
theorem KG:∀(l:List (Int × Int))(h k m:Int),(∀c∈l,1≤c.1)→1≤h→1≤m→clock.YL h l=some k→(k ∣ m↔h ∣ m∧∀c∈l,c.1 ∣ m)
 | [],h,k,m,_,h1,m1,e=>by injection e with e;subst e;simp
 | c::l,h,k,m,hl,h1,m1,e=>by
  rw[clock.YL] at e;by_cases ho:2000<clock.JS h c.1
  ·rw[Z2 ho] at e;cases e
  rw[Z1 ho] at e;have hc:=hl c List.mem_cons_self;rw[KG l _ k m (fun c hc=>hl c (List.mem_cons_of_mem _ hc)) (Ey h1 hc) m1 e,qD h1 hc m1];simp only[ZR,forall_eq_or_imp,and_assoc]
theorem Er:∀(l:List (Int × Int))(h m:Int),(∀c∈l,1≤c.1)→1≤h→1≤m→clock.YL h l=none→h ∣ m→(∀c∈l,c.1 ∣ m)→2000<m
 | [],h,m,_,h1,m1,e,_,_=>by cases e
 | c::l,h,m,hl,h1,m1,e,hm,hd=>by
  rw[clock.YL] at e;have hc:=hl c List.mem_cons_self;have hlm:=(qD h1 hc m1).2 ⟨hm,hd c List.mem_cons_self⟩;by_cases ho:2000<clock.JS h c.1
  ·have:=Int.le_of_dvd oq hlm;omega
  rw[Z1 ho] at e;exact Er l _ m (fun c hc=>hl c (List.mem_cons_of_mem _ hc)) (Ey h1 hc) m1 e hlm (fun c hc=>hd c (List.mem_cons_of_mem _ hc))
def Qb(f:FD)(l:List (AD × Int))(s:Int):Int:=l.foldl (fun s x=>max s (YW (YN f x)+x.2)) s
theorem qC(f:FD):∀(l:List (AD × Int))(s:Int),s≤Qb f l s
 | [],s=>Int.le_refl _
 | x::l,s=>by
  have:=qC f l (max s (YW (YN f x)+x.2));show s≤Qb f l (max s (YW (YN f x)+x.2));omega
def XH(f:FD)(l:List (AD × Int)):List (Int × Int):=l.flatMap (YN f)
theorem Jw(f:FD)(x:AD × Int)(l:List (AD × Int)):XH f (x::l)=YN f x++XH f l:=by simp[XH]
theorem j9{f:FD}(hg:RdG f):∀(l:List (AD × Int))(s h s' h':Int),(∀x∈l,x∈YV f)→0≤s→s≤4000→1≤h→h≤2000→Jd f l (s,h)=some (s',h') →
  s'=Qb f l s∧s'≤4000∧1≤h'∧h'≤2000∧∀m,1≤m→(h' ∣ m↔h ∣ m∧∀c∈XH f l,c.1 ∣ m)
 | [],s,h,s',h',_,s0,s1,h1,h2,e=>by
  injection e with e
  injection e with e1 e2
  subst e1;subst e2;exact⟨rfl,s1,h1,h2,fun m _=>by simp[XH]⟩
 | x::l,s,h,s',h',hl,s0,s1,h1,h2,e=>by
  have e2:(stepW f (s,h) x).bind (Jd f l)=some (s',h'):=e;have hx:=hl x List.mem_cons_self
  cases hh:stepW f (s,h) x with
  | none=>rw[hh] at e2;cases e2
  | some t =>
   obtain⟨s2,k2⟩:=t;rw[hh] at e2;have hb:=jU hg hx ⟨s0,s1,h1,h2⟩ hh;simp only at hb;obtain⟨r1,r2,r3,r4,r5⟩:=j9 hg l s2 k2 s' h' (fun y hy=>hl y (List.mem_cons_of_mem _ hy)) hb.1 hb.2.1 hb.2.2.1 hb.2.2.2 e2;unfold stepW at hh
   cases hf:clock.YL 1 (YN f x++[(h,0)]) with
   | none=>simp only at hh;rw[hf] at hh;cases hh
   | some k =>
    simp only at hh;rw[hf] at hh;simp only at hh;by_cases ho:4000<max s (YW (YN f x)+x.2)
    ·rw[Z2 ho] at hh;cases hh
    rw[Z1 ho] at hh;injection hh with hh
    injection hh with e3 e4
    subst e3;subst e4;refine⟨r1,r2,r3,r4,fun m m1=>?_⟩;have hd:=KG _ 1 k m (fun c hc=>by
     rcases List.mem_append.1 hc with hc|hc
     ·exact(Vz hg hx c hc).1
     obtain rfl:=List.mem_singleton.1 hc;exact h1) oq m1 hf
    rw[r5 m m1,hd,Jw];constructor
    ·rintro⟨⟨_,h3⟩,h4⟩;refine⟨h3 (h,0) (List.mem_append_right _ (List.mem_singleton.2 rfl)),fun c hc=>?_⟩;rcases List.mem_append.1 hc with hc|hc
     ·exact h3 c (List.mem_append_left _ hc)
     exact h4 c hc
    rintro⟨h3,h4⟩;refine⟨⟨Int.one_dvd _,fun c hc=>?_⟩,fun c hc=>h4 c (List.mem_append_right _ hc)⟩;rcases List.mem_append.1 hc with hc|hc
    ·exact h4 c (List.mem_append_left _ hc)
    rw[List.mem_singleton.1 hc];exact h3
theorem Zc4{f:FD}(g:RdG f):∀(l:List (AD × Int))(s h:Int),(∀x∈l,x∈YV f)→0≤s→s≤4000→1≤h→h≤2000→Jd f l (s,h)=none →
  4000<Qb f l s∨∀m,1≤m→h ∣ m→(∀c∈XH f l,c.1 ∣ m)→2000<m
 | [],s,h,_,_,_,_,_,e=>by cases e
 | x::l,s,h,hl,s0,s1,h1,h2,e=>by
  have e2:(stepW f (s,h) x).bind (Jd f l)=none:=e;have hx:=hl x List.mem_cons_self;have hpos:∀c∈YN f x++[(h,0)],1≤c.1:=fun c hc=>by
   rcases List.mem_append.1 hc with hc|hc
   ·exact(Vz g hx c hc).1
   obtain rfl:=List.mem_singleton.1 hc;exact h1
  cases hf:clock.YL 1 (YN f x++[(h,0)]) with
  | none =>
   refine .inr (fun m m1 hm hc=>Er _ 1 m hpos oq m1 hf (Int.one_dvd _) (fun c h3=>?_));rw[Jw] at hc;rcases List.mem_append.1 h3 with h3|h3
   ·exact hc c (List.mem_append_left _ h3)
   rw[List.mem_singleton.1 h3];exact hm
  | some k =>
   have hk:=Ep _ 1 k hpos oq oq hf;have hsb:=V9 g hx;have hdl:=g.dl x hx;by_cases ho:4000<max s (YW (YN f x)+x.2)
   ·refine .inl ?_;have:=qC f l (max s (YW (YN f x)+x.2));show 4000<Qb f l (max s (YW (YN f x)+x.2));omega
   have hst:stepW f (s,h) x=some (max s (YW (YN f x)+x.2),k):=by
    unfold stepW;simp only;rw[hf];simp only;rw[Z1 ho]
   rw[hst] at e2;rcases Zc4 g l _ k (fun y hy=>hl y (List.mem_cons_of_mem _ hy)) oq oq hk.1 hk.2 e2 with h3|h3
   ·exact .inl h3
   refine .inr (fun m m1 hm hc=>h3 m m1 ((KG _ 1 k m hpos oq m1 hf).2 ⟨Int.one_dvd _,fun c h4=>?_⟩) (fun c h4=>hc c (by rw[Jw];exact List.mem_append_right _ h4)));rw[Jw] at hc;rcases List.mem_append.1 h4 with h4|h4
   ·exact hc c (List.mem_append_left _ h4)
   rw[List.mem_singleton.1 h4];exact hm
theorem UZ{l:List (Int × Int)}{m:Int}:Kv l m=true↔∀c∈l,c.1 ∣ m:=by
 unfold Kv;rw[List.all_eq_true];constructor
 ·intro h c f;have:=h c f;exact Int.dvd_of_emod_eq_zero (Yj this)
 intro h c f;exact Z0 (Int.emod_eq_zero_of_dvd (h c f))
theorem Zep{f:FD}(C:RdG f){r:Int}(g:ZaX (XH f (YV f)) r) :
  Jd f (YV f) (0,1)=if r=0∨4000<Qb f (YV f) 0 then none else some (Qb f (YV f) 0,r):=by
 cases hw:Jd f (YV f) (0,1) with
 | none =>
  rw[Z2];rcases Zc4 C (YV f) 0 1 (fun _ h=>h) oq oq oq oq hw with h|h
  ·exact .inr h
  left;by_cases m:r=0
  ·exact m
  have A:1≤r:=by have:=g.bd.1;omega
  have I:=h r A (Int.one_dvd _) (UZ.1 (g.yes A));have:=g.bd.2;omega
 | some t =>
  obtain⟨s,h⟩:=t;obtain⟨E,H,q,F,z⟩:=j9 C (YV f) 0 1 s h (fun _ h=>h) oq oq oq oq hw;have D:=((z h q).1 (Int.dvd_refl _)).2;have j:1≤r:=by
   by_cases m:1≤r
   ·exact m
   have J:r=0:=by have:=g.bd.1;omega
   have:=g.no h q (fun v=>absurd v m) (fun _=>F);rw[UZ.2 D] at this
   cases this
  have G:r≤h:=by
   by_cases v:r≤h
   ·exact v
   have:=g.no h q (fun _=>oq) (fun h5=>oq);rw[UZ.2 D] at this
   cases this
  have x:h ∣ r:=(z r j).2 ⟨Int.one_dvd _,UZ.1 (g.yes j)⟩;have:=Int.le_of_dvd oq x;have y:h=r:=oq;subst y;subst E;rw[Z1 oq]
end Go.Proofs.YtgigilkpndhddaaGreatDoor.syn
