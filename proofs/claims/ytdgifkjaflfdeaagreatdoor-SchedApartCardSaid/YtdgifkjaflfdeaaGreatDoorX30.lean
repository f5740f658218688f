/- Parts of the proof. -/
import Derived.Deep.DeepCutAuto
import Derived.Shelf.SlSortCmp.KitK
import Derived.Test.YtdgifkjaflfdeaaGreatDoorX03
set_option linter.all false
set_option maxRecDepth 100000
set_option maxHeartbeats 16000000
theorem Go.Aside.o {p : Prop} (h : Go.Aside p) : p := h
namespace Go.Proofs.YtdgifkjaflfdeaaGreatDoor.syn
open Tryz
open Go.Sort
section
variable {α:Type} [Inhabited α]
theorem gx(d:Array α){x y:Nat}(h:x=y):d[x]! = d[y]!:=by rw[h]
def swr(d:Array α)(a b:Nat):Nat->Array α
 | 0=>d
 | n+1=>swp (swr d a b n) (a+n) (b+n)
theorem Xk(d:Array α)(a b:Nat):∀n,(swr d a b n).size=d.size
 | 0=>rfl
 | n+1=>by rw[swr,swp_size,Xk d a b n]
theorem Kf{d:Array α}{a b lo hi:Nat}(h1:lo<=a)(h2:lo<=b)(hh:hi<=d.size):∀n,a+n<=hi->b+n<=hi->PermIn lo hi d (swr d a b n)
 | 0,_,_=>permIn_refl _ _ _
 | n+1,h3,h4=>permIn_trans _ _ _ _ _ (Kf h1 h2 hh n (by omega) (by omega)) (swp_permIn _ _ _ _ _ (by omega) (by omega) (by omega) (by omega) (by rw[Xk];exact hh))
theorem GT(d:Array α)(a b:Nat):∀n,(a+n<=b\/b+n<=a)->a+n<=d.size->b+n<=d.size->∀k,(swr d a b n)[k]! = if a<=k/\k<a+n then d[k-a+b]! else if b<=k/\k<b+n then d[k-b+a]! else d[k]!
 | 0,_,_,_,k=>by rw[if_neg (by omega),if_neg (by omega)];rfl
 | n+1,hd,ha,hb,k=>by
  have ih:=GT d a b n (by omega) (by omega) (by omega);rw[swr,swp_get _ (by rw[Xk];omega) (by rw[Xk];omega),ih (a+n),ih (b+n),ih k];rw[if_neg (show ¬(a<=a+n/\a+n<a+n) by omega),if_neg (show ¬(b<=a+n/\a+n<b+n) by omega),if_neg (show ¬(a<=b+n/\b+n<a+n) by omega),if_neg (show ¬(b<=b+n/\b+n<b+n) by omega)];by_cases h1:k=b+n
  .rw[if_pos h1,if_neg (by omega),if_pos (by omega)];exact gx d (by omega)
  rw[if_neg h1];by_cases h2:k=a+n
  .rw[if_pos h2,if_pos (by omega)];exact gx d (by omega)
  rw[if_neg h2];by_cases h3:a<=k/\k<a+n
  .rw[if_pos h3,if_pos (by omega)]
  rw[if_neg h3];by_cases h4:b<=k/\k<b+n
  .rw[if_pos h4,if_neg (show ¬(a<=k/\k<a+(n+1)) by omega),if_pos (by omega)]
  rw[if_neg h4,if_neg (show ¬(a<=k/\k<a+(n+1)) by omega),if_neg (by omega)]
def Jb:Nat->Array α->Nat->Nat->Nat->Array α
 | 0,d,_,_,_=>d
 | f+1,d,m,i,j=>if i=j then swr d (m-i) m i else if j<i then Jb f (swr d (m-i) m j) m (i-j) j else Jb f (swr d (m-i) (m+j-i) i) m i (j-i)
theorem ZaP:∀(f:Nat)(d:Array α)(m i j:Nat),(Jb f d m i j).size=d.size:=by
 intro f
 induction f with
 | zero=>intro d m i j;rfl
 | succ f ih =>
  intro d m i j;rw[Jb];split
  .exact Xk _ _ _ _
  split
  .rw[ih,Xk]
  rw[ih,Xk]
theorem Zdc:∀(f:Nat)(d:Array α)(m i j:Nat),i+j<=f->0<i->0<j->i<=m->m+j<=d.size->∀k,(Jb f d m i j)[k]! = if m-i<=k/\k<m-i+j then d[k+i]! else if m-i+j<=k/\k<m+j then d[k-j]! else d[k]!:=by
 intro f
 induction f with
 | zero=>intro d m i j h E;omega
 | succ f ih =>
  intro d m i j h hi D A C k;rw[Jb];by_cases x:i=j
  .subst x;rw[if_pos rfl,GT _ _ _ _ (by omega) (by omega) (by omega)];by_cases g:m-i<=k/\k<m-i+i
   .rw[if_pos g,if_pos g];exact gx d (by omega)
   rw[if_neg g,if_neg g];by_cases q:m<=k/\k<m+i
   .rw[if_pos q,if_pos (by omega)];exact gx d (by omega)
   rw[if_neg q,if_neg (by omega)]
  rw[if_neg x];by_cases y:j<i
  .rw[if_pos y,ih _ m (i-j) j (by omega) (by omega) D (by omega) (by rw[Xk];exact C)];simp only[GT d (m-i) m j (by omega) (by omega) (by omega)];by_cases g:m-(i-j)<=k/\k<m-(i-j)+j
   .rw[if_pos g];by_cases q:m<=k+(i-j)/\k+(i-j)<m+j
    .rw[if_neg (by omega),if_pos q,if_neg (by omega),if_pos (by omega)];exact gx d (by omega)
    omega
   rw[if_neg g];by_cases q:m-(i-j)+j<=k/\k<m+j
   .rw[if_pos q,if_neg (by omega)];by_cases v:m<=k-j/\k-j<m+j
    .omega
    rw[if_neg v,if_neg (by omega),if_pos (by omega)]
   rw[if_neg q];by_cases v:m-i<=k/\k<m-i+j
   .rw[if_pos v,if_pos (by omega)];exact gx d (by omega)
   rw[if_neg v,if_neg (by omega),if_neg (by omega),if_neg (by omega)]
  rw[if_neg y,ih _ m i (j-i) (by omega) hi (by omega) A (by rw[Xk];omega)];simp only[GT d (m-i) (m+j-i) i (by omega) (by omega) (by omega)];by_cases g:m-i<=k/\k<m-i+(j-i)
  .rw[if_pos g,if_pos (show m-i<=k/\k<m-i+j by omega),if_neg (by omega),if_neg (by omega)]
  rw[if_neg g];by_cases q:m-i+(j-i)<=k/\k<m+(j-i)
  .rw[if_pos q];by_cases v:m-i<=k-(j-i)/\k-(j-i)<m-i+i
   .rw[if_pos v];by_cases z:m-i<=k/\k<m-i+j
    .rw[if_pos z];exact gx d (by omega)
    omega
   omega
  rw[if_neg q];by_cases v:m-i<=k/\k<m-i+i
  .omega
  rw[if_neg v];by_cases z:m+j-i<=k/\k<m+j-i+i
  .rw[if_pos z,if_neg (by omega),if_pos (by omega)];exact gx d (by omega)
  rw[if_neg z,if_neg (by omega),if_neg (by omega)]
theorem ZaO:∀(f:Nat)(d:Array α)(m i j:Nat),i<=m->m+j<=d.size->PermIn (m-i) (m+j) d (Jb f d m i j):=by
 intro f
 induction f with
 | zero=>intro d m i j _ _;exact permIn_refl _ _ _
 | succ f ih =>
  intro d m i j z g;rw[Jb];by_cases q:i=j
  .subst q;rw[if_pos rfl];exact Kf (by omega) (by omega) g _ (by omega) (by omega)
  rw[if_neg q];by_cases v:j<i
  .rw[if_pos v];have x:=Kf (d:=d) (a:=m-i) (b:=m) (lo:=m-i) (hi:=m+j) (by omega) (by omega) g j (by omega) (by omega);have y:=ih (swr d (m-i) m j) m (i-j) j (by omega) (by rw[Xk];exact g);exact permIn_trans _ _ _ _ _ x (permIn_mono _ _ _ _ _ _ (by omega) (by omega) (by rw[Xk];exact g) y)
  rw[if_neg v];have x:=Kf (d:=d) (a:=m-i) (b:=m+j-i) (lo:=m-i) (hi:=m+j) (by omega) (by omega) g i (by omega) (by omega);have y:=ih (swr d (m-i) (m+j-i) i) m i (j-i) (by omega) (by rw[Xk];omega);exact permIn_trans _ _ _ _ _ x (permIn_mono _ _ _ _ _ _ (by omega) (by omega) (by rw[Xk];exact g) y)
def Srt(R:α->α->Prop)(a b:Nat)(d:Array α):Prop:=∀i j,a<=i->i<j->j<b->R d[i]! d[j]!
def Crs(lt:α->α->Bool)(R:α->α->Prop)(a m b:Nat)(d:Array α):Prop:=∀i j,a<=i->i<m->m<=j->j<b->(lt d[j]! d[i]! = false->R d[i]! d[j]!)/\(lt d[j]! d[i]! = true->R d[j]! d[i]!)
def Mrg(lt:α->α->Bool)(a m b:Nat)(d d':Array α):Prop:=PermIn a b d d'/\∀R:α->α->Prop,(∀x y z,R x y->R y z->R x z)->Srt R a m d->Srt R m b d->Crs lt R a m b d->Srt R a b d'
theorem xd{lt:α->α->Bool}{a m b start f e n:Nat}{d A C G:Array α}(O:a<=start)(h1:start<=m)(h2:m<=e)(h3:e<=b)(hb:b<=d.size)(ae:f=start+(e-m))
  (U:start=a\/e=b\/lt d[e]! d[start-1]! = false)(T:start=m\/e=m\/lt d[e-1]! d[start]! = true)
  (hg:∀k,A[k]! = if start<=k/\k<f then d[k+(m-start)]! else if f<=k/\k<e then d[k-(e-m)]! else d[k]!)(hp:PermIn a b d A)(M:Mrg lt a start f A C)(hB:Mrg lt f e b C G):Mrg lt a m b d G:=by
 have ac:A.size=d.size:=hp.1;have af:C.size=d.size:=M.1.1.trans ac;have q2:=permIn_mono _ _ a f a b (Nat.le_refl _) (by omega) (by omega) M.1;have q3:=permIn_mono _ _ f b a b (by omega) (Nat.le_refl _) (by omega) hB.1;refine⟨permIn_trans _ _ _ _ _ (permIn_trans _ _ _ _ _ hp q2) q3,fun R ht hL hR hC=>?_⟩;have g1:∀k,a<=k->k<start->A[k]! = d[k]!:=fun k _ h=>by rw[hg,if_neg (by omega),if_neg (by omega)]
 have g2:∀k,start<=k->k<f->A[k]! = d[k+(m-start)]!:=fun k h h'=>by rw[hg,if_pos ⟨h,h'⟩]
 have H:∀k,f<=k->k<e->A[k]! = d[k-(e-m)]!:=fun k h h'=>by rw[hg,if_neg (by omega),if_pos ⟨h,h'⟩]
 have I:∀k,e<=k->A[k]! = d[k]!:=fun k h=>by rw[hg,if_neg (by omega),if_neg (by omega)]
 -- left ahead of right,right ahead of left
 have aa:∀x y,a<=x->x<start->e<=y->y<b->R d[x]! d[y]!:=by
  intro x y hx V hy X;rcases U with U|U|U
  .omega
  .omega
  have Y:=(hC (start-1) e (by omega) (by omega) h2 (by omega)).1 U;have Z:R d[x]! d[e]!:=by
   by_cases E:x=start-1
   .rw[E];exact Y
   exact ht _ _ _ (hL x (start-1) hx (by omega) (by omega)) Y
  by_cases F:y=e
  .rw[F];exact Z
  exact ht _ _ _ Z (hR e y h2 (by omega) X)
 have ab:∀y x,m<=y->y<e->start<=x->x<m->R d[y]! d[x]!:=by
  intro y x hy X hx V;rcases T with T|T|T
  .omega
  .omega
  have Y:=(hC start (e-1) O (by omega) (by omega) (by omega)).2 T;have Z:R d[y]! d[start]!:=by
   by_cases F:y=e-1
   .rw[F];exact Y
   exact ht _ _ _ (hR y (e-1) hy (by omega) (by omega)) Y
  by_cases E:x=start
  .rw[E];exact Z
  exact ht _ _ _ Z (hL start x O (by omega) V)
 -- behind the rotation: all of the first half is ahead of all of the second one
 have hcut:∀i j,a<=i->i<f->f<=j->j<b->R A[i]! A[j]!:=by
  intro i j hi z q v;by_cases J:i<start
  .rw[g1 i hi J];by_cases L:j<e
   .rw[H j q L];exact hL _ _ hi (by omega) (by omega)
   rw[I j (by omega)];exact aa _ _ hi J (by omega) v
  rw[g2 i (by omega) z];by_cases L:j<e
  .rw[H j q L];exact ab _ _ (by omega) (by omega) (by omega) (by omega)
  rw[I j (by omega)];exact hR _ _ (by omega) (by omega) v
 have s1:=M.2 R ht (fun i j hi g q=>by rw[g1 i hi (by omega),g1 j (by omega) q];exact hL i j hi g (by omega)) (fun i j hi g q=>by rw[g2 i hi (by omega),g2 j (by omega) q];exact hR _ _ (by omega) (by omega) (by omega))
  (fun i j hi z q v=>by rw[g1 i hi z,g2 j q v];exact hC _ _ hi (by omega) (by omega) (by omega))
 have D:∀k,f<=k->C[k]! = A[k]!:=fun k h=>M.1.2.1 k (.inr h)
 have e3:∀k,k<f->G[k]! = C[k]!:=fun k h=>hB.1.2.1 k (.inl h)
 have s2:=hB.2 R ht (fun i j hi g q=>by rw[D i hi,D j (by omega),H i hi (by omega),H j (by omega) q];exact hL _ _ (by omega) (by omega) (by omega)) (fun i j hi g q=>by rw[D i (by omega),D j (by omega),I i hi,I j (by omega)];exact hR _ _ (by omega) g q)
  (fun i j hi z q v=>by rw[D i hi,D j (by omega),H i hi z,I j q];exact hC _ _ (by omega) (by omega) (by omega) v)
 intro i j hi g q;by_cases J:j<f
 .rw[e3 i (by omega),e3 j J];exact s1 i j hi g J
 by_cases L:f<=i
 .exact s2 i j L g q
 rw[e3 i (by omega)];refine permIn_all A C a f (fun x=>R x G[j]!) (by omega) M.1 (fun i' hi1 z=>?_) i hi (by omega);refine permIn_all C G f b (fun y=>R A[i']! y) (by omega) hB.1 (fun j' hj1 v=>?_) j (by omega) q;rw[D j' hj1];exact hcut i' j' hi1 z hj1 v
theorem Zaz{lt:α->α->Bool}{a b i:Nat}{d v:Array α}(hb:b<=d.size)(I:a+1<=i)(J:i<=b)(q:i=a+1\/lt d[i-1]! d[a]! = true)(m:i=b\/lt d[i]! d[a]! = false)(G:PermIn a b d v)
  (E:∀k,v[k]! = if a<=k/\k+1<i then d[k+1]! else if k+1=i then d[a]! else d[k]!):Mrg lt a (a+1) b d v:=by
 refine⟨G,fun R ht hL hR hC=>?_⟩;have A:∀k,a+1<=k->k<i->R d[k]! d[a]!:=fun k hk hk2=>by
  rcases q with q|q
  .omega
  have j:=(hC a (i-1) (Nat.le_refl _) (by omega) (by omega) (by omega)).2 q;by_cases f:k=i-1
  .rw[f];exact j
  exact ht _ _ _ (hR k (i-1) hk (by omega) (by omega)) j
 have z:∀k,i<=k->k<b->R d[a]! d[k]!:=fun k hk hk2=>by
  rcases m with m|m
  .omega
  have j:=(hC a i (Nat.le_refl _) (by omega) (by omega) (by omega)).1 m;by_cases f:k=i
  .rw[f];exact j
  exact ht _ _ _ j (hR i k (by omega) (by omega) hk2)
 intro x y H C hy;rw[E x,E y];by_cases D:x+1<i
 .rw[if_pos ⟨H,D⟩];by_cases F:y+1<i
  .rw[if_pos ⟨by omega,F⟩];exact hR _ _ (by omega) (by omega) (by omega)
  rw[if_neg (by omega)];by_cases g:y+1=i
  .rw[if_pos g];exact A _ (by omega) D
  rw[if_neg g];exact hR _ _ (by omega) (by omega) hy
 rw[if_neg (by omega),if_neg (show ¬(a<=y/\y+1<i) by omega),if_neg (show ¬y+1=i by omega)];by_cases g:x+1=i
 .rw[if_pos g];exact z y (by omega) hy
 rw[if_neg g];exact hR _ _ (by omega) C hy
theorem uy{lt:α->α->Bool}{a m i:Nat}{d z:Array α}(hb:m+1<=d.size)(G:a<=i)(I:i<=m)(v:i=a\/lt d[m]! d[i-1]! = false)(q:i=m\/lt d[m]! d[i]! = true)(H:PermIn a (m+1) d z)
  (F:∀k,z[k]! = if i<k/\k<=m then d[k-1]! else if k=i then d[m]! else d[k]!):Mrg lt a m (m+1) d z:=by
 refine⟨H,fun R ht hL hR hC=>?_⟩;have C:∀k,a<=k->k<i->R d[k]! d[m]!:=fun k hk hk2=>by
  rcases v with v|v
  .omega
  have j:=(hC (i-1) m (by omega) (by omega) (Nat.le_refl _) (by omega)).1 v;by_cases f:k=i-1
  .rw[f];exact j
  exact ht _ _ _ (hL k (i-1) hk (by omega) (by omega)) j
 have A:∀k,i<=k->k<m->R d[m]! d[k]!:=fun k hk hk2=>by
  rcases q with q|q
  .omega
  have j:=(hC i m (by omega) (by omega) (Nat.le_refl _) (by omega)).2 q;by_cases f:k=i
  .rw[f];exact j
  exact ht _ _ _ j (hL i k G (by omega) hk2)
 intro x y D E hy;rw[F x,F y];by_cases J:i<y
 .rw[if_pos (show i<y/\y<=m by omega)];by_cases L:i<x
  .rw[if_pos (show i<x/\x<=m by omega)];exact hL _ _ (by omega) (by omega) (by omega)
  rw[if_neg (by omega)];by_cases g:x=i
  .rw[if_pos g];exact A _ (by omega) (by omega)
  rw[if_neg g];exact hL _ _ D (by omega) (by omega)
 rw[if_neg (show ¬(i<y/\y<=m) by omega),if_neg (show ¬(i<x/\x<=m) by omega),if_neg (show ¬x=i by omega)];by_cases g:y=i
 .rw[if_pos g];exact C x D (by omega)
 rw[if_neg g];exact hL _ _ D E (by omega)
end
section
variable {α:Type} [Inhabited α]
def Pr(lt:α->α->Bool)(R:α->α->Prop)(x y:α):Prop:=(lt y x=false->R x y)/\(lt y x=true->R y x)
structure eL (lt:α->α->Bool) (R:α->α->Prop) (a j i:Nat) (d:Array α):Prop where
 rest:∀p q,a<=p->p<q->q<=i->p≠j->q≠j->R d[p]! d[q]!
 right:∀q,j<q->q<=i->R d[j]! d[q]!
 left:∀p,a<=p->p<j->Pr lt R d[p]! d[j]!
theorem eL.stop{lt:α->α->Bool}{R:α->α->Prop}(ht:∀x y z,R x y->R y z->R x z){a j i:Nat}{d:Array α}(D:j<=i)(h:eL lt R a j i d)(v:j<=a\/lt d[j]! d[j-1]! = false):Srt R a (i+1) d:=by
 intro p q f g E;by_cases C:q=j
 .subst C;rcases v with v|v
  .omega
  have A:=(h.left (q-1) (by omega) (by omega)).1 v;by_cases m:p=q-1
  .rw[m];exact A
  exact ht _ _ _ (h.rest p (q-1) f (by omega) (by omega) (by omega) (by omega)) A
 by_cases m:p=j
 .subst m;exact h.right q g (by omega)
 exact h.rest p q f g (by omega) m C
theorem eL.step{lt:α->α->Bool}{R:α->α->Prop}{a j i:Nat}{d:Array α}(h:eL lt R a (j+1) i d)(E:j+1<=i)(G:lt d[j+1]! d[j]! = true)(y:a<=j)(D:j+1<d.size):eL lt R a j i (swp d (j+1) j):=by
 have g:=swp_get d D (show j<d.size by omega);constructor
 .intro p q m A v z C;rw[g,g];by_cases f:q=j+1
  .subst f;simp only[C,z,if_false,if_true,show p≠j+1 by omega];exact h.rest p j m (by omega) (by omega) (by omega) (by omega)
  by_cases x:p=j+1
  .subst x;simp only[C,z,f,if_false,if_true];exact h.rest j q y (by omega) v (by omega) f
  simp only[C,z,f,x,if_false];exact h.rest p q m A v x f
 .intro q F v;rw[g,g];by_cases f:q=j+1
  .subst f;simp only[show j+1≠j by omega,if_false,if_true];exact(h.left j y (by omega)).2 G
  simp only[if_true,show q≠j by omega,f,if_false];exact h.right q (by omega) v
 intro p m H;rw[g,g];simp only[show p≠j by omega,show p≠j+1 by omega,if_true,if_false];exact h.left p m (by omega)
theorem Uh{lt:α->α->Bool}{R:α->α->Prop}(ht:∀x y z,R x y->R y z->R x z)(a b i:Nat)(hib:i<b):∀(j:Nat)(d:Array α),a<=j->j<=i->b<=d.size->eL lt R a j i d->Srt R a (i+1) (insInner lt a j d)
 | 0,d,_,hji,_,hI=>by
  unfold insInner;exact hI.stop ht hji (Or.inl (Nat.zero_le _))
 | j+1,d,haj,hji,hb,hI=>by
  unfold insInner;split
  .rename_i hc
   simp only[Bool.and_eq_true,decide_eq_true_eq] at hc;exact Uh ht a b i hib j (swp d (j+1) j) (by omega) (by omega) (by rw[swp_size];exact hb) (hI.step hji hc.2 (by omega) (by omega))
  rename_i hc
  simp only[Bool.and_eq_true,decide_eq_true_eq,not_and,Bool.not_eq_true] at hc;refine hI.stop ht hji ?_;by_cases h:j+1 > a
  .exact Or.inr (by simpa using hc h)
  exact Or.inl (by omega)
theorem Ug(lt:α->α->Bool)(a b i:Nat)(hib:i<b):∀(j:Nat)(d:Array α),a<=j->j<=i->b<=d.size->PermIn a (i+1) d (insInner lt a j d)
 | 0,d,_,hji,_=>by
  unfold insInner;exact permIn_refl _ _ _
 | j+1,d,haj,hji,hb=>by
  unfold insInner;split
  .rename_i hc
   simp only[Bool.and_eq_true,decide_eq_true_eq] at hc;exact permIn_trans _ _ _ _ _ (swp_permIn d a (i+1) (j+1) j haj (by omega) (by omega) (by omega) (by omega)) (Ug lt a b i hib j (swp d (j+1) j) (by omega) (by omega) (by rw[swp_size];exact hb))
  exact permIn_refl _ _ _
theorem Ui{lt:α->α->Bool}(a b:Nat):∀(n i:Nat)(d:Array α),b-i=n->a<i->i<=b->b<=d.size ->
  PermIn a b d (insOuter lt a b i d)/\∀R:α->α->Prop,(∀x y z,R x y->R y z->R x z)->Srt R a i d->(∀q,i<=q->q<b->∀p,a<=p->p<q->Pr lt R d[p]! d[q]!)->Srt R a b (insOuter lt a b i d)
 | 0,i,d,hn,_,hib,_=>by
  obtain rfl:i=b:=by omega
  rw[insOuter,if_neg (by omega)];exact⟨permIn_refl _ _ _,fun R ht hs _=>hs⟩
 | n+1,i,d,hn,hai,hib,hb=>by
  have g:i<b:=by omega
  rw[insOuter,if_pos g];have v:=Ug lt a b i g i d (by omega) (Nat.le_refl _) hb;have C:=Ui (lt:=lt) a b n (i+1) (insInner lt a i d) (by omega) (by omega) (by omega) (by rw[v.1];exact hb);refine⟨permIn_trans _ _ _ _ _ (permIn_mono _ _ _ _ _ _ (Nat.le_refl _) (by omega) hb v) C.1,fun R ht hs hA=>?_⟩;refine C.2 R ht (Uh ht a b i g i d (by omega) (Nat.le_refl _) hb ⟨fun p q f m hqi _ D=>hs p q f m (by omega),fun q h1 C=>by omega,fun p f j=>hA i (Nat.le_refl _) g p f j⟩) ?_;intro q D A p f m;rw[v.2.1 q (.inr (by omega))];by_cases j:p<i+1
  .exact permIn_all d _ a (i+1) (fun x=>Pr lt R x d[q]!) (by omega) v (fun p' h3 h4=>hA q (by omega) A p' h3 (by omega)) p f j
  rw[v.2.1 p (.inr (by omega))];exact hA q (by omega) A p f m
theorem Qx(lt:α->α->Bool)(d:Array α)(a b:Nat)(g:a<=b)(hb:b<=d.size) :
  PermIn a b d (insertionSort lt d a b)/\∀R:α->α->Prop,(∀x y z,R x y->R y z->R x z)->(∀p q,a<=p->p<q->q<b->Pr lt R d[p]! d[q]!)->Srt R a b (insertionSort lt d a b):=by
 unfold insertionSort;by_cases h:a=b
 .subst h;rw[insOuter,if_neg (by omega)];exact⟨permIn_refl _ _ _,fun R _ _ i j f h2 h3=>by omega⟩
 have f:=Ui (lt:=lt) a b (b-(a+1)) (a+1) d rfl (by omega) (by omega) hb;exact⟨f.1,fun R ht hA=>f.2 R ht (fun i j f h2 h3=>by omega) (fun q hq hqb p hap hpq=>hA p q hap hpq hqb)⟩
def Stt(lt:α->α->Bool)(R:α->α->Prop)(n:Nat)(K:Nat->Nat->Prop)(d:Array α):Prop:=∀i j,i<j->j<n->(K i j->R d[i]! d[j]!)/\(¬K i j->Pr lt R d[i]! d[j]!)
def Stg(lt:α->α->Bool)(n:Nat)(K:Nat->Nat->Prop)(d0 d:Array α):Prop :=
 PermIn 0 n d0 d/\∀R:α->α->Prop,(∀x y z,R x y->R y z->R x z)->(∀p q,p<q->q<n->Pr lt R d0[p]! d0[q]!)->Stt lt R n K d
theorem Stg.turn{lt:α->α->Bool}{n:Nat}{K G:Nat->Nat->Prop}{H d A:Array α}{a b:Nat}(h:Stg lt n K H d)(hb:b<=n)(J:n<=d.size)(f:∀i j,i<j->j<n->(i<a/\a<=j/\j<b)\/(a<=i/\i<b/\b<=j)->¬K i j)
  (q:PermIn a b d A)(L:∀R:α->α->Prop,(∀x y z,R x y->R y z->R x z)->Stt lt R n K d->Srt R a b A)(hK:∀i j,i<j->j<n->(G i j↔K i j\/(a<=i/\j<b))):Stg lt n G H A:=by
 refine⟨permIn_trans _ _ _ _ _ h.1 (permIn_mono _ _ _ _ _ _ (Nat.zero_le _) hb J q),fun R ht hA=>?_⟩;have F:=h.2 R ht hA;have I:=L R ht F;intro i j m v;rw[hK i j m v];by_cases g:a<=i/\j<b
 .exact⟨fun _=>I i j g.1 m g.2,fun hc=>absurd (.inr g) hc⟩
 by_cases C:i<a/\a<=j/\j<b
 .have E:∀j',a<=j'->j'<b->Pr lt R d[i]! d[j']!:=fun j' h3 h4=>(F i j' (by omega) (by omega)).2 (f i j' (by omega) (by omega) (.inl ⟨C.1,h3,h4⟩))
  refine⟨fun hc=>absurd (hc.resolve_right g) (f i j m v (.inl C)),fun _=>?_⟩;rw[q.2.1 i (.inl C.1)];exact permIn_all d A a b (fun y=>Pr lt R d[i]! y) (by omega) q E j C.2.1 C.2.2
 by_cases D:a<=i/\i<b/\b<=j
 .have E:∀i',a<=i'->i'<b->Pr lt R d[i']! d[j]!:=fun i' h3 h4=>(F i' j (by omega) v).2 (f i' j (by omega) v (.inr ⟨h3,h4,D.2.2⟩))
  refine⟨fun hc=>absurd (hc.resolve_right g) (f i j m v (.inr D)),fun _=>?_⟩;rw[q.2.1 j (.inr D.2.2)];exact permIn_all d A a b (fun x=>Pr lt R x d[j]!) (by omega) q E i D.1 D.2.1
 rw[q.2.1 i (by omega),q.2.1 j (by omega)];have:=F i j m v;exact⟨fun hc=>this.1 (hc.resolve_right g),fun hc=>this.2 fun E=>hc (.inl E)⟩
theorem Stg.congr{lt:α->α->Bool}{n:Nat}{K K':Nat->Nat->Prop}{d0 d:Array α}(h:Stg lt n K d0 d)(hK:∀i j,i<j->j<n->(K' i j↔K i j)):Stg lt n K' d0 d :=
 ⟨h.1,fun R ht hA i j hij hj=>by rw[hK i j hij hj];exact h.2 R ht hA i j hij hj⟩
def Kp(s t a i j:Nat):Prop:=if j<a then i/t=j/t else i/s=j/s
theorem Vz{t c i j:Nat}(m:t*c<=i)(v:i<=j)(q:j<t*(c+1)):i/t=j/t:=by
 have ht:0<t:=by
  rcases Nat.eq_zero_or_pos t with h|h
  .subst h;omega
  exact h
 have f:i/t=c:=by
  refine Nat.div_eq_of_lt_le (by rw[Nat.mul_comm];exact m) ?_;rw[Nat.mul_comm];omega
 have g:j/t=c:=by
  refine Nat.div_eq_of_lt_le (by rw[Nat.mul_comm];omega) ?_;rw[Nat.mul_comm];exact q
 rw[f,g]
theorem Jq{t c i j:Nat}(ht:0<t)(f:i<t*c)(g:t*c<=j):i/t≠j/t:=by
 have m:i/t<c:=Nat.div_lt_of_lt_mul f;have q:c<=j/t:=(Nat.le_div_iff_mul_le ht).2 (by rw[Nat.mul_comm];exact g);omega
theorem Zct{s u c n b:Nat}(f:0<s)(hb:b=s*u*(c+1)\/b=n):∀i j,i<j->j<n->(i<s*u*c/\s*u*c<=j/\j<b)\/(s*u*c<=i/\i<b/\b<=j)->¬Kp s (s*u) (s*u*c) i j:=by
 intro i j g m h;unfold Kp;rcases h with h|h
 .rw[if_neg (by omega)];exact Jq (c:=u*c) f (by rw[<-Nat.mul_assoc];exact h.1) (by rw[<-Nat.mul_assoc];exact h.2.1)
 rw[if_neg (by omega)];rcases hb with hb|hb
 .exact Jq (c:=u*(c+1)) f (by rw[<-Nat.mul_assoc];omega) (by rw[<-Nat.mul_assoc];omega)
 omega
theorem gN{s u c n b:Nat}(q:0<s)(C:0<u)(y:s*u*c<=b)(z:b<=s*u*(c+1))(hb:b=s*u*(c+1)\/b=n):∀i j,i<j->j<n->(Kp s (s*u) b i j↔Kp s (s*u) (s*u*c) i j\/(s*u*c<=i/\j<b)):=by
 intro i j A D;unfold Kp;by_cases m:j<s*u*c
 .rw[if_pos m,if_pos (by omega)];constructor
  .exact fun h=>.inl h
  rintro (h|h)
  .exact h
  omega
 rw[if_neg m];by_cases f:j<b
 .rw[if_pos f];by_cases g:s*u*c<=i
  .exact⟨fun _=>.inr ⟨g,f⟩,fun _=>Vz g (by omega) (by omega)⟩
  have v:=Jq (t:=s*u) (c:=c) (i:=i) (j:=j) (Nat.mul_pos q C) (by omega) (by omega);have x:=Jq (t:=s) (c:=u*c) (i:=i) (j:=j) q (by rw[<-Nat.mul_assoc];omega) (by rw[<-Nat.mul_assoc];omega);exact⟨fun h=>absurd h v,fun h=>h.elim (fun h=>absurd h x) (fun h=>absurd h.1 g)⟩
 rw[if_neg f];exact⟨fun h=>.inl h,fun h=>h.elim id (fun h=>absurd h.2 f)⟩
theorem Za9(lt:α->α->Bool)(n t:Nat)(d:Array α):Stg lt n (Kp 1 t 0) d d :=
 ⟨permIn_refl _ _ _,fun R ht hA i j hij hj=>by
  unfold Kp;rw[if_neg (Nat.not_lt_zero _),Nat.div_one,Nat.div_one];exact⟨fun h=>by omega,fun _=>hA i j hij hj⟩⟩
theorem Stg.ins{lt:α->α->Bool}{n t c b:Nat}{m d:Array α}(h:Stg lt n (Kp 1 t (t*c)) m d)(ht:0<t)(x:n<=d.size)(f:t*c<=b)(g:b<=t*(c+1))(hbn:b<=n)(hb:b=t*(c+1)\/b=n):Stg lt n (Kp 1 t b) m (insertionSort lt d (t*c) b):=by
 have v:=Qx lt d (t*c) b f (by omega);have e:t=1*t:=(Nat.one_mul t).symm;refine h.turn hbn x (a:=t*c) (b:=b) (fun i j=>?_) v.1 (fun R hR hS=>v.2 R hR fun p q hp hpq hq=>(hS p q hpq (by omega)).2 ?_) (fun i j=>?_)
 .have:=Zct (s:=1) (u:=t) (c:=c) (n:=n) (b:=b) (by omega) (by rw[Nat.one_mul];exact hb) i j;rw[Nat.one_mul] at this;exact this
 .unfold Kp;rw[if_neg (by omega),Nat.div_one,Nat.div_one];omega
 have:=gN (s:=1) (u:=t) (c:=c) (n:=n) (b:=b) (by omega) ht (by rw[Nat.one_mul];exact f) (by rw[Nat.one_mul];exact g) (by rw[Nat.one_mul];exact hb) i j;rw[Nat.one_mul] at this;exact this
theorem Stg.mrg{lt:α->α->Bool}{n s c b:Nat}{q d m:Array α}(h:Stg lt n (Kp s (s*2) (s*2*c)) q d)(g:0<s)(z:n<=d.size)(y:s*2*c+s<=b)(f:b<=s*2*(c+1))(hbn:b<=n)(hb:b=s*2*(c+1)\/b=n)
  (v:Mrg lt (s*2*c) (s*2*c+s) b d m):Stg lt n (Kp s (s*2) b) q m:=by
 have x:s*(2*c)=s*2*c:=(Nat.mul_assoc _ _ _).symm;have A:s*(2*c+1)=s*2*c+s:=by rw[Nat.mul_add,x,Nat.mul_one]
 have C:s*(2*c+1+1)=s*2*(c+1):=by rw[Nat.mul_assoc,Nat.mul_add 2]
 refine h.turn hbn z (Zct g hb) v.1 (fun R hR hS=>v.2 R hR (fun i j hi hij hj=>(hS i j hij (by omega)).1 ?_) (fun i j hi hij hj=>(hS i j hij (by omega)).1 ?_) (fun i j hi hi2 hj hj2=>(hS i j (by omega) (by omega)).2 ?_)) (gN g (by omega) (by omega) f hb)
 .unfold Kp;rw[if_neg (by omega)];exact Vz (c:=2*c) (by omega) (by omega) (by omega)
 .unfold Kp;rw[if_neg (by omega)];exact Vz (c:=2*c+1) (by omega) (by omega) (by omega)
 unfold Kp;rw[if_neg (by omega)];exact Jq (c:=2*c+1) g (by omega) (by omega)
theorem Stg.alone{lt:α->α->Bool}{n s c:Nat}{f d:Array α}(h:Stg lt n (Kp s (s*2) (s*2*c)) f d)(y:0<s)(C:n<=s*2*c+s):Stg lt n (Kp s (s*2) n) f d:=by
 refine h.congr fun i j hij hj=>?_
 have v:s*(2*c)=s*2*c:=(Nat.mul_assoc _ _ _).symm;have z:s*(2*c+1)=s*2*c+s:=by rw[Nat.mul_add,v,Nat.mul_one]
 have A:s*2*(c+1)=s*2*c+s+s:=by rw[Nat.mul_add,Nat.mul_one];omega
 unfold Kp;rw[if_pos hj];by_cases g:j<s*2*c
 .rw[if_pos g]
 rw[if_neg g];by_cases x:s*2*c<=i
 .exact⟨fun _=>Vz (c:=2*c) (by omega) (by omega) (by omega),fun _=>Vz (t:=s*2) (c:=c) x (by omega) (by omega)⟩
 have m:=Jq (t:=s*2) (c:=c) (i:=i) (j:=j) (by omega) (by omega) (by omega);have q:=Jq (t:=s) (c:=2*c) (i:=i) (j:=j) y (by omega) (by omega);exact⟨fun h=>absurd h m,fun h=>absurd h q⟩
theorem Stg.over{lt:α->α->Bool}{n s t u:Nat}{d0 d:Array α}(h:Stg lt n (Kp s t n) d0 d):Stg lt n (Kp t u 0) d0 d :=
 h.congr fun i j hij hj=>by unfold Kp;rw[if_neg (Nat.not_lt_zero _),if_pos hj]
theorem Stg.all{lt:α->α->Bool}{n s t:Nat}{d0 d:Array α}(h:Stg lt n (Kp s t 0) d0 d)(hn:n<=s):PermIn 0 n d0 d/\∀R:α->α->Prop,(∀x y z,R x y->R y z->R x z)->(∀p q,p<q->q<n->Pr lt R d0[p]! d0[q]!)->Srt R 0 n d :=
 ⟨h.1,fun R ht hA i j _ hij hj=>(h.2 R ht hA i j hij hj).1 (by
  unfold Kp;rw[if_neg (Nat.not_lt_zero _),Nat.div_eq_of_lt (by omega),Nat.div_eq_of_lt (by omega)])⟩
end
open Go.Shelf Go.RowKit Go.Lib Go.Sort Go.Proofs
structure JL (P:Program) (k:Nat):Prop where
 mixed:P.follows Departure.mixedOrders=true
 t0:P.underlying 0=some (TypeDesc.tuple #[])
 a0:∀w,(isAgg 0).run P w=.ok false w
 z0:∀w,(Go.sizeOf 0).run P w=.ok 1 w
 v0:∀w,(zeroValue 0).run P w=.ok (Value.tuple #[]) w
 t3:P.underlying 3=some (TypeDesc.int IntKind.i64)
 a3:∀w,(isAgg 3).run P w=.ok false w
 z3:∀w,(Go.sizeOf 3).run P w=.ok 1 w
 v3:∀w,(zeroValue 3).run P w=.ok (Value.int IntKind.i64 0) w
 t4:P.underlying 4=some (TypeDesc.bool)
 a4:∀w,(isAgg 4).run P w=.ok false w
 z4:∀w,(Go.sizeOf 4).run P w=.ok 1 w
 v4:∀w,(zeroValue 4).run P w=.ok (Value.bool false) w
 t53:P.underlying 59=some (TypeDesc.slice 128)
 a53:∀w,(isAgg 59).run P w=.ok false w
 z53:∀w,(Go.sizeOf 59).run P w=.ok 1 w
 v53:∀w,(zeroValue 59).run P w=.ok (Value.slice none 0 0) w
 t156:P.underlying 209=some (TypeDesc.func #[128,128] #[3] false)
 a156:∀w,(isAgg 209).run P w=.ok false w
 z156:∀w,(Go.sizeOf 209).run P w=.ok 1 w
 v156:∀w,(zeroValue 209).run P w=.ok (Value.nilFunc) w
 t131:P.underlying 178=some (TypeDesc.int IntKind.u64)
 a131:∀w,(isAgg 178).run P w=.ok false w
 z131:∀w,(Go.sizeOf 178).run P w=.ok 1 w
 v131:∀w,(zeroValue 178).run P w=.ok (Value.int IntKind.u64 0) w
 aE:∀w,(isAgg 128).run P w=.ok true w
 zE:∀w,(Go.sizeOf 128).run P w=.ok k w
theorem Zco:JL prog 5:=by
 constructor<;>first|kernel_rfl|(intro w;go_simp)
structure JF (P:Program):Prop where
 fS:P.funcs[257]?=some Tryz.f257
 eS:∀args w,(callFunc 257 args).run P w=.ok (.enter 257 args) w
 fR:P.funcs[242]?=some Tryz.f242
 eR:∀args w,(callFunc 242 args).run P w=.ok (.enter 242 args) w
 fM:P.funcs[215]?=some Tryz.f215
 eM:∀args w,(callFunc 215 args).run P w=.ok (.enter 215 args) w
 fI:P.funcs[214]?=some Tryz.f214
 eI:∀args w,(callFunc 214 args).run P w=.ok (.enter 214 args) w
 fB:P.funcs[175]?=some Tryz.f175
 eB:∀args w,(callFunc 175 args).run P w=.ok (.enter 175 args) w
theorem Zav:JF prog where
 fS:=func257
 eS:=Go.Proofs.enters_of func257 kq rfl
 fR:=func242
 eR:=Go.Proofs.enters_of func242 kq rfl
 fM:=func215
 eM:=Go.Proofs.enters_of func215 kq rfl
 fI:=func214
 eI:=Go.Proofs.enters_of func214 kq rfl
 fB:=func175
 eB:=Go.Proofs.enters_of func175 kq rfl
section
variable {P:Program} {α:Type} [Inhabited α] {k:Nat}
set_option maxRecDepth 1000000 in
theorem zy(L:JL P k)(FF:JF P)(enc:α->List Value)(fn:Value)(f off cap a b n:Nat)(O d:Array α)(z w:World)
  (R:RowK enc k z f off O)(hs:O.size=d.size)(S:SWK enc k z f off d w)(ha:a+n<=d.size)(hb:b+n<=d.size)(ak:d.size<4611686018427387904) :
  Calls P 257 #[.slice (some ⟨f,off,none⟩) d.size cap,.int .i64 a,.int .i64 b,.int .i64 n,fn] w fun e w'=>e=.returned (.tuple #[])/\SWK enc k z f off (swr d a b n) w':=by
 have mixed:=L.mixed;have t0:=L.t0;have a0:=L.a0;have z0:=L.z0;have v0:=L.v0;have t3:=L.t3;have a3:=L.a3;have z3:=L.z3;have v3:=L.v3;have t4:=L.t4;have a4:=L.a4;have z4:=L.z4;have v4:=L.v4;have al:=L.t53;have ag:=L.a53;have an:=L.z53;have am:=L.v53;have ac:=L.t156;have I:=L.a156;have af:=L.z156;have ae:=L.v156;have aE:=L.aE;have zE:=L.zE;have F:=FF.fS;have H:Aside (SWK enc k z f off d w):=S;clear S;go_enter F,ntmps257;go_wp2;go_loopg [10] n (fun kx s10 wr=>∃(i:Nat),s10=.int .i64 i/\i<=n/\n-i<=kx/\Aside (SWK enc k z f off (swr d a b i) wr))
 case atStart=>exact⟨0,by go_num,oq,oq,H⟩
 clear H;obtain⟨i,rfl,ah,ai,v⟩:=hrel;by_cases aj:i<n
 .have A:(i:Int)<(n:Int):=oq;have G:(swr d a b i).size=d.size:=Xk d a b i;go_wp2_with fail;obtain⟨x,V⟩:=ey (a+i);obtain⟨y,hy⟩:=ey (b+i);have T:((x:Int)).toNat=x:=oq;have X:(0:Int)<=(x:Int):=oq;have J:(x:Int)<(d.size:Int):=oq;have Z:IntKind.i64.wrap ((a:Int)+(i:Int))=(x:Int):=by rw[Zs];omega
  have U:((y:Int)).toNat=y:=oq;have Y:(0:Int)<=(y:Int):=oq;have M:(y:Int)<(d.size:Int):=oq;have aa:IntKind.i64.wrap ((b:Int)+(i:Int))=(y:Int):=by rw[Zs];omega
  have ab:IntKind.i64.wrap ((i:Int)+1)=((i+1:Nat):Int):=by rw[Zs];omega
  have E:Aside (SWK enc k z f off (swr d a b (i+1)) ((wr.drew.setCells f (off+x*k) (enc (swr d a b i)[y]!)).setCells f (off+y*k) (enc (swr d a b i)[x]!))):=by
   have:=v.o.swapped R x y oq oq;rw[V,hy] at this ⊢;exact this
  have j:=v.o.ld1 R oq P x oq;have m:=v.o.ld1 R oq P y oq;have q:=v.o.st1 R oq P x oq (swr d a b i)[y]!;have g:=v.o.st2 R oq P x y oq oq (swr d a b i)[y]! (swr d a b i)[x]!;have C:(enc (swr d a b i)[x]!).length=k:=R.hk _;have D:(enc (swr d a b i)[y]!).length=k:=R.hk _;generalize enc (swr d a b i)[x]! = cI44 at E j g C;generalize enc (swr d a b i)[y]! = cJ44 at E m q g D;clear v G V hy;go_wp2_with fail;go_big_region_o;clear j m q g;generalize (wr.drew.setCells f (off+x*k) cJ44).setCells f (off+y*k) cI44=w2 at E ⊢;go_wp2;go_roundg (n-(i+1))
  case measure=>omega
  exact⟨i+1,rfl,oq,Zc _,E⟩
 have A:¬(i:Int)<(n:Int):=oq;obtain rfl:i=n:=oq;go_wp2;go_end0;exact⟨rfl,v.o⟩
theorem Zde{α:Type}[Inhabited α]{f m i:Nat}(d:Array α)(j:0<f):Jb f d m i i=swr d (m-i) m i:=by
 obtain⟨g,rfl⟩:∃g,f=g+1:=⟨f-1,oq⟩;rw[Jb,Z3 rfl]
theorem Zdd{α:Type}[Inhabited α]{f m i j:Nat}(d:Array α)(q:0<f)(h:j<i):Jb f d m i j=Jb (f-1) (swr d (m-i) m j) m (i-j) j:=by
 obtain⟨g,rfl⟩:∃g,f=g+1:=⟨f-1,oq⟩;rw[Jb,Z2 oq,Z3 h];rfl
theorem ZaQ{α:Type}[Inhabited α]{f m i j:Nat}(d:Array α)(q:0<f)(h:i<j):Jb f d m i j=Jb (f-1) (swr d (m-i) (m+j-i) i) m i (j-i):=by
 obtain⟨g,rfl⟩:∃g,f=g+1:=⟨f-1,oq⟩;rw[Jb,Z2 oq,Z2 oq];rfl
set_option maxRecDepth 1000000 in
theorem uN(L:JL P k)(FF:JF P)(enc:α->List Value)(fn:Value)(g off cap a m b:Nat)(d0 d:Array α)(A w:World)
  (R:RowK enc k A g off d0)(hs:d0.size=d.size)(S:SWK enc k A g off d w)(am:a<m)(an:m<b)(hb:b<=d.size)(ao:d.size<2305843009213693952) :
  Calls P 242 #[.slice (some ⟨g,off,none⟩) d.size cap,.int .i64 a,.int .i64 m,.int .i64 b,fn] w fun e w'=>e=.returned (.tuple #[])/\SWK enc k A g off (Jb (b-a) d m (m-a) (b-m)) w':=by
 have mixed:=L.mixed;have t0:=L.t0;have a0:=L.a0;have z0:=L.z0;have v0:=L.v0;have t3:=L.t3;have a3:=L.a3;have z3:=L.z3;have v3:=L.v3;have t4:=L.t4;have a4:=L.a4;have z4:=L.z4;have v4:=L.v4;have ap:=L.t53;have al:=L.a53;have ar:=L.z53;have aq:=L.v53;have ai:=L.t156;have ah:=L.a156;have ak:=L.z156;have aj:=L.v156;have aE:=L.aE;have zE:=L.zE;have F:=FF.fR;have eS:=FF.eS;have HS:=hid (fun(q:Array α) (x y n:Nat) (W:World) (h1:q.size=d.size) (h2:SWK enc k A g off q W) (h3:x+n<=q.size) (h4:y+n<=q.size)=>zy L FF enc fn g off cap x y n d0 q A W R oq h2 h3 h4 oq);have S0:Aside (SWK enc k A g off d w):=S;clear S R hs L FF;obtain⟨G,Y⟩:=ey (m-a);obtain⟨I,aa⟩:=ey (b-m);rw[<-Y,<-aa];have af:IntKind.i64.wrap ((m:Int)-(a:Int))=(G:Int):=by rw[Zs];omega
 have ag:IntKind.i64.wrap ((b:Int)-(m:Int))=(I:Int):=by rw[Zs];omega
 obtain⟨D,hD⟩:=ey (Jb (b-a) d m G I);rw[<-hD];have q1:0<G:=oq;have q2:0<I:=oq;have q3:G<=m:=oq;have q4:m+I<=d.size:=oq;have q5:G+I<=b-a:=oq;have C:Hid (D=Jb (b-a) d m G I):=hD;clear hD Y aa;go_enter F,ntmps242;go_wp2;go_loopg [10,11] (G+I) (fun kx s10 s11 wr=>∃(i j f:Nat)(q:Array α),s10=.int .i64 i/\s11=.int .i64 j/\0<i/\0<j/\i<=m/\m+j<=d.size/\i+j<=f/\i+j<=kx/\q.size=d.size/\Aside (SWK enc k A g off q wr)/\Hid (D=Jb f q m i j))
 case atStart=>exact⟨G,I,b-a,d,rfl,rfl,q1,q2,q3,q4,q5,Zc _,rfl,S0,C⟩
 clear S0 C q1 q2 q3 q4 q5 af ag;obtain⟨i,j,f,q,rfl,rfl,h1,h2,h3,h4,h5,h6,v,T,C⟩:=hrel;obtain⟨x,U⟩:=ey (m-i);have wx:IntKind.i64.wrap ((m:Int)-(i:Int))=(x:Int):=by rw[Zs];omega
 rcases Nat.lt_trichotomy i j with hij|hij|hij
 .have hq:((i:Int) != (j:Int))=true:=by rw[bne_iff_ne];omega
  have ac:¬(j:Int)<(i:Int):=oq;obtain⟨s,ae⟩:=ey (m+j);obtain⟨y,hy⟩:=ey (m+j-i);obtain⟨J,ab⟩:=ey (j-i);have ws:IntKind.i64.wrap ((m:Int)+(j:Int))=(s:Int):=by rw[Zs];omega
  have wy:IntKind.i64.wrap ((s:Int)-(i:Int))=(y:Int):=by rw[Zs];omega
  have wj:IntKind.i64.wrap ((j:Int)-(i:Int))=(J:Int):=by rw[Zs];omega
  have E:=HS.o q x y i wr v T.o oq oq;rw[v] at E;have V:Hid (D=Jb (f-1) (swr q x y i) m i J):=by
   show _=_;rw[C.o,ZaQ q oq hij,U,hy,ab]
  have O:(swr q x y i).size=d.size:=(Xk _ _ _ _).trans v;have M:0<J/\m+J<=d.size/\i+J<=f-1/\i+J<i+j:=oq;clear C T U ae hy ab;go_wp2_with (go_at_fn 257;refine E.mono ?_;rintro e w1 ⟨rfl,z⟩;have X:Aside (SWK enc k A g off _ w1):=z;clear z);go_roundg (i+J)
  case measure=>omega
  exact⟨i,J,f-1,_,rfl,rfl,h1,M.1,h3,M.2.1,M.2.2.1,Zc _,O,X,V⟩
 .subst hij;have hq:((i:Int) != (i:Int))=false:=by simp
  have E:=HS.o q x m i wr v T.o oq oq;rw[v] at E;have V:Hid (D=swr q x m i):=by
   show _=_;rw[C.o,Zde q oq,U]
  clear C T U;go_wp2_with (go_at_fn 257;refine E.mono ?_;rintro e w1 ⟨rfl,z⟩;have X:Aside (SWK enc k A g off _ w1):=z;clear z);go_end0;refine⟨rfl,?_⟩;rw[V.o];exact X.o
 have hq:((i:Int) != (j:Int))=true:=by rw[bne_iff_ne];omega
 have ac:(j:Int)<(i:Int):=oq;obtain⟨H,Z⟩:=ey (i-j);have wj:IntKind.i64.wrap ((i:Int)-(j:Int))=(H:Int):=by rw[Zs];omega
 have E:=HS.o q x m j wr v T.o oq oq;rw[v] at E;have V:Hid (D=Jb (f-1) (swr q x m j) m H j):=by
  show _=_;rw[C.o,Zdd q oq hij,U,Z]
 have O:(swr q x m j).size=d.size:=(Xk _ _ _ _).trans v;have M:0<H/\H<=m/\H+j<=f-1/\H+j<i+j:=oq;clear C T U Z;go_wp2_with (go_at_fn 257;refine E.mono ?_;rintro e w1 ⟨rfl,z⟩;have X:Aside (SWK enc k A g off _ w1):=z;clear z);go_roundg (H+j)
 case measure=>omega
 exact⟨H,j,f-1,_,rfl,rfl,M.1,h2,M.2.1,h4,M.2.2.1,Zc _,O,X,V⟩
end
section
variable {α:Type} [Inhabited α]
def shl(d:Array α)(a:Nat):Nat->Array α
 | 0=>d
 | n+1=>swp (shl d a n) (a+n) (a+n+1)
def shr(d:Array α)(m:Nat):Nat->Array α
 | 0=>d
 | n+1=>swp (shr d m n) (m-n) (m-n-1)
theorem VN(d:Array α)(a:Nat):∀n,(shl d a n).size=d.size
 | 0=>rfl
 | n+1=>by rw[shl,swp_size,VN d a n]
theorem VO(d:Array α)(m:Nat):∀n,(shr d m n).size=d.size
 | 0=>rfl
 | n+1=>by rw[shr,swp_size,VO d m n]
theorem jV{d:Array α}{a b:Nat}(hb:b<=d.size):∀n,a+n<b->PermIn a b d (shl d a n)
 | 0,_=>permIn_refl _ _ _
 | n+1,h=>permIn_trans _ _ _ _ _ (jV hb n oq) (swp_permIn _ _ _ _ _ oq oq oq oq (by rw[VN];exact hb))
theorem jW{d:Array α}{a m:Nat}(hb:m+1<=d.size):∀n,a+n<=m->PermIn a (m+1) d (shr d m n)
 | 0,_=>permIn_refl _ _ _
 | n+1,h=>permIn_trans _ _ _ _ _ (jW hb n oq) (swp_permIn _ _ _ _ _ oq oq oq oq (by rw[VO];exact hb))
theorem eC(d:Array α)(a:Nat):∀n,a+n<d.size->∀q,(shl d a n)[q]! = if a<=q/\q<a+n then d[q+1]! else if q=a+n then d[a]! else d[q]!
 | 0,_,q=>by
  rw[Z2 oq];by_cases h:q=a+0
  .rw[Z3 h,h];rfl
  rw[Z2 h];rfl
 | n+1,h,q=>by
  have ih:=eC d a n oq;rw[shl,swp_get _ (by rw[VN];omega) (by rw[VN];omega),ih (a+n),ih (a+n+1),ih q];rw[Z2 (show ¬(a<=a+n/\a+n<a+n) by omega),Z3 rfl,Z2 (show ¬(a<=a+n+1/\a+n+1<a+n) by omega),Z2 (show ¬a+n+1=a+n by omega)];by_cases h1:q=a+n+1
  .rw[Z3 h1,Z2 oq,Z3 oq]
  rw[Z2 h1];by_cases h2:q=a+n
  .rw[Z3 h2,Z3 oq];exact gx d oq
  rw[Z2 h2];by_cases h3:a<=q/\q<a+n
  .rw[Z3 h3,Z3 oq]
  rw[Z2 h3,Z2 h2,Z2 (show ¬(a<=q/\q<a+(n+1)) by omega),Z2 oq]
theorem eD(d:Array α)(m:Nat):∀n,n<=m->m<d.size->∀q,(shr d m n)[q]! = if m-n<q/\q<=m then d[q-1]! else if q=m-n then d[m]! else d[q]!
 | 0,_,_,q=>by
  rw[Z2 oq];by_cases h:q=m-0
  .rw[Z3 h];exact gx d oq
  rw[Z2 h];rfl
 | n+1,h,hm,q=>by
  have ih:=eD d m n oq hm;rw[shr,swp_get _ (by rw[VO];omega) (by rw[VO];omega),ih (m-n),ih (m-n-1),ih q];rw[Z2 (show ¬(m-n<m-n/\m-n<=m) by omega),Z3 rfl,Z2 (show ¬(m-n<m-n-1/\m-n-1<=m) by omega),Z2 (show ¬m-n-1=m-n by omega)];by_cases h1:q=m-n-1
  .rw[Z3 h1,Z2 oq,Z3 oq]
  rw[Z2 h1];by_cases h2:q=m-n
  .rw[Z3 h2,Z3 oq];exact gx d oq
  rw[Z2 h2];by_cases h3:m-n<q/\q<=m
  .rw[Z3 h3,Z3 oq]
  rw[Z2 h3,Z2 h2,Z2 oq,Z2 oq]
theorem ZeL{lt:α->α->Bool}{a b i:Nat}{d:Array α}(hb:b<=d.size)(j:a+1<=i)(m:i<=b)(y:i=a+1\/lt d[i-1]! d[a]! = true)(v:i=b\/lt d[i]! d[a]! = false)(q:Nat)(z:a+q+1=i):Mrg lt a (a+1) b d (shl d a q):=by
 refine Zaz hb j m y v (jV hb q oq) fun x=>?_
 rw[eC d a q oq];by_cases f:a<=x/\x<a+q
 .rw[Z3 f,Z3 (show a<=x/\x+1<i by omega)]
 rw[Z2 f,Z2 (show ¬(a<=x/\x+1<i) by omega)];by_cases g:x=a+q
 .rw[Z3 g,Z3 (show x+1=i by omega)]
 rw[Z2 g,Z2 (show ¬x+1=i by omega)]
theorem ZeM{lt:α->α->Bool}{a m i:Nat}{d:Array α}(hb:m+1<=d.size)(j:a<=i)(v:i<=m)(z:i=a\/lt d[m]! d[i-1]! = false)(y:i=m\/lt d[m]! d[i]! = true)(q:Nat)(A:i+q=m):Mrg lt a m (m+1) d (shr d m q):=by
 refine uy hb j v z y (jW hb q oq) fun x=>?_
 rw[eD d m q oq oq];by_cases f:m-q<x/\x<=m
 .rw[Z3 f,Z3 (show i<x/\x<=m by omega)]
 rw[Z2 f,Z2 (show ¬(i<x/\x<=m) by omega)];by_cases g:x=m-q
 .rw[Z3 g,Z3 (show x=i by omega)]
 rw[Z2 g,Z2 (show ¬x=i by omega)]
end
section
variable {P:Program} {α:Type} [Inhabited α] {k:Nat}
set_option maxRecDepth 1000000 in
theorem ZeZ(L:JL P k)(FF:JF P)(enc:α->List Value)(C:α->α->Int)(g:Nat)(cb:Array Value)(f off cap a m b:Nat)(d0 d:Array α)(I w:World)
  (eg:∀args w,(callFunc g args).run P w=.ok (.enter g args) w)(J:CmpLays P g cb enc k C f off d0.size I)(R:RowK enc k I f off d0)(hs:d0.size=d.size)(S:SWK enc k I f off d w)(hb:b<=d.size)(bg:d.size<2305843009213693952)(hm:m=a+1)(bf:m<b) :
  Calls P 215 #[.slice (some ⟨f,off,none⟩) d.size cap,.int .i64 a,.int .i64 m,.int .i64 b,.func (.func g) #[] cb] w fun e w'=>e=.returned (.tuple #[])/\∃d',Mrg (ltOf C) a m b d d'/\SWK enc k I f off d' w':=by
 have mixed:=L.mixed;have t0:=L.t0;have a0:=L.a0;have z0:=L.z0;have v0:=L.v0;have t3:=L.t3;have a3:=L.a3;have z3:=L.z3;have v3:=L.v3;have t4:=L.t4;have a4:=L.a4;have z4:=L.z4;have v4:=L.v4;have bl:=L.t53;have az:=L.a53;have bn:=L.z53;have bm:=L.v53;have au:=L.t156;have aq:=L.a156;have ay:=L.z156;have aw:=L.v156;have ar:=L.t131;have ap:=L.a131;have ax:=L.z131;have av:=L.v131;have aE:=L.aE;have zE:=L.zE;have F:=FF.fM;have HC:Aside _:=J;have S0:Aside (SWK enc k I f off d w):=S;clear S J;have be:(m:Int)-(a:Int)=1:=oq;have bd:a<m:=oq;have HM:Hid (m=a+1):=hm;clear hm L FF;go_enter F,ntmps215;go_wp2;go_loopg [10,11] (b-m) (fun kx s10 s11 wr=>∃(i j:Nat),s10=.int .i64 i/\s11=.int .i64 j/\m<=i/\i<=j/\j<=b/\j-i<=kx/\Aside (SWK enc k I f off d wr)/\Hid (i=m\/ltOf C d[i-1]! d[a]! = true)/\Hid (j=b\/ltOf C d[j]! d[a]! = false))
 case atStart=>exact⟨m,b,rfl,rfl,Zc _,oq,Zc _,Zc _,S0,.inl rfl,.inl rfl⟩
 clear S0;obtain⟨i,j,rfl,rfl,h1,h2,h3,h4,D,HI,HJ⟩:=hrel;by_cases Y:i<j
 .have y:(i:Int)<(j:Int):=oq
  cases hL:ltOf C d[(i+j)/2]! d[a]! with
  | true =>
   have ae:(((i:Int)+(j:Int))/2).toNat=(i+j)/2:=oq;have al:(0:Int)<=((i:Int)+(j:Int))/2:=oq;have ac:((i:Int)+(j:Int))/2<(d.size:Int):=oq;have an:IntKind.i64.wrap (((i:Int)+(j:Int))/2)=((i:Int)+(j:Int))/2:=by rw[Zs];omega
   have af:((a:Int)).toNat=a:=oq;have am:(0:Int)<=(a:Int):=oq;have bc1:(a:Int)<(d.size:Int):=oq;have ao:IntKind.i64.wrap ((a:Int))=(a:Int):=by rw[Zs];omega
   obtain⟨U,v⟩:=ey (d[(i+j)/2]!);obtain⟨V,x⟩:=ey (d[a]!);have G:=D.o.ld R oq P ((i+j)/2) oq;have H:=D.o.ld R oq P (a) oq;rw[<-v] at G;rw[<-x] at H;have E:=D.o.cmp HC.o oq U V;have O:C U V<0:=by rw[v,x];exact Yk (hL)
   have ag:decide (C U V<0)=true:=Z1 O;clear v x;go_wp2_with fail;go_quiet_grown (first|(go_at_fn g;refine Calls.grown_of (E _ _)));have A:Aside (SWK enc k I f off d (grow (wr.drewN nq) osq)):=D.o.grown nq osq;clear G H E D;generalize grow (wr.drewN nq) osq=w2 at A ⊢;clear nq osq;have HL:Hid (ltOf C d[(i+j)/2]! d[a]! = true):=hL;clear hL;go_wp2_with fail;go_roundg (j-((i+j)/2+1))
   case measure=>omega
   exact⟨(i+j)/2+1,j,by rw[show((i:Int)+(j:Int))/2+1=(((i+j)/2+1:Nat):Int) by omega],rfl,oq,oq,h3,Zc _,A,.inr (by rw[Nat.add_sub_cancel];exact HL.o),HJ⟩
  | false =>
   have ae:(((i:Int)+(j:Int))/2).toNat=(i+j)/2:=oq;have al:(0:Int)<=((i:Int)+(j:Int))/2:=oq;have ac:((i:Int)+(j:Int))/2<(d.size:Int):=oq;have an:IntKind.i64.wrap (((i:Int)+(j:Int))/2)=((i:Int)+(j:Int))/2:=by rw[Zs];omega
   have af:((a:Int)).toNat=a:=oq;have am:(0:Int)<=(a:Int):=oq;have bc1:(a:Int)<(d.size:Int):=oq;have ao:IntKind.i64.wrap ((a:Int))=(a:Int):=by rw[Zs];omega
   obtain⟨U,v⟩:=ey (d[(i+j)/2]!);obtain⟨V,x⟩:=ey (d[a]!);have G:=D.o.ld R oq P ((i+j)/2) oq;have H:=D.o.ld R oq P (a) oq;rw[<-v] at G;rw[<-x] at H;have E:=D.o.cmp HC.o oq U V;have O:¬C U V<0:=by rw[v,x];exact of_decide_eq_false (hL)
   have ag:decide (C U V<0)=false:=Z0 O;clear v x;go_wp2_with fail;go_quiet_grown (first|(go_at_fn g;refine Calls.grown_of (E _ _)));have A:Aside (SWK enc k I f off d (grow (wr.drewN nq) osq)):=D.o.grown nq osq;clear G H E D;generalize grow (wr.drewN nq) osq=w2 at A ⊢;clear nq osq;have HL:Hid (ltOf C d[(i+j)/2]! d[a]! = false):=hL;clear hL;go_wp2_with fail;go_roundg ((i+j)/2-i)
   case measure=>omega
   exact⟨i,(i+j)/2,rfl,by rw[show((i:Int)+(j:Int))/2=(((i+j)/2:Nat):Int) by omega],oq,oq,oq,Zc _,A,HI,.inr HL.o⟩
 have ah:i=j:=oq;subst ah;have y:¬(i:Int)<(i:Int):=oq;obtain⟨z,hz⟩:=ey (i-1);have wz:IntKind.i64.wrap ((i:Int)-1)=(z:Int):=by rw[Zs];omega
 have ai:a<=z/\z<b:=oq;have HZ:Hid (z+1=i):=by show _=_;omega
 clear hz Y y;go_wp2;go_loopg [13] (z-a) (fun kx s13 wr=>∃(u q:Nat),s13=.int .i64 u/\a<=u/\u<=z/\z-u<=kx/\Hid (u=a+q)/\Aside (SWK enc k I f off (shl d a q) wr))
 case atStart=>exact⟨a,0,rfl,Zc _,ai.1,Zc _,rfl,D⟩
 clear D;obtain⟨u,q,rfl,h5,h6,h7,HU,A⟩:=hrel;have X:(shl d a q).size=d.size:=VN d a q;by_cases Y:u<z
 .have y:(u:Int)<(z:Int):=oq;have HE:Hid (swp (shl d a q) u (u+1)=shl d a (q+1)):=by show _=_;rw[HU.o];rfl
  have bb:((u:Int)).toNat=u:=oq;have bh:(0:Int)<=(u:Int):=oq;have ba:(u:Int)<(d.size:Int):=oq;have bj:IntKind.i64.wrap ((u:Int))=(u:Int):=by rw[Zs];omega
  have bc:((u:Int)+1).toNat=u+1:=oq;have bi:(0:Int)<=(u:Int)+1:=oq;have bc2:(u:Int)+1<(d.size:Int):=oq;have bk:IntKind.i64.wrap ((u:Int)+1)=(u:Int)+1:=by rw[Zs];omega
  have S3:Aside (SWK enc k I f off (swp (shl d a q) (u) (u+1)) ((wr.drew.setCells f (off+(u)*k) (enc (shl d a q)[u+1]!)).setCells f (off+(u+1)*k) (enc (shl d a q)[u]!))):=A.o.swapped R (u) (u+1) oq oq;have Z:=A.o.ld1 R oq P (u) oq;have aa:=A.o.ld1 R oq P (u+1) oq;have ab:=A.o.st1 R oq P (u) oq (shl d a q)[u+1]!;have T:=A.o.st2 R oq P (u) (u+1) oq oq (shl d a q)[u+1]! (shl d a q)[u]!;have aj:(enc (shl d a q)[u]!).length=k:=R.hk _;have ak:(enc (shl d a q)[u+1]!).length=k:=R.hk _;generalize enc (shl d a q)[u]! = cI2 at S3 Z T aj;generalize enc (shl d a q)[u+1]! = cJ2 at S3 aa ab T ak;clear A;go_wp2_with fail;go_big_region_o;clear Z aa ab T;generalize (wr.drew.setCells f (off+(u)*k) cJ2).setCells f (off+(u+1)*k) cI2=w2 at S3 ⊢;have S4:Aside (SWK enc k I f off (shl d a (q+1)) w2):=by rw[<-HE.o];exact S3.o
  clear S3 HE X;go_wp2;go_roundg (z-(u+1))
  case measure=>omega
  exact⟨u+1,q+1,by go_num,oq,oq,Zc _,(by show _=_;have:=HU.o;omega),S4⟩
 have y:¬(u:Int)<(z:Int):=oq;have hq:a+q+1=i:=by have e1:=HU.o;have e2:=HZ.o;omega
 have M:Mrg (ltOf C) a m b d (shl d a q):=by
  rw[HM.o];exact ZeL hb oq h3 (by rw[<-HM.o];exact HI.o) HJ.o q hq
 have HF:Hid (Mrg (ltOf C) a m b d (shl d a q)):=M;clear M hq X;go_wp2
 (try simp only[Exit.inBlock,Exit.then])
 refine Zl (results_none rfl _ _ _) rfl ?_;exact⟨rfl,_,HF.o,A.o⟩
set_option maxRecDepth 1000000 in
theorem Zdu(L:JL P k)(FF:JF P)(enc:α->List Value)(A:α->α->Int)(g:Nat)(cb:Array Value)(f off cap a m b:Nat)(d0 d:Array α)(H w:World)
  (eg:∀args w,(callFunc g args).run P w=.ok (.enter g args) w)(I:CmpLays P g cb enc k A f off d0.size H)(R:RowK enc k H f off d0)(hs:d0.size=d.size)(S:SWK enc k H f off d w)(hb:b<=d.size)(bg:d.size<2305843009213693952)(bc:a<m)(ah:¬m=a+1)(hm:b=m+1) :
  Calls P 215 #[.slice (some ⟨f,off,none⟩) d.size cap,.int .i64 a,.int .i64 m,.int .i64 b,.func (.func g) #[] cb] w fun e w'=>e=.returned (.tuple #[])/\∃d',Mrg (ltOf A) a m b d d'/\SWK enc k H f off d' w':=by
 have mixed:=L.mixed;have t0:=L.t0;have a0:=L.a0;have z0:=L.z0;have v0:=L.v0;have t3:=L.t3;have a3:=L.a3;have z3:=L.z3;have v3:=L.v3;have t4:=L.t4;have a4:=L.a4;have z4:=L.z4;have v4:=L.v4;have bl:=L.t53;have ay:=L.a53;have bn:=L.z53;have bm:=L.v53;have ar:=L.t156;have ap:=L.a156;have ax:=L.z156;have av:=L.v156;have aq:=L.t131;have ao:=L.a131;have aw:=L.z131;have au:=L.v131;have aE:=L.aE;have zE:=L.zE;have F:=FF.fM;have HC:Aside _:=I;have S0:Aside (SWK enc k H f off d w):=S;clear S I;have bf:¬(m:Int)-(a:Int)=1:=oq;have hbz:(b:Int)-(m:Int)=1:=oq;have be:((m:Int)-(a:Int) == 1)=false:=by rw[ZZ];omega
 have bd:m<b:=oq;have HM:Hid (b=m+1):=hm;clear hm ah L FF;go_enter F,ntmps215;go_wp2;go_loopg [14,15] (m-a) (fun kx s14 s15 wr=>∃(i j:Nat),s14=.int .i64 i/\s15=.int .i64 j/\a<=i/\i<=j/\j<=m/\j-i<=kx/\Aside (SWK enc k H f off d wr)/\Hid (i=a\/ltOf A d[m]! d[i-1]! = false)/\Hid (j=m\/ltOf A d[m]! d[j]! = true))
 case atStart=>exact⟨a,m,rfl,rfl,Zc _,oq,Zc _,Zc _,S0,.inl rfl,.inl rfl⟩
 clear S0;obtain⟨i,j,rfl,rfl,h1,h2,h3,h4,C,HI,HJ⟩:=hrel;by_cases X:i<j
 .have y:(i:Int)<(j:Int):=oq
  cases hL:ltOf A d[m]! d[(i+j)/2]! with
  | false =>
   have ac:((m:Int)).toNat=m:=oq;have ak:(0:Int)<=(m:Int):=oq;have ab:(m:Int)<(d.size:Int):=oq;have am:IntKind.i64.wrap ((m:Int))=(m:Int):=by rw[Zs];omega
   have ae:(((i:Int)+(j:Int))/2).toNat=(i+j)/2:=oq;have al:(0:Int)<=((i:Int)+(j:Int))/2:=oq;have bc1:((i:Int)+(j:Int))/2<(d.size:Int):=oq;have an:IntKind.i64.wrap (((i:Int)+(j:Int))/2)=((i:Int)+(j:Int))/2:=by rw[Zs];omega
   obtain⟨T,v⟩:=ey (d[m]!);obtain⟨U,x⟩:=ey (d[(i+j)/2]!);have E:=C.o.ld R oq P (m) oq;have G:=C.o.ld R oq P ((i+j)/2) oq;rw[<-v] at E;rw[<-x] at G;have D:=C.o.cmp HC.o oq T U;have M:¬A T U<0:=by rw[v,x];exact of_decide_eq_false (hL)
   have af:decide (A T U<0)=false:=Z0 M;clear v x;go_wp2_with fail;go_quiet_grown (first|(go_at_fn g;refine Calls.grown_of (D _ _)));have z:Aside (SWK enc k H f off d (grow (wr.drewN nq) osq)):=C.o.grown nq osq;clear E G D C;generalize grow (wr.drewN nq) osq=w2 at z ⊢;clear nq osq;have HL:Hid (ltOf A d[m]! d[(i+j)/2]! = false):=hL;clear hL;go_wp2_with fail;go_roundg (j-((i+j)/2+1))
   case measure=>omega
   exact⟨(i+j)/2+1,j,by rw[show((i:Int)+(j:Int))/2+1=(((i+j)/2+1:Nat):Int) by omega],rfl,oq,oq,h3,Zc _,z,.inr (by rw[Nat.add_sub_cancel];exact HL.o),HJ⟩
  | true =>
   have ac:((m:Int)).toNat=m:=oq;have ak:(0:Int)<=(m:Int):=oq;have ab:(m:Int)<(d.size:Int):=oq;have am:IntKind.i64.wrap ((m:Int))=(m:Int):=by rw[Zs];omega
   have ae:(((i:Int)+(j:Int))/2).toNat=(i+j)/2:=oq;have al:(0:Int)<=((i:Int)+(j:Int))/2:=oq;have bc1:((i:Int)+(j:Int))/2<(d.size:Int):=oq;have an:IntKind.i64.wrap (((i:Int)+(j:Int))/2)=((i:Int)+(j:Int))/2:=by rw[Zs];omega
   obtain⟨T,v⟩:=ey (d[m]!);obtain⟨U,x⟩:=ey (d[(i+j)/2]!);have E:=C.o.ld R oq P (m) oq;have G:=C.o.ld R oq P ((i+j)/2) oq;rw[<-v] at E;rw[<-x] at G;have D:=C.o.cmp HC.o oq T U;have M:A T U<0:=by rw[v,x];exact Yk (hL)
   have af:decide (A T U<0)=true:=Z1 M;clear v x;go_wp2_with fail;go_quiet_grown (first|(go_at_fn g;refine Calls.grown_of (D _ _)));have z:Aside (SWK enc k H f off d (grow (wr.drewN nq) osq)):=C.o.grown nq osq;clear E G D C;generalize grow (wr.drewN nq) osq=w2 at z ⊢;clear nq osq;have HL:Hid (ltOf A d[m]! d[(i+j)/2]! = true):=hL;clear hL;go_wp2_with fail;go_roundg ((i+j)/2-i)
   case measure=>omega
   exact⟨i,(i+j)/2,rfl,by rw[show((i:Int)+(j:Int))/2=(((i+j)/2:Nat):Int) by omega],oq,oq,oq,Zc _,z,HI,.inr HL.o⟩
 have ag:i=j:=oq;subst ag;have y:¬(i:Int)<(i:Int):=oq;clear X y;go_wp2;go_loopg [17] (m-i) (fun kx s17 wr=>∃(u q:Nat),s17=.int .i64 u/\i<=u/\u<=m/\u-i<=kx/\Hid (u+q=m)/\Aside (SWK enc k H f off (shr d m q) wr))
 case atStart=>exact⟨m,0,rfl,h3,Zc _,Zc _,rfl,C⟩
 clear C;obtain⟨u,q,rfl,h5,h6,h7,HU,z⟩:=hrel;have V:(shr d m q).size=d.size:=VO d m q;by_cases X:i<u
 .have y:(i:Int)<(u:Int):=oq;have HE:Hid (swp (shr d m q) u (u-1)=shr d m (q+1)):=by
   show _=_;have e1:m-q=u:=by have:=HU.o;omega
   rw[shr,e1]
  have ba:((u:Int)).toNat=u:=oq;have bh:(0:Int)<=(u:Int):=oq;have az:(u:Int)<(d.size:Int):=oq;have bj:IntKind.i64.wrap ((u:Int))=(u:Int):=by rw[Zs];omega
  have bb:((u:Int)-1).toNat=u-1:=oq;have bi:(0:Int)<=(u:Int)-1:=oq;have bc2:(u:Int)-1<(d.size:Int):=oq;have bk:IntKind.i64.wrap ((u:Int)-1)=(u:Int)-1:=by rw[Zs];omega
  have S3:Aside (SWK enc k H f off (swp (shr d m q) (u) (u-1)) ((wr.drew.setCells f (off+(u)*k) (enc (shr d m q)[u-1]!)).setCells f (off+(u-1)*k) (enc (shr d m q)[u]!))):=z.o.swapped R (u) (u-1) oq oq;have Y:=z.o.ld1 R oq P (u) oq;have Z:=z.o.ld1 R oq P (u-1) oq;have aa:=z.o.st1 R oq P (u) oq (shr d m q)[u-1]!;have O:=z.o.st2 R oq P (u) (u-1) oq oq (shr d m q)[u-1]! (shr d m q)[u]!;have ai:(enc (shr d m q)[u]!).length=k:=R.hk _;have aj:(enc (shr d m q)[u-1]!).length=k:=R.hk _;generalize enc (shr d m q)[u]! = cI2 at S3 Y O ai;generalize enc (shr d m q)[u-1]! = cJ2 at S3 Z aa O aj;clear z;go_wp2_with fail;go_big_region_o;clear Y Z aa O;generalize (wr.drew.setCells f (off+(u)*k) cJ2).setCells f (off+(u-1)*k) cI2=w2 at S3 ⊢;have S4:Aside (SWK enc k H f off (shr d m (q+1)) w2):=by rw[<-HE.o];exact S3.o
  clear S3 HE V;go_wp2;go_roundg (u-1-i)
  case measure=>omega
  exact⟨u-1,q+1,by rw[show(u:Int)-1=((u-1:Nat):Int) by omega],oq,oq,Zc _,(by show _=_;have:=HU.o;omega),S4⟩
 have y:¬(i:Int)<(u:Int):=oq;have hq:i+q=m:=by have e1:=HU.o;omega
 have J:Mrg (ltOf A) a m b d (shr d m q):=by
  rw[HM.o];exact ZeM (by have:=HM.o;omega) h1 h3 HI.o HJ.o q hq
 have HF:Hid (Mrg (ltOf A) a m b d (shr d m q)):=J;clear J hq V;go_wp2
 (try simp only[Exit.inBlock,Exit.then])
 refine Zl (results_none rfl _ _ _) rfl ?_;exact⟨rfl,_,HF.o,z.o⟩
end
section
variable {α:Type} [Inhabited α]
theorem EM(lt:α->α->Bool){a m b:Nat}(d:Array α)(h:a=m\/m=b):Mrg lt a m b d d :=
 ⟨permIn_refl _ _ _,fun R ht hL hR hC=>by
  rcases h with h|h
  .subst h;exact hR
  subst h;exact hL⟩
structure Hv (lt:α->α->Bool) (a m b mid st e:Nat) (d:Array α):Prop where
 ha:a<=st
 hm:st<=m
 he:m<=e
 hb:e<=b
 hd:mid=st+(e-m)
 ho:st=a\/e=b\/lt d[e]! d[st-1]! = false
 hn:st=m\/e=m\/lt d[e-1]! d[st]! = true
end
section
variable {P:Program} {α:Type} [Inhabited α] {k:Nat}
set_option maxRecDepth 1000000 in
theorem Zdv(L:JL P k)(FF:JF P)(enc:α->List Value)(I:α->α->Int)(g:Nat)(cb:Array Value)(v off cap a m b:Nat)(d0 d:Array α)(H w:World)
  (eg:∀args w,(callFunc g args).run P w=.ok (.enter g args) w)(ah:CmpLays P g cb enc k I v off d0.size H)(R:RowK enc k H v off d0)(hs:d0.size=d.size)(S:SWK enc k H v off d w)(hb:b<=d.size)(bi:d.size<2305843009213693952)(ca:a<m)(ce:¬m=a+1)(cg:m<b)(cc:¬b=m+1)
  (ao:∀(a' m' b':Nat)(dk:Array α)(W:World),b'-a'<b-a->dk.size=d.size->SWK enc k H v off dk W->a'<m'->m'<b'->b'<=d.size ->
   Calls P 215 #[.slice (some ⟨v,off,none⟩) d.size cap,.int .i64 a',.int .i64 m',.int .i64 b',.func (.func g) #[] cb] W fun e w'=>e=.returned (.tuple #[])/\∃d',Mrg (ltOf I) a' m' b' dk d'/\SWK enc k H v off d' w') :
  Calls P 215 #[.slice (some ⟨v,off,none⟩) d.size cap,.int .i64 a,.int .i64 m,.int .i64 b,.func (.func g) #[] cb] w fun e w'=>e=.returned (.tuple #[])/\∃d',Mrg (ltOf I) a m b d d'/\SWK enc k H v off d' w':=by
 have mixed:=L.mixed;have t0:=L.t0;have a0:=L.a0;have z0:=L.z0;have v0:=L.v0;have t3:=L.t3;have a3:=L.a3;have z3:=L.z3;have v3:=L.v3;have t4:=L.t4;have a4:=L.a4;have z4:=L.z4;have v4:=L.v4;have ck:=L.t53;have bz:=L.a53;have cn:=L.z53;have cl:=L.v53;have bs:=L.t156;have bp:=L.a156;have bx:=L.z156;have bu:=L.v156;have br:=L.t131;have bo:=L.a131;have bw:=L.z131;have bt:=L.v131;have aE:=L.aE;have zE:=L.zE;have F:=FF.fM;have HC:Aside _:=ah;have S0:Aside (SWK enc k H v off d w):=S;clear S ah;have cj:¬(m:Int)-(a:Int)=1:=oq;have hbz:¬(b:Int)-(m:Int)=1:=oq;have ci:((m:Int)-(a:Int) == 1)=false:=by rw[ZZ];omega
 have cd:((b:Int)-(m:Int) == 1)=false:=by rw[ZZ];omega
 have HI:=hid ao;have HR:=hid (fun(x y z:Nat) (W:World) (h1:x<y) (h2:y<z) (h3:z<=d.size) (h4:SWK enc k H v off d W)=>uN L FF enc (.func (.func g) #[] cb) v off cap x y z d0 d H W R hs h4 h1 h2 h3 bi);have eR:=FF.eR;have eM:=FF.eM;obtain⟨j,ar⟩:=ey ((a+b)/2);have bv:((a:Int)+(b:Int))/2=(j:Int):=oq;obtain⟨n,hn⟩:=ey (j+m);have wn:IntKind.i64.wrap ((j:Int)+(m:Int))=(n:Int):=by rw[Zs];omega
 have bn:(j:Int)+(m:Int)=(n:Int):=oq;have q1:2*j<=a+b/\a+b<=2*j+1:=oq;have HN:Hid (n=j+m):=hn;clear ar hn ao L FF;go_enter F,ntmps215;go_upto_if 140 with fail
 go_cut [20,21] (fun s20 s21 W=>Hid (W=w/\∃f r:Nat,s20=.int .i64 f/\s21=.int .i64 r/\a<=f/\f<=r/\r<=m/\r<=j/\n<=f+b/\(f=a\/n=f+b)/\(r=m\/r=j)))
 case first =>
  have hn:=HN.o;by_cases hc:j<m
  .have be:(j:Int)<(m:Int):=oq;obtain⟨f,am⟩:=ey (n-b);have cm:IntKind.i64.wrap ((n:Int)-(b:Int))=(f:Int):=by rw[Zs];omega
   have g1:a<=f/\f<=j/\j<=m/\n=f+b:=oq;clear am hn;go_wp2_with fail;go_meet;exact⟨rfl,f,j,rfl,rfl,g1.1,g1.2.1,g1.2.2.1,Zc _,oq,.inr g1.2.2.2,.inr rfl⟩
  have be:¬(j:Int)<(m:Int):=oq;have g1:m<=j/\n<=a+b:=oq;clear hn;go_wp2_with fail;go_meet;exact⟨rfl,a,m,rfl,rfl,Zc _,oq,Zc _,g1.1,g1.2,.inl rfl,.inl rfl⟩
 obtain⟨ac,V,r0,rfl,rfl,g1,g2,g3,g4,g5,g6,g7⟩:=hcut.o;clear hcut;subst ac;obtain⟨W1,rfl⟩:=ey wc;obtain⟨p,hp⟩:=ey (n-1);have hn:=HN.o;have wp:IntKind.i64.wrap ((n:Int)-1)=(p:Int):=by rw[Zs];omega
 have C:p+1=n:=oq;have Z:Hid (p+1=n/\n=j+m):=⟨C,hn⟩;clear hp hn C;have G6:Hid (V=a\/n=V+b\/ltOf I d[n-V]! d[V-1]! = false):=g6.elim .inl (fun h=>.inr (.inl h));have G7:Hid (r0=m\/r0=j\/ltOf I d[n-1-r0]! d[r0]! = true):=g7.elim .inl (fun h=>.inr (.inl h));clear g6 g7;go_wp2;go_loopg [20,21] (r0-V) (fun kx s20 s21 wr=>∃(f r:Nat),s20=.int .i64 f/\s21=.int .i64 r/\a<=f/\f<=r/\r<=m/\r<=j/\n<=f+b/\r-f<=kx/\Aside (SWK enc k H v off d wr)/\Hid (f=a\/n=f+b\/ltOf I d[n-f]! d[f-1]! = false)/\Hid (r=m\/r=j\/ltOf I d[n-1-r]! d[r]! = true))
 case atStart=>exact⟨V,r0,rfl,rfl,g1,g2,g3,g4,g5,Zc _,S0,G6,G7⟩
 clear S0 G6 G7 g1 g2 g3 g4 g5;obtain⟨f,r,rfl,rfl,h1,h2,h3,h4,h5,h6,U,HO,HE⟩:=hrel;by_cases bg:f<r
 .have ai:(f:Int)<(r:Int):=oq;have C:=Z.o;obtain⟨E,M⟩:=ey (p-(f+r)/2);have ax:IntKind.i64.wrap ((p:Int)-((f:Int)+(r:Int))/2)=(E:Int):=by rw[Zs];omega
  have aj:(p:Int)-((f:Int)+(r:Int))/2=(E:Int):=oq;have ap:Hid (E=p-(f+r)/2):=M
  cases hL:ltOf I d[E]! d[(f+r)/2]! with
  | false =>
   have bc:((E:Int)).toNat=E:=oq;have bj:(0:Int)<=(E:Int):=oq;have bb:(E:Int)<(d.size:Int):=oq;have bl:IntKind.i64.wrap ((E:Int))=(E:Int):=by rw[Zs];omega
   have bd:(((f:Int)+(r:Int))/2).toNat=(f+r)/2:=oq;have bk:(0:Int)<=((f:Int)+(r:Int))/2:=oq;have bc1:((f:Int)+(r:Int))/2<(d.size:Int):=oq;have bm:IntKind.i64.wrap (((f:Int)+(r:Int))/2)=((f:Int)+(r:Int))/2:=by rw[Zs];omega
   obtain⟨x1,O⟩:=ey (d[E]!);obtain⟨G,T⟩:=ey (d[(f+r)/2]!);have ae:=U.o.ld R oq P (E) oq;have af:=U.o.ld R oq P ((f+r)/2) oq;rw[<-O] at ae;rw[<-T] at af;have aa:=U.o.cmp HC.o oq x1 G;have an:¬I x1 G<0:=by rw[O,T];exact of_decide_eq_false (hL)
   have bf:decide (I x1 G<0)=false:=Z0 an;clear O T C M;go_wp2_with fail;go_quiet_grown (first|(go_at_fn g;refine Calls.grown_of (aa _ _)));have X:Aside (SWK enc k H v off d (grow (wr.drewN nq) osq)):=U.o.grown nq osq;clear ae af aa U;generalize grow (wr.drewN nq) osq=w2 at X ⊢;clear nq osq;have C:=Z.o;have M:=ap.o;have HL:Hid (ltOf I d[n-((f+r)/2+1)]! d[(f+r)/2]! = false):=by
    show _=_;rw[show n-((f+r)/2+1)=E by omega];exact hL
   have g8:n<=(f+r)/2+1+b:=oq;clear hL C M ax aj;go_wp2_with fail;go_roundg (r-((f+r)/2+1))
   case measure=>omega
   exact⟨(f+r)/2+1,r,by rw[show((f:Int)+(r:Int))/2+1=(((f+r)/2+1:Nat):Int) by omega],rfl,oq,oq,h3,h4,g8,Zc _,X,.inr (.inr (by rw[Nat.add_sub_cancel];exact HL.o)),HE⟩
  | true =>
   have bc:((E:Int)).toNat=E:=oq;have bj:(0:Int)<=(E:Int):=oq;have bb:(E:Int)<(d.size:Int):=oq;have bl:IntKind.i64.wrap ((E:Int))=(E:Int):=by rw[Zs];omega
   have bd:(((f:Int)+(r:Int))/2).toNat=(f+r)/2:=oq;have bk:(0:Int)<=((f:Int)+(r:Int))/2:=oq;have bc1:((f:Int)+(r:Int))/2<(d.size:Int):=oq;have bm:IntKind.i64.wrap (((f:Int)+(r:Int))/2)=((f:Int)+(r:Int))/2:=by rw[Zs];omega
   obtain⟨x1,O⟩:=ey (d[E]!);obtain⟨G,T⟩:=ey (d[(f+r)/2]!);have ae:=U.o.ld R oq P (E) oq;have af:=U.o.ld R oq P ((f+r)/2) oq;rw[<-O] at ae;rw[<-T] at af;have aa:=U.o.cmp HC.o oq x1 G;have an:I x1 G<0:=by rw[O,T];exact Yk (hL)
   have bf:decide (I x1 G<0)=true:=Z1 an;clear O T C M;go_wp2_with fail;go_quiet_grown (first|(go_at_fn g;refine Calls.grown_of (aa _ _)));have X:Aside (SWK enc k H v off d (grow (wr.drewN nq) osq)):=U.o.grown nq osq;clear ae af aa U;generalize grow (wr.drewN nq) osq=w2 at X ⊢;clear nq osq;have C:=Z.o;have M:=ap.o;have HL:Hid (ltOf I d[n-1-(f+r)/2]! d[(f+r)/2]! = true):=by
    show _=_;rw[show n-1-(f+r)/2=E by omega];exact hL
   clear hL C M ax aj;go_wp2_with fail;go_roundg ((f+r)/2-f)
   case measure=>omega
   exact⟨f,(f+r)/2,rfl,by rw[show((f:Int)+(r:Int))/2=(((f+r)/2:Nat):Int) by omega],h1,oq,oq,oq,h5,Zc _,X,HO,.inr (.inr HL.o)⟩
 have am:f=r:=oq;subst am;have ai:¬(f:Int)<(f:Int):=oq;have C:=Z.o;obtain⟨e,he⟩:=ey (n-f);have we:IntKind.i64.wrap ((n:Int)-(f:Int))=(e:Int):=by rw[Zs];omega
 have J:Hv (ltOf I) a m b j f e d:=by
  refine⟨h1,h3,oq,oq,oq,?_,?_⟩
  .rcases HO.o with h|h|h
   .exact .inl h
   .exact .inr (.inl oq)
   exact .inr (.inr (by rw[he];exact h))
  rcases HE.o with h|h|h
  .exact .inl h
  .exact .inr (.inl oq)
  exact .inr (.inr (by rw[he,show n-f-1=n-1-f by omega];exact h))
 have HV:=hid J;have g9:f<=j/\j<=e/\e<=b:=oq;clear he C J HO HE Z HN h2 h5 h6 bg ai wn bn wp;go_upto_region 39 with fail
 go_cut [185] from 185 to 185 (fun s185 W=>Hid (s185=.bool (decide (f<m)&&decide (m<e))/\W=wr))
 case first =>
  by_cases G:f<m
  .have z1:(f:Int)<(m:Int):=oq;by_cases y2:m<e
   .have z2:(m:Int)<(e:Int):=oq;go_wp2_with fail;go_meet;exact⟨by simp[G,y2],rfl⟩
   have z2:¬(m:Int)<(e:Int):=oq;go_wp2_with fail;go_meet;exact⟨by simp[G,y2],rfl⟩
  have z1:¬(f:Int)<(m:Int):=oq;go_wp2_with fail;go_meet;exact⟨by simp[G],rfl⟩
 obtain⟨rfl,ac⟩:=hcut.o;clear hcut;subst ac;obtain⟨W2,rfl⟩:=ey wc;generalize hb1:(decide (f<m)&&decide (m<e))=b1;have HB1:=hid hb1;clear hb1;go_upto_if 185 with fail
 go_cut [] from 186 to 191 (fun W=>Hid (∃d1,d1.size=d.size/\PermIn a b d d1/\(∀x,d1[x]! = if f<=x/\x<j then d[x+(m-f)]! else if j<=x/\x<e then d[x-(e-m)]! else d[x]!)/\SWK enc k H v off d1 W))
 case first =>
  have J:=HV.o
  cases b1 with
  | true =>
   have y:=HB1.o;rw[ZC,Yl,Yl] at y;have hc:=HR.o f m e W2 y.1 y.2 (by have:=J.hb;omega) U.o;have q:(Jb (e-f) d m (m-f) (e-m)).size=d.size/\PermIn a b d (Jb (e-f) d m (m-f) (e-m))/\(∀x,(Jb (e-f) d m (m-f) (e-m))[x]! = if f<=x/\x<j then d[x+(m-f)]! else if j<=x/\x<e then d[x-(e-m)]! else d[x]!):=by
    refine⟨ZaP _ _ _ _ _,permIn_mono _ _ _ _ _ _ ?_ ?_ oq (ZaO (e-f) d m (m-f) (e-m) oq (by have:=J.hb;omega)),fun x=>?_⟩
    .have:=J.ha;omega
    .have:=J.hb;omega
    rw[Zdc (e-f) d m (m-f) (e-m) oq oq oq oq (by have:=J.hb;omega),show m-(m-f)=f by omega,show f+(e-m)=j by have:=J.hd;omega,show m+(e-m)=e by omega]
   have A:=hid q;clear q J y U;go_wp2_with (go_at_fn 242;refine hc.mono ?_;rintro e' w1 ⟨rfl,D⟩;have X:Aside (SWK enc k H v off _ w1):=D;clear D);go_meet;exact⟨_,A.o.1,A.o.2.1,A.o.2.2,X.o⟩
  | false =>
   have y:=HB1.o;have q:(∀x,d[x]! = if f<=x/\x<j then d[x+(m-f)]! else if j<=x/\x<e then d[x-(e-m)]! else d[x]!):=by
    have ch:f=m\/m=e:=by
     have k1:=J.hm;have k2:=J.he;by_cases G:f<m
     .by_cases y2:m<e
      .simp[G,y2] at y
      omega
     omega
    have hd:=J.hd;intro x;by_cases k3:f<=x/\x<j
    .rw[Z3 k3];exact gx d oq
    rw[Z2 k3];by_cases k4:j<=x/\x<e
    .rw[Z3 k4];exact gx d oq
    rw[Z2 k4]
   have A:=hid q;clear q J y;go_wp2_with fail;go_meet;exact⟨d,rfl,permIn_refl _ _ _,A.o,U.o⟩
 obtain⟨d1,al,au,av,D⟩:=hcut.o;have X:Aside (SWK enc k H v off d1 wc):=D;have az:=hid au;have ba:=hid av;clear hcut au av D U HB1;obtain⟨W3,rfl⟩:=ey wc;go_upto_region 41 with fail
 go_cut [199] from 199 to 199 (fun s199 W=>Hid (s199=.bool (decide (a<f)&&decide (f<j))/\W=W3))
 case first =>
  by_cases G:a<f
  .have z1:(a:Int)<(f:Int):=oq;by_cases y2:f<j
   .have z2:(f:Int)<(j:Int):=oq;go_wp2_with fail;go_meet;exact⟨by simp[G,y2],rfl⟩
   have z2:¬(f:Int)<(j:Int):=oq;go_wp2_with fail;go_meet;exact⟨by simp[G,y2],rfl⟩
  have z1:¬(a:Int)<(f:Int):=oq;go_wp2_with fail;go_meet;exact⟨by simp[G],rfl⟩
 obtain⟨rfl,ac⟩:=hcut.o;clear hcut;subst ac;obtain⟨W4,rfl⟩:=ey wc;generalize hb1:(decide (a<f)&&decide (f<j))=b1;have HB1:=hid hb1;clear hb1;go_upto_if 199 with fail
 go_cut [] from 200 to 205 (fun W=>Hid (∃Y,Y.size=d.size/\Mrg (ltOf I) a f j d1 Y/\SWK enc k H v off Y W))
 case first =>
  cases b1 with
  | true =>
   have y:=HB1.o;rw[ZC,Yl,Yl] at y;have hc:=HI.o a f j d1 W4 oq al X.o y.1 y.2 oq;clear y X;go_wp2_with (go_at_fn 215;refine hc.mono ?_;rintro e' w1 ⟨rfl,Y,ab,D⟩;have ag:=hid ab;have S3:Aside (SWK enc k H v off Y w1):=D;clear D ab);go_meet;exact⟨Y,ag.o.1.1.trans al,ag.o,S3.o⟩
  | false =>
   have y:=HB1.o;have J:=HV.o;have q:a=f\/f=j:=by
    have k1:=J.ha;by_cases G:a<f
    .by_cases y2:f<j
     .simp[G,y2] at y
     omega
    omega
   have A:=hid q;clear q J y;go_wp2_with fail;go_meet;exact⟨d1,al,EM _ _ A.o,X.o⟩
 obtain⟨Y,bh,ab,aw⟩:=hcut.o;have S3:Aside (SWK enc k H v off Y wc):=aw;have ag:=hid ab;clear hcut ab aw X HB1;obtain⟨W5,rfl⟩:=ey wc;have ak:=hid (fun(d3:Array α) (h:Mrg (ltOf I) j e b Y d3)=>xd (n:=0) HV.o.ha HV.o.hm HV.o.he HV.o.hb hb HV.o.hd HV.o.ho HV.o.hn ba.o az.o ag.o h);by_cases G:j<e
 .have z1:(j:Int)<(e:Int):=oq;by_cases y2:e<b
  .have z2:(e:Int)<(b:Int):=oq;have hc:=HI.o j e b Y W5 oq bh S3.o G y2 hb;clear S3;go_wp2_with (go_at_fn 215;refine hc.mono ?_;rintro e' w1 ⟨rfl,d3,aq,D⟩;have ay:=hid aq;have S4:Aside (SWK enc k H v off d3 w1):=D;clear D aq);go_end0;exact⟨rfl,d3,ak.o _ ay.o,S4.o⟩
  have z2:¬(e:Int)<(b:Int):=oq;have q:j=e\/e=b:=oq;have A:=hid q;clear q;go_wp2_with fail;go_end0;exact⟨rfl,Y,ak.o _ (EM _ _ A.o),S3.o⟩
 have z1:¬(j:Int)<(e:Int):=oq;have q:j=e\/e=b:=oq;have A:=hid q;clear q;go_wp2_with fail;go_end0;exact⟨rfl,Y,ak.o _ (EM _ _ A.o),S3.o⟩
theorem ZeY(L:JL P k)(C:JF P)(enc:α->List Value)(y:α->α->Int)(g:Nat)(x:Array Value)(f off cap:Nat)(q:Array α)(v:World)(D:∀args w,(callFunc g args).run P w=.ok (.enter g args) w)(j:CmpLays P g x enc k y f off q.size v)(R:RowK enc k v f off q)(H:q.size<2305843009213693952) :
  ∀(N a m b:Nat)(d:Array α)(w:World),b-a<N->q.size=d.size->SWK enc k v f off d w->a<m->m<b->b<=d.size ->
  Calls P 215 #[.slice (some ⟨f,off,none⟩) d.size cap,.int .i64 a,.int .i64 m,.int .i64 b,.func (.func g) #[] x] w fun e w'=>e=.returned (.tuple #[])/\∃d',Mrg (ltOf y) a m b d d'/\SWK enc k v f off d' w':=by
 intro N
 induction N with
 | zero=>intro a m b d w h;omega
 | succ N ih =>
  intro a m b d w I F S z A hb;by_cases E:m=a+1
  .exact ZeZ L C enc y g x f off cap a m b q d v w D j R F S hb oq E A
  by_cases G:b=m+1
  .exact Zdu L C enc y g x f off cap a m b q d v w D j R F S hb oq z E G
  refine Zdv L C enc y g x f off cap a m b q d v w D j R F S hb oq z E A G fun a' m' b' dk W h3 h4 h5 h6 h7 h8=>?_
  have:=ih a' m' b' dk W oq oq h5 h6 h7 oq;rw[h4] at this;exact this
end
def Zgk:Ren:=⟨fun x=>if x=20 then 214 else x,fun x=>if x=24 then 128 else if x=22 then 59 else if x=25 then 209 else if x=3 then 3 else if x=4 then 4 else x,fun x=>x⟩
section
variable {P:Program} {α:Type} [Inhabited α] {k:Nat}
theorem Zau(FF : JF P) : Bears P (Zgk.f 20) (SlBodyF.n20 Zgk) := ⟨"slices.insertionSortCmpFunc[horarium/deadline.Job]", by kernel_rfl, FF.fI⟩
theorem Zcl(L:JL P k)(FF:JF P):SlLaysF0.n20 P Zgk where
 mixed:=L.mixed
 f20:=Zau FF
 t0:=L.t0
 a0:=L.a0
 z0:=L.z0
 v0:=L.v0
 t3:=L.t3
 a3:=L.a3
 z3:=L.z3
 v3:=L.v3
 t4:=L.t4
 a4:=L.a4
 z4:=L.z4
 v4:=L.v4
 t22:=L.t53
 a22:=L.a53
 z22:=L.z53
 v22:=L.v53
 t25:=L.t156
 a25:=L.a156
 z25:=L.z156
 v25:=L.v156
theorem ZfL{enc:α->List Value}{C:α->α->Int}{g:Nat}{A:Array Value}{f off size:Nat}{z W:World}{d:Array α}(q:CmpLays P g A enc k C f off size z)(S:SWK enc k z f off d W)(j:f<z.1.size)(G:d.size=size):CmpLays P g A enc k C f off size W:=by
 intro m os D F x y;obtain⟨n,v,E⟩:=S.on j m D os oq;rw[E];exact q n v D F x y
theorem Zel(L:JL P k)(A:JF P)(enc:α->List Value)(q:α->α->Int)(g:Nat)(x:Array Value)(f off cap a b:Nat)(y d:Array α)(v w:World)
  (C:∀args w,(callFunc g args).run P w=.ok (.enter g args) w)(m:CmpLays P g x enc k q f off y.size v)(R:RowK enc k v f off y)(z:y.size=d.size)(S:SWK enc k v f off d w)(j:a<=b)(hb:b<=d.size)(D:d.size<2305843009213693952) :
  Calls P 214 #[.slice (some ⟨f,off,none⟩) d.size cap,.int .i64 a,.int .i64 b,.func (.func g) #[] x] w fun e w'=>e=.returned (.tuple #[])/\SWK enc k v f off (insertionSort (ltOf q) d a b) w':=by
 have h:=AnyQ.insertionSortCmpFunc (Zcl L A) k L.aE L.zE enc R.hk R.h1 q g x f off cap a b d w C (by rw[<-z];exact ZfL m S R.hblk z.symm) (S.holds R.hblk R.hH z.symm) (S.lt R.hblk) j hb oq;refine h.mono ?_;rintro e w' ⟨rfl,n,os,rfl⟩;exact⟨rfl,S.on R.hblk n _ os (Qx (ltOf q) d a b j hb).1.1⟩
end
section
variable {P:Program} {α:Type} [Inhabited α] {k:Nat}
def Ki(lt:α->α->Bool)(d d':Array α):Prop:=PermIn 0 d.size d d'/\∀R:α->α->Prop,(∀x y z,R x y->R y z->R x z)->(∀p q,p<q->q<d.size->Pr lt R d[p]! d[q]!)->Srt R 0 d.size d'
set_option maxRecDepth 1000000 in
theorem uX(L:JL P k)(FF:JF P)(enc:α->List Value)(A:α->α->Int)(g:Nat)(cb:Array Value)(m off cap:Nat)(d0 d:Array α)(G w:World)
  (eg:∀args w,(callFunc g args).run P w=.ok (.enter g args) w)(V:CmpLays P g cb enc k A m off d0.size G)(R:RowK enc k G m off d0)(hs:d0.size=d.size)(S:SWK enc k G m off d w)(ah:d.size<1152921504606846976) :
  Calls P 175 #[.slice (some ⟨m,off,none⟩) d.size cap,.int .i64 d.size,.func (.func g) #[] cb] w fun e w'=>e=.returned (.tuple #[])/\∃d',Ki (ltOf A) d d'/\SWK enc k G m off d' w':=by
 have mixed:=L.mixed;have t0:=L.t0;have a0:=L.a0;have z0:=L.z0;have v0:=L.v0;have t3:=L.t3;have a3:=L.a3;have z3:=L.z3;have v3:=L.v3;have t4:=L.t4;have a4:=L.a4;have z4:=L.z4;have v4:=L.v4;have ar:=L.t53;have ap:=L.a53;have aw:=L.z53;have au:=L.v53;have am:=L.t156;have ak:=L.a156;have ao:=L.z156;have an:=L.v156;have F:=FF.fB;have eI:=FF.eI;have eM:=FF.eM;obtain⟨n,hn⟩:=ey d.size;have HI:=hid (fun(f:Array α) (x y:Nat) (W:World) (h1:f.size=n) (h2:SWK enc k G m off f W) (h3:x<=y) (h4:y<=n)=>Zel L FF enc A g cb m off cap x y d0 f G W eg V R oq h2 h3 oq oq);have HM:=hid (fun(f:Array α) (x y z:Nat) (W:World) (h1:f.size=n) (h2:SWK enc k G m off f W) (h3:x<y) (h4:y<z) (h5:z<=n)=>ZeY L FF enc A g cb m off cap d0 G eg V R oq (z-x+1) x y z f W oq oq h2 h3 h4 oq);have S0:Aside (SWK enc k G m off d w):=S;have G0:Aside (Stg (ltOf A) n (Kp 1 20 (20*0)) d d):=Za9 _ _ _ _;have aq:n<1152921504606846976:=oq;have HN:Aside (n=d.size):=hn;have af:=hid (fun(f:Array α) (s t:Nat) (h:Stg (ltOf A) n (Kp s t 0) d f) (h2:n<=s)=>(show Ki (ltOf A) d f from by rw[hn] at h h2;exact h.all h2));rw[<-hn];clear V S hs R ah L FF hn;go_enter F,ntmps175;go_wp2;go_loopg [7,8] n (fun kx s7 s8 wr=>∃(u v c:Nat)(f:Array α),s7=.int .i64 u/\s8=.int .i64 v/\u<=n/\n-u<=kx/\v<=n+20/\Hid (u=20*c/\v=u+20)/\f.size=n/\Aside (SWK enc k G m off f wr)/\Aside (Stg (ltOf A) n (Kp 1 20 (20*c)) d f))
 case atStart=>exact⟨0,20,0,d,by go_num,by go_num,oq,oq,oq,⟨rfl,rfl⟩,HN.symm,S0,G0⟩
 clear S0 G0;obtain⟨u,v,c,f,rfl,rfl,h1,h2,h3,HU,q,Y,M⟩:=hrel;by_cases E:v<=n
 .have H:(v:Int)<=(n:Int):=oq;have C:=HU.o;have J:=HI.o f u v wr q Y.o oq E;rw[q] at J;have wv:IntKind.i64.wrap ((v:Int)+20)=((v+20:Nat):Int):=by rw[Zs];omega
  have hG:Stg (ltOf A) n (Kp 1 20 (20*(c+1))) d (insertionSort (ltOf A) f u v):=by
   have:=M.o.ins (b:=v) oq oq oq oq E (.inl oq);rw[show 20*(c+1)=v by omega,C.1];exact this
  have G2:Aside _:=hG;have X:(insertionSort (ltOf A) f u v).size=n:=(Qx (ltOf A) f u v oq oq).1.1.trans q;have g1:n-v<n-u/\v=20*(c+1):=oq;have I:Hid (n-v<n-u/\v=20*(c+1)):=g1;clear Y M hG C g1;go_wp2_with (go_at_fn 214;refine J.mono ?_;rintro e w1 ⟨rfl,D⟩;have S2:Aside (SWK enc k G m off _ w1):=D;clear D);go_roundg (n-v)
  case measure=>have:=I.o;omega
  exact⟨v,v+20,c+1,_,rfl,by go_num,E,Zc _,oq,⟨I.o.2,rfl⟩,X,S2,G2⟩
 have H:¬(v:Int)<=(n:Int):=oq;have C:=HU.o;have J:=HI.o f u n wr q Y.o h1 (Zc _);rw[q] at J;have hG:Stg (ltOf A) n (Kp 20 40 0) d (insertionSort (ltOf A) f u n):=by
  have:=M.o.ins (b:=n) oq oq oq oq (Zc _) (.inr rfl);rw[C.1];exact this.over
 have G2:Aside _:=hG;have X:(insertionSort (ltOf A) f u n).size=n:=(Qx (ltOf A) f u n h1 oq).1.1.trans q;clear Y M hG C HU;go_wp2_with (go_at_fn 214;refine J.mono ?_;rintro e w1 ⟨rfl,D⟩;have S2:Aside (SWK enc k G m off _ w1):=D;clear D);have ab:Hid (∃t,Stg (ltOf A) n (Kp 20 t 0) d (insertionSort (ltOf A) f u n)):=⟨40,G2⟩;clear J q h1 h2 h3 E H HI G2;generalize insertionSort (ltOf A) f u n=dk1 at S2 X ab;obtain⟨W1,rfl⟩:=ey w1;go_wp2;go_loopg [6] n (fun kx s6 wr=>∃(s:Nat)(f:Array α),s6=.int .i64 s/\0<s/\s<=2*n+40/\n-s<=kx/\f.size=n/\Aside (SWK enc k G m off f wr)/\Hid (∃t,Stg (ltOf A) n (Kp s t 0) d f))
 case atStart=>exact⟨20,dk1,by go_num,oq,oq,oq,X,S2,ab⟩
 clear S2 ab X;obtain⟨s,T,rfl,q1,q2,q3,ag,S3,G3⟩:=hrel;by_cases al:s<n
 .have ae:(s:Int)<(n:Int):=oq;obtain⟨t,ht⟩:=ey (s*2);have wt:IntKind.i64.wrap (2*(s:Int))=(t:Int):=by rw[Zs];omega
  have av:IntKind.i64.wrap ((s:Int)*2)=(t:Int):=by rw[Zs];omega
  have G4:Aside (Stg (ltOf A) n (Kp s (s*2) (s*2*0)) d T):=by
   obtain⟨t',h⟩:=G3.o;exact h.congr fun i j _ _=>by unfold Kp;rw[Nat.mul_zero,Z2 (Ym _),Z2 (Ym _)]
  have g1:s<t/\t<=2*n/\t<2305843009213693952:=oq;have HT:Hid (t=s*2):=ht;clear ht G3;go_wp2;go_loopg [7,8] n (fun ky s7 s8 wr=>∃(u v c:Nat)(f:Array α),s7=.int .i64 u/\s8=.int .i64 v/\u<=n/\n-u<=ky/\v<=n+t/\Hid (u=s*2*c/\v=u+t)/\f.size=n/\Aside (SWK enc k G m off f wr)/\Aside (Stg (ltOf A) n (Kp s (s*2) (s*2*c)) d f))
  case atStart=>exact⟨0,t,0,T,by go_num,rfl,oq,oq,oq,⟨rfl,oq⟩,ag,S3,G4⟩
  clear S3 G4;obtain⟨u,v,c,f,rfl,rfl,h1,h2,h3,HU,q,Y,M⟩:=hrel;have C:=HU.o;have ht:=HT.o;have hex:s*2*(c+1)=u+t:=by rw[Nat.mul_succ,<-C.1,ht]
  obtain⟨x,hx⟩:=ey (u+s);have wx:IntKind.i64.wrap ((u:Int)+(s:Int))=(x:Int):=by rw[Zs];omega
  by_cases E:v<=n
  .have H:(v:Int)<=(n:Int):=oq;have J:=HM.o f u x v wr q Y.o oq oq E;rw[q] at J;have wv:IntKind.i64.wrap ((v:Int)+(t:Int))=((v+t:Nat):Int):=by rw[Zs];omega
   have G5:=hid (fun(d':Array α) (U:Mrg (ltOf A) u x v f d')=>(show Aside (Stg (ltOf A) n (Kp s (s*2) (s*2*(c+1))) d d')/\d'.size=n from by
    have ac:Mrg (ltOf A) (s*2*c) (s*2*c+s) v f d':=by rw[<-C.1,<-hx];exact U
    have:=M.o.mrg q1 oq oq oq E (.inl oq) ac;rw[hex,<-C.2];exact⟨this,U.1.1.trans q⟩))
   have I:Hid (n-v<n-u/\v=s*2*(c+1)/\v+t<=n+t):=by show _/\_;omega
   clear Y M C ht hex hx;go_wp2_with (go_at_fn 215;refine J.mono ?_;rintro e w1 ⟨rfl,d',U,D⟩;have S2:Aside (SWK enc k G m off d' w1):=D;have O:=hid U;clear D U);go_roundg (n-v)
   case measure=>have:=I.o;omega
   exact⟨v,v+t,c+1,d',rfl,by go_num,E,Zc _,I.o.2.2,⟨I.o.2.1,rfl⟩,(G5.o d' O.o).2,S2,(G5.o d' O.o).1⟩
  have H:¬(v:Int)<=(n:Int):=oq;have g2:n-t<n-s/\t<=2*n+40:=oq;have Z:=hid g2;by_cases ai:x<n
  .have aj:(x:Int)<(n:Int):=oq;have J:=HM.o f u x n wr q Y.o oq ai (Zc _);rw[q] at J;have G5:=hid (fun(d':Array α) (U:Mrg (ltOf A) u x n f d')=>(show Hid (∃t',Stg (ltOf A) n (Kp t t' 0) d d')/\d'.size=n from by
    have ac:Mrg (ltOf A) (s*2*c) (s*2*c+s) n f d':=by rw[<-C.1,<-hx];exact U
    have:=M.o.mrg q1 oq oq oq (Zc _) (.inr rfl) ac;rw[ht];exact⟨⟨0,this.over⟩,U.1.1.trans q⟩))
   clear Y M C ht hex hx g2;go_wp2_with (go_at_fn 215;refine J.mono ?_;rintro e w1 ⟨rfl,d',U,D⟩;have S2:Aside (SWK enc k G m off d' w1):=D;have O:=hid U;clear D U);go_roundg (n-t)
   case measure=>have:=Z.o;omega
   exact⟨t,d',rfl,oq,Z.o.2,Zc _,(G5.o d' O.o).2,S2,(G5.o d' O.o).1⟩
  have aj:¬(x:Int)<(n:Int):=oq;have G5:Hid (∃t',Stg (ltOf A) n (Kp t t' 0) d f):=by
   have:=M.o.alone q1 oq;rw[ht];exact⟨0,this.over⟩
  clear M C ht hex hx g2;go_wp2_with fail;go_roundg (n-t)
  case measure=>have:=Z.o;omega
  exact⟨t,f,rfl,oq,Z.o.2,Zc _,q,Y,G5⟩
 have ae:¬(s:Int)<(n:Int):=oq;have aa:Ki (ltOf A) d T:=by
  obtain⟨t',h⟩:=G3.o;exact af.o T s t' h oq
 have HF:=hid aa;clear aa G3;go_wp2;go_end0;exact⟨rfl,T,HF.o,S3.o⟩
end
section
variable {P:Program} {α:Type} [Inhabited α] {k:Nat}
set_option maxRecDepth 1000000 in
theorem E7(L:JL P k)(m:JF P)(F:P.funcs[108]?=some Tryz.f108)(enc:α->List Value)(v:α->α->Int)(g:Nat)(q:Array Value)(f off cap:Nat)(d:Array α)(w:World)
  (A:∀args w,(callFunc g args).run P w=.ok (.enter g args) w)(j:CmpLays P g q enc k v f off d.size w)(R:RowK enc k w f off d)(x:d.size<1152921504606846976) :
  Calls P 108 #[.slice (some ⟨f,off,none⟩) d.size cap,.func (.func g) #[] q] w fun e w'=>e=.returned (.tuple #[])/\∃d',Ki (ltOf v) d d'/\SWK enc k w f off d' w':=by
 have mixed:=L.mixed;have V:=L.t0;have O:=L.a0;have z0:=L.z0;have Y:=L.v0;have X:=L.t3;have T:=L.a3;have z3:=L.z3;have Z:=L.v3;have I:=L.t53;have G:=L.a53;have M:=L.z53;have J:=L.v53;have C:=L.t156;have z:=L.a156;have E:=L.z156;have D:=L.v156;have U:=m.eB;have H:=uX L m enc v g q f off cap d d w w A j R rfl (SWK.start R.hH) x;clear j R L m A;go_enter F,ntmps108;go_wp2_with (go_at_fn 175;refine H.mono ?_;rintro e w1 ⟨rfl,y⟩);go_end0;exact⟨rfl,y⟩
end
structure YH where
 t:Int
 n:Int
 r:Int
 d:Int
 na:OA
 nl:Nat
 nc:Nat
instance:Inhabited YH:=⟨⟨0,0,0,0,none,0,0⟩⟩
def Qu(x:YH):List Value:=[.int .i64 x.t,.int .i64 x.n,.int .i64 x.r,.int .i64 x.d,.slice x.na x.nl x.nc]
def ZbN(x y:Int):Int:=if x<y then -1 else if y<x then 1 else 0
def cfJ(x y:YH):Int:=ZbN x.r y.r
theorem KH(x:Int)(w:World):Calls prog 165 #[.int .i64 x] w fun e w'=>e=.returned (.bool false)/\w'=w:=by
 go_enter func165,ntmps165;go_wp2;go_ret;exact⟨by simp,rfl⟩
theorem Gh(x y:Int)(w:World):Calls prog 93 #[.int .i64 x,.int .i64 y] w fun e w'=>e=.returned (.int .i64 (ZbN x y))/\w'=w:=by
 unfold ZbN;by_cases f:x<y
 .rw[Z3 f];go_enter func93,ntmps93;go_wp2_with (go_at_call 165;refine(KH _ _).mono ?_;rintro e w' ⟨rfl,rfl⟩);go_ret;exact⟨rfl,rfl⟩
 rw[Z2 f];by_cases g:y<x
 .rw[Z3 g];go_enter func93,ntmps93;go_wp2_with (go_at_call 165;refine(KH _ _).mono ?_;rintro e w' ⟨rfl,rfl⟩);go_ret;exact⟨rfl,rfl⟩
 rw[Z2 g];go_enter func93,ntmps93;go_wp2_with (go_at_call 165;refine(KH _ _).mono ?_;rintro e w' ⟨rfl,rfl⟩);go_ret;exact⟨rfl,rfl⟩
theorem ZbO(x y:YH)(w:World):Calls prog 109 #[.agg (Qu x).toArray,.agg (Qu y).toArray] w fun e w'=>e=.returned (.int .i64 (cfJ x y))/\∃q os',w'=grow (w.drewN q) os':=by
 obtain⟨c,g⟩:=ez (ZbN x.r y.r);have f:=hid (fun(W:World)=>Gh x.r y.r W);rw[g] at f;unfold cfJ;rw[g];clear g;unfold Qu;obtain⟨D,A,C,v,j,z,m⟩:=x;obtain⟨L,I,J,G,E,H,F⟩:=y;simp only at f ⊢;go_enter func109,ntmps109;go_wp2_with (go_at_call 93;refine(f.o _).mono ?_;rintro e w' ⟨rfl,rfl⟩);go_ret;refine⟨rfl,?_⟩;exact⟨0,#[_,_],by rw[alloc_eq_grow,alloc_eq_grow,grow_grow];rfl⟩
theorem Zab(blk off size:Nat)(w:World):CmpLays prog 109 #[] Qu 5 cfJ blk off size w:=fun m os dk _ x y=>ZbO x y _
theorem ZbV(x:YH):(Qu x).length=5:=rfl
theorem ZbW(x:YH):∀v∈Qu x,v.oneCell'=true:=by
 intro v f;simp only[Qu,ZS,List.not_mem_nil,or_false] at f;rcases f with rfl|rfl|rfl|rfl|rfl<;>rfl
theorem xC(blk off cap:Nat)(d:Array YH)(w:World)(hH:HoldsK Qu 5 w blk off d)(hblk:blk<w.1.size)(hsz:d.size<1152921504606846976) :
  Calls prog 108 #[.slice (some ⟨blk,off,none⟩) d.size cap,.func (.func 109) #[] #[]] w fun e w'=>e=.returned (.tuple #[])/\∃d',Ki (ltOf cfJ) d d'/\SWK Qu 5 w blk off d' w' :=
 E7 Zco Zav func108 Qu cfJ 109 #[] blk off cap d w (Go.Proofs.enters_of func109 kq rfl) (Zab _ _ _ _) ⟨ZbV,ZbW,hH,hblk⟩ hsz
