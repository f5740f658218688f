/-
  Parts of the proof: Smg, Smi, Stb1.
-/
import Derived.Deep.LoopGhost
import Derived.Shelf.SlSortCmp.KitK
import Derived.Sort.LotA
import Derived.Sort.WalkB12
import Derived.Sort.WalkB2
import Derived.Test.YtgigilkpndhddaaGreatDoorQ04
namespace Go.Proofs.YtgigilkpndhddaaGreatDoor.syn
set_option linter.unusedVariables false
set_option linter.unusedSimpArgs false
set_option linter.unnecessarySimpa false
set_option maxRecDepth 100000
set_option maxHeartbeats 16000000
open Go.Sort
section
variable {α:Type} [Inhabited α]
theorem gx (d:Array α) {x y:Nat} (h:x=y):d[x]! = d[y]!:=by rw[h]
def swr (d:Array α) (a b:Nat):Nat→Array α
 | 0=>d
 | n+1=>swp (swr d a b n) (a+n) (b+n)
theorem YY (d:Array α) (a b:Nat):∀n,(swr d a b n).size=d.size
 | 0=>rfl
 | n+1=>by rw[swr,swp_size,YY d a b n]
theorem Uq {d:Array α} {a b lo hi:Nat} (h1:lo≤a) (h2:lo≤b) (hh:hi≤d.size):∀n,a+n≤hi→b+n≤hi→PermIn lo hi d (swr d a b n)
 | 0,_,_=>permIn_refl _ _ _
 | n+1,h3,h4=>permIn_trans _ _ _ _ _ (Uq h1 h2 hh n (by omega) (by omega)) (swp_permIn _ _ _ _ _ (by omega) (by omega) (by omega) (by omega) (by rw[YY];exact hh))
theorem Ki (d:Array α) (a b:Nat):∀n,(a+n≤b∨b+n≤a)→a+n≤d.size→b+n≤d.size→∀k,(swr d a b n)[k]! = if a≤k∧k<a+n then d[k-a+b]! else if b≤k∧k<b+n then d[k-b+a]! else d[k]!
 | 0,_,_,_,k=>by rw[if_neg (by omega),if_neg (by omega)];rfl
 | n+1,hd,ha,hb,k=>by
  have ih:=Ki d a b n (by omega) (by omega) (by omega)
  rw[swr,swp_get _ (by rw[YY];omega) (by rw[YY];omega),ih (a+n),ih (b+n),ih k]
  rw[if_neg (show ¬(a≤a+n∧a+n<a+n) by omega),if_neg (show ¬(b≤a+n∧a+n<b+n) by omega),if_neg (show ¬(a≤b+n∧b+n<a+n) by omega),if_neg (show ¬(b≤b+n∧b+n<b+n) by omega)]
  by_cases h1:k=b+n
  ·rw[if_pos h1,if_neg (by omega),if_pos (by omega)]
   exact gx d (by omega)
  rw[if_neg h1]
  by_cases h2:k=a+n
  ·rw[if_pos h2,if_pos (by omega)]
   exact gx d (by omega)
  rw[if_neg h2]
  by_cases h3:a≤k∧k<a+n
  ·rw[if_pos h3,if_pos (by omega)]
  rw[if_neg h3]
  by_cases h4:b≤k∧k<b+n
  ·rw[if_pos h4,if_neg (show ¬(a≤k∧k<a+(n+1)) by omega),if_pos (by omega)]
  rw[if_neg h4,if_neg (show ¬(a≤k∧k<a+(n+1)) by omega),if_neg (by omega)]
def QQ:Nat→Array α→Nat→Nat→Nat→Array α
 | 0,d,_,_,_=>d
 | f+1,d,m,i,j=>if i=j then swr d (m-i) m i else if j<i then QQ f (swr d (m-i) m j) m (i-j) j else QQ f (swr d (m-i) (m+j-i) i) m i (j-i)
theorem uI:∀(f:Nat) (d:Array α) (m i j:Nat),(QQ f d m i j).size=d.size:=by
 intro f
 induction f with
 | zero=>intro d m i j;rfl
 | succ f ih =>
  intro d m i j
  rw[QQ]
  split
  ·exact YY _ _ _ _
  split
  ·rw[ih,YY]
  rw[ih,YY]
theorem ez:∀(f:Nat) (d:Array α) (m i j:Nat),i+j≤f→0<i→0<j→i≤m→m+j≤d.size→∀k,(QQ f d m i j)[k]! = if m-i≤k∧k<m-i+j then d[k+i]! else if m-i+j≤k∧k<m+j then d[k-j]! else d[k]!:=by
 intro f
 induction f with
 | zero=>intro d m i j h h0;omega
 | succ f ih =>
  intro d m i j h hi hj him hmj k
  rw[QQ]
  by_cases hij:i=j
  ·subst hij
   rw[if_pos rfl,Ki _ _ _ _ (by omega) (by omega) (by omega)]
   by_cases h1:m-i≤k∧k<m-i+i
   ·rw[if_pos h1,if_pos h1]
    exact gx d (by omega)
   rw[if_neg h1,if_neg h1]
   by_cases h2:m≤k∧k<m+i
   ·rw[if_pos h2,if_pos (by omega)]
    exact gx d (by omega)
   rw[if_neg h2,if_neg (by omega)]
  rw[if_neg hij]
  by_cases hlt:j<i
  ·rw[if_pos hlt,ih _ m (i-j) j (by omega) (by omega) hj (by omega) (by rw[YY];exact hmj)]
   simp only[Ki d (m-i) m j (by omega) (by omega) (by omega)]
   by_cases h1:m-(i-j)≤k∧k<m-(i-j)+j
   ·rw[if_pos h1]
    by_cases h2:m≤k+(i-j)∧k+(i-j)<m+j
    ·rw[if_neg (by omega),if_pos h2,if_neg (by omega),if_pos (by omega)]
     exact gx d (by omega)
    omega
   rw[if_neg h1]
   by_cases h2:m-(i-j)+j≤k∧k<m+j
   ·rw[if_pos h2,if_neg (by omega)]
    by_cases h3:m≤k-j∧k-j<m+j
    ·omega
    rw[if_neg h3,if_neg (by omega),if_pos (by omega)]
   rw[if_neg h2]
   by_cases h3:m-i≤k∧k<m-i+j
   ·rw[if_pos h3,if_pos (by omega)]
    exact gx d (by omega)
   rw[if_neg h3,if_neg (by omega),if_neg (by omega),if_neg (by omega)]
  rw[if_neg hlt,ih _ m i (j-i) (by omega) hi (by omega) him (by rw[YY];omega)]
  simp only[Ki d (m-i) (m+j-i) i (by omega) (by omega) (by omega)]
  by_cases h1:m-i≤k∧k<m-i+(j-i)
  ·rw[if_pos h1,if_pos (show m-i≤k∧k<m-i+j by omega),if_neg (by omega),if_neg (by omega)]
  rw[if_neg h1]
  by_cases h2:m-i+(j-i)≤k∧k<m+(j-i)
  ·rw[if_pos h2]
   by_cases h3:m-i≤k-(j-i)∧k-(j-i)<m-i+i
   ·rw[if_pos h3]
    by_cases h4:m-i≤k∧k<m-i+j
    ·rw[if_pos h4]
     exact gx d (by omega)
    omega
   omega
  rw[if_neg h2]
  by_cases h3:m-i≤k∧k<m-i+i
  ·omega
  rw[if_neg h3]
  by_cases h4:m+j-i≤k∧k<m+j-i+i
  ·rw[if_pos h4,if_neg (by omega),if_pos (by omega)]
   exact gx d (by omega)
  rw[if_neg h4,if_neg (by omega),if_neg (by omega)]
theorem uH:∀(f:Nat) (d:Array α) (m i j:Nat),i≤m→m+j≤d.size→PermIn (m-i) (m+j) d (QQ f d m i j):=by
 intro f
 induction f with
 | zero=>intro d m i j _ _;exact permIn_refl _ _ _
 | succ f ih =>
  intro d m i j him hmj
  rw[QQ]
  by_cases hij:i=j
  ·subst hij
   rw[if_pos rfl]
   exact Uq (by omega) (by omega) hmj _ (by omega) (by omega)
  rw[if_neg hij]
  by_cases hlt:j<i
  ·rw[if_pos hlt]
   have h1:=Uq (d:=d) (a:=m-i) (b:=m) (lo:=m-i) (hi:=m+j) (by omega) (by omega) hmj j (by omega) (by omega)
   have h2:=ih (swr d (m-i) m j) m (i-j) j (by omega) (by rw[YY];exact hmj)
   exact permIn_trans _ _ _ _ _ h1 (permIn_mono _ _ _ _ _ _ (by omega) (by omega) (by rw[YY];exact hmj) h2)
  rw[if_neg hlt]
  have h1:=Uq (d:=d) (a:=m-i) (b:=m+j-i) (lo:=m-i) (hi:=m+j) (by omega) (by omega) hmj i (by omega) (by omega)
  have h2:=ih (swr d (m-i) (m+j-i) i) m i (j-i) (by omega) (by rw[YY];omega)
  exact permIn_trans _ _ _ _ _ h1 (permIn_mono _ _ _ _ _ _ (by omega) (by omega) (by rw[YY];exact hmj) h2)
def Srt (R:α→α→Prop) (a b:Nat) (d:Array α):Prop:=∀i j,a≤i→i<j→j<b→R d[i]! d[j]!
def Crs (lt:α→α→Bool) (R:α→α→Prop) (a m b:Nat) (d:Array α):Prop:=∀i j,a≤i→i<m→m≤j→j<b→(lt d[j]! d[i]! = false→R d[i]! d[j]!)∧(lt d[j]! d[i]! = true→R d[j]! d[i]!)
def Mrg (lt:α→α→Bool) (a m b:Nat) (d d':Array α):Prop:=PermIn a b d d'∧∀R:α→α→Prop,(∀x y z,R x y→R y z→R x z)→Srt R a m d→Srt R m b d→Crs lt R a m b d→Srt R a b d'
theorem E9 {lt:α→α→Bool} {a m b start mid e n:Nat} {d d1 d2 d3:Array α} (ham:a≤start) (h1:start≤m) (h2:m≤e) (h3:e≤b) (hb:b≤d.size) (hmid:mid=start+(e-m))
  (ho:start=a∨e=b∨lt d[e]! d[start-1]! = false) (hn:start=m∨e=m∨lt d[e-1]! d[start]! = true)
  (hg:∀k,d1[k]! = if start≤k∧k<mid then d[k+(m-start)]! else if mid≤k∧k<e then d[k-(e-m)]! else d[k]!) (hp:PermIn a b d d1) (hA:Mrg lt a start mid d1 d2) (hB:Mrg lt mid e b d2 d3):Mrg lt a m b d d3:=by
 have hs1:d1.size=d.size:=hp.1
 have hs2:d2.size=d.size:=hA.1.1.trans hs1
 have q2:=permIn_mono _ _ a mid a b (Nat.le_refl _) (by omega) (by omega) hA.1
 have q3:=permIn_mono _ _ mid b a b (by omega) (Nat.le_refl _) (by omega) hB.1
 refine⟨permIn_trans _ _ _ _ _ (permIn_trans _ _ _ _ _ hp q2) q3,fun R ht hL hR hC=>?_⟩
 have g1:∀k,a≤k→k<start→d1[k]! = d[k]!:=fun k _ h=>by rw[hg,if_neg (by omega),if_neg (by omega)]
 have g2:∀k,start≤k→k<mid→d1[k]! = d[k+(m-start)]!:=fun k h h'=>by rw[hg,if_pos ⟨h,h'⟩]
 have g3:∀k,mid≤k→k<e→d1[k]! = d[k-(e-m)]!:=fun k h h'=>by rw[hg,if_neg (by omega),if_pos ⟨h,h'⟩]
 have g4:∀k,e≤k→d1[k]! = d[k]!:=fun k h=>by rw[hg,if_neg (by omega),if_neg (by omega)]
 -- left ahead of right,right ahead of left
 have hLR:∀x y,a≤x→x<start→e≤y→y<b→R d[x]! d[y]!:=by
  intro x y hx hx2 hy hy2
  rcases ho with ho|ho|ho
  ·omega
  ·omega
  have k1:=(hC (start-1) e (by omega) (by omega) h2 (by omega)).1 ho
  have k2:R d[x]! d[e]!:=by
   by_cases hxs:x=start-1
   ·rw[hxs];exact k1
   exact ht _ _ _ (hL x (start-1) hx (by omega) (by omega)) k1
  by_cases hye:y=e
  ·rw[hye];exact k2
  exact ht _ _ _ k2 (hR e y h2 (by omega) hy2)
 have hRL:∀y x,m≤y→y<e→start≤x→x<m→R d[y]! d[x]!:=by
  intro y x hy hy2 hx hx2
  rcases hn with hn|hn|hn
  ·omega
  ·omega
  have k1:=(hC start (e-1) ham (by omega) (by omega) (by omega)).2 hn
  have k2:R d[y]! d[start]!:=by
   by_cases hye:y=e-1
   ·rw[hye];exact k1
   exact ht _ _ _ (hR y (e-1) hy (by omega) (by omega)) k1
  by_cases hxs:x=start
  ·rw[hxs];exact k2
  exact ht _ _ _ k2 (hL start x ham (by omega) hx2)
 -- behind the rotation: all of the first half is ahead of all of the second one
 have hcut:∀i j,a≤i→i<mid→mid≤j→j<b→R d1[i]! d1[j]!:=by
  intro i j hi hi2 hj hj2
  by_cases h5:i<start
  ·rw[g1 i hi h5]
   by_cases h6:j<e
   ·rw[g3 j hj h6];exact hL _ _ hi (by omega) (by omega)
   rw[g4 j (by omega)];exact hLR _ _ hi h5 (by omega) hj2
  rw[g2 i (by omega) hi2]
  by_cases h6:j<e
  ·rw[g3 j hj h6];exact hRL _ _ (by omega) (by omega) (by omega) (by omega)
  rw[g4 j (by omega)];exact hR _ _ (by omega) (by omega) hj2
 have s1:=hA.2 R ht (fun i j hi hij hj=>by rw[g1 i hi (by omega),g1 j (by omega) hj];exact hL i j hi hij (by omega)) (fun i j hi hij hj=>by rw[g2 i hi (by omega),g2 j (by omega) hj];exact hR _ _ (by omega) (by omega) (by omega))
  (fun i j hi hi2 hj hj2=>by rw[g1 i hi hi2,g2 j hj hj2];exact hC _ _ hi (by omega) (by omega) (by omega))
 have e2:∀k,mid≤k→d2[k]! = d1[k]!:=fun k h=>hA.1.2.1 k (.inr h)
 have e3:∀k,k<mid→d3[k]! = d2[k]!:=fun k h=>hB.1.2.1 k (.inl h)
 have s2:=hB.2 R ht (fun i j hi hij hj=>by rw[e2 i hi,e2 j (by omega),g3 i hi (by omega),g3 j (by omega) hj];exact hL _ _ (by omega) (by omega) (by omega)) (fun i j hi hij hj=>by rw[e2 i (by omega),e2 j (by omega),g4 i hi,g4 j (by omega)];exact hR _ _ (by omega) hij hj)
  (fun i j hi hi2 hj hj2=>by rw[e2 i hi,e2 j (by omega),g3 i hi hi2,g4 j hj];exact hC _ _ (by omega) (by omega) (by omega) hj2)
 intro i j hi hij hj
 by_cases h5:j<mid
 ·rw[e3 i (by omega),e3 j h5];exact s1 i j hi hij h5
 by_cases h6:mid≤i
 ·exact s2 i j h6 hij hj
 rw[e3 i (by omega)]
 refine permIn_all d1 d2 a mid (fun x=>R x d3[j]!) (by omega) hA.1 (fun i' hi1 hi2=>?_) i hi (by omega)
 refine permIn_all d2 d3 mid b (fun y=>R d1[i']! y) (by omega) hB.1 (fun j' hj1 hj2=>?_) j (by omega) hj
 rw[e2 j' hj1]
 exact hcut i' j' hi1 hi2 hj1 hj2
theorem ki {lt:α→α→Bool} {a b i:Nat} {d d':Array α} (hb:b≤d.size) (h1:a+1≤i) (h2:i≤b) (ho:i=a+1∨lt d[i-1]! d[a]! = true) (hn:i=b∨lt d[i]! d[a]! = false) (hp:PermIn a b d d')
  (hg:∀k,d'[k]! = if a≤k∧k+1<i then d[k+1]! else if k+1=i then d[a]! else d[k]!):Mrg lt a (a+1) b d d':=by
 refine⟨hp,fun R ht hL hR hC=>?_⟩
 have hlo:∀k,a+1≤k→k<i→R d[k]! d[a]!:=fun k hk hk2=>by
  rcases ho with ho|ho
  ·omega
  have k1:=(hC a (i-1) (Nat.le_refl _) (by omega) (by omega) (by omega)).2 ho
  by_cases hki:k=i-1
  ·rw[hki];exact k1
  exact ht _ _ _ (hR k (i-1) hk (by omega) (by omega)) k1
 have hhi:∀k,i≤k→k<b→R d[a]! d[k]!:=fun k hk hk2=>by
  rcases hn with hn|hn
  ·omega
  have k1:=(hC a i (Nat.le_refl _) (by omega) (by omega) (by omega)).1 hn
  by_cases hki:k=i
  ·rw[hki];exact k1
  exact ht _ _ _ k1 (hR i k (by omega) (by omega) hk2)
 intro x y hx hxy hy
 rw[hg x,hg y]
 by_cases h3:x+1<i
 ·rw[if_pos ⟨hx,h3⟩]
  by_cases h4:y+1<i
  ·rw[if_pos ⟨by omega,h4⟩];exact hR _ _ (by omega) (by omega) (by omega)
  rw[if_neg (by omega)]
  by_cases h5:y+1=i
  ·rw[if_pos h5];exact hlo _ (by omega) h3
  rw[if_neg h5];exact hR _ _ (by omega) (by omega) hy
 rw[if_neg (by omega),if_neg (show ¬(a≤y∧y+1<i) by omega),if_neg (show ¬y+1=i by omega)]
 by_cases h5:x+1=i
 ·rw[if_pos h5];exact hhi y (by omega) hy
 rw[if_neg h5];exact hR _ _ (by omega) hxy hy
theorem qT {lt:α→α→Bool} {a m i:Nat} {d d':Array α} (hb:m+1≤d.size) (h1:a≤i) (h2:i≤m) (ho:i=a∨lt d[m]! d[i-1]! = false) (hn:i=m∨lt d[m]! d[i]! = true) (hp:PermIn a (m+1) d d')
  (hg:∀k,d'[k]! = if i<k∧k≤m then d[k-1]! else if k=i then d[m]! else d[k]!):Mrg lt a m (m+1) d d':=by
 refine⟨hp,fun R ht hL hR hC=>?_⟩
 have hlo:∀k,a≤k→k<i→R d[k]! d[m]!:=fun k hk hk2=>by
  rcases ho with ho|ho
  ·omega
  have k1:=(hC (i-1) m (by omega) (by omega) (Nat.le_refl _) (by omega)).1 ho
  by_cases hki:k=i-1
  ·rw[hki];exact k1
  exact ht _ _ _ (hL k (i-1) hk (by omega) (by omega)) k1
 have hhi:∀k,i≤k→k<m→R d[m]! d[k]!:=fun k hk hk2=>by
  rcases hn with hn|hn
  ·omega
  have k1:=(hC i m (by omega) (by omega) (Nat.le_refl _) (by omega)).2 hn
  by_cases hki:k=i
  ·rw[hki];exact k1
  exact ht _ _ _ k1 (hL i k h1 (by omega) hk2)
 intro x y hx hxy hy
 rw[hg x,hg y]
 by_cases h3:i<y
 ·rw[if_pos (show i<y∧y≤m by omega)]
  by_cases h4:i<x
  ·rw[if_pos (show i<x∧x≤m by omega)];exact hL _ _ (by omega) (by omega) (by omega)
  rw[if_neg (by omega)]
  by_cases h5:x=i
  ·rw[if_pos h5];exact hhi _ (by omega) (by omega)
  rw[if_neg h5];exact hL _ _ hx (by omega) (by omega)
 rw[if_neg (show ¬(i<y∧y≤m) by omega),if_neg (show ¬(i<x∧x≤m) by omega),if_neg (show ¬x=i by omega)]
 by_cases h5:y=i
 ·rw[if_pos h5];exact hlo x hx (by omega)
 rw[if_neg h5];exact hL _ _ hx hxy (by omega)
end
section
variable {α:Type} [Inhabited α]
def Pr (lt:α→α→Bool) (R:α→α→Prop) (x y:α):Prop:=(lt y x=false→R x y)∧(lt y x=true→R y x)
structure vC (lt:α→α→Bool) (R:α→α→Prop) (a j i:Nat) (d:Array α):Prop where
 rest:∀p q,a≤p→p<q→q≤i→p≠j→q≠j→R d[p]! d[q]!
 right:∀q,j<q→q≤i→R d[j]! d[q]!
 left:∀p,a≤p→p<j→Pr lt R d[p]! d[j]!
theorem vC.stop {lt:α→α→Bool} {R:α→α→Prop} (ht:∀x y z,R x y→R y z→R x z) {a j i:Nat} {d:Array α} (hji:j≤i) (h:vC lt R a j i d) (hs:j≤a∨lt d[j]! d[j-1]! = false):Srt R a (i+1) d:=by
 intro p q hap hpq hqi
 by_cases hq:q=j
 ·subst hq
  rcases hs with hs|hs
  ·omega
  have h1:=(h.left (q-1) (by omega) (by omega)).1 hs
  by_cases hp:p=q-1
  ·rw[hp];exact h1
  exact ht _ _ _ (h.rest p (q-1) hap (by omega) (by omega) (by omega) (by omega)) h1
 by_cases hp:p=j
 ·subst hp;exact h.right q hpq (by omega)
 exact h.rest p q hap hpq (by omega) hp hq
theorem vC.step {lt:α→α→Bool} {R:α→α→Prop} {a j i:Nat} {d:Array α} (h:vC lt R a (j+1) i d) (hji:j+1≤i) (hl:lt d[j+1]! d[j]! = true) (haj:a≤j) (hsz:j+1<d.size):vC lt R a j i (swp d (j+1) j):=by
 have g:=swp_get d hsz (show j<d.size by omega)
 constructor
 ·intro p q hap hpq hqi hp hq
  rw[g,g]
  by_cases hq1:q=j+1
  ·subst hq1
   simp only[hq,hp,if_false,if_true,show p≠j+1 by omega]
   exact h.rest p j hap (by omega) (by omega) (by omega) (by omega)
  by_cases hp1:p=j+1
  ·subst hp1
   simp only[hq,hp,hq1,if_false,if_true]
   exact h.rest j q haj (by omega) hqi (by omega) hq1
  simp only[hq,hp,hq1,hp1,if_false]
  exact h.rest p q hap hpq hqi hp1 hq1
 ·intro q hjq hqi
  rw[g,g]
  by_cases hq1:q=j+1
  ·subst hq1
   simp only[show j+1≠j by omega,if_false,if_true]
   exact(h.left j haj (by omega)).2 hl
  simp only[if_true,show q≠j by omega,hq1,if_false]
  exact h.right q (by omega) hqi
 intro p hap hpj
 rw[g,g]
 simp only[show p≠j by omega,show p≠j+1 by omega,if_true,if_false]
 exact h.left p hap (by omega)
theorem Vq {lt:α→α→Bool} {R:α→α→Prop} (ht:∀x y z,R x y→R y z→R x z) (a b i:Nat) (hib:i<b):∀(j:Nat) (d:Array α),a≤j→j≤i→b≤d.size→vC lt R a j i d→Srt R a (i+1) (insInner lt a j d)
 | 0,d,_,hji,_,hI=>by
  unfold insInner
  exact hI.stop ht hji (Or.inl (Nat.zero_le _))
 | j+1,d,haj,hji,hb,hI=>by
  unfold insInner
  split
  ·rename_i hc
   simp only[Bool.and_eq_true,decide_eq_true_eq] at hc
   exact Vq ht a b i hib j (swp d (j+1) j) (by omega) (by omega) (by rw[swp_size];exact hb) (hI.step hji hc.2 (by omega) (by omega))
  rename_i hc
  simp only[Bool.and_eq_true,decide_eq_true_eq,not_and,Bool.not_eq_true] at hc
  refine hI.stop ht hji ?_
  by_cases h:j+1 > a
  ·exact Or.inr (by simpa using hc h)
  exact Or.inl (by omega)
theorem Vs (lt:α→α→Bool) (a b i:Nat) (hib:i<b):∀(j:Nat) (d:Array α),a≤j→j≤i→b≤d.size→PermIn a (i+1) d (insInner lt a j d)
 | 0,d,_,hji,_=>by
  unfold insInner
  exact permIn_refl _ _ _
 | j+1,d,haj,hji,hb=>by
  unfold insInner
  split
  ·rename_i hc
   simp only[Bool.and_eq_true,decide_eq_true_eq] at hc
   exact permIn_trans _ _ _ _ _ (swp_permIn d a (i+1) (j+1) j haj (by omega) (by omega) (by omega) (by omega)) (Vs lt a b i hib j (swp d (j+1) j) (by omega) (by omega) (by rw[swp_size];exact hb))
  exact permIn_refl _ _ _
theorem Vt {lt:α→α→Bool} (a b:Nat):∀(n i:Nat) (d:Array α),b-i=n→a<i→i≤b→b≤d.size →
  PermIn a b d (insOuter lt a b i d)∧∀R:α→α→Prop,(∀x y z,R x y→R y z→R x z)→Srt R a i d→(∀q,i≤q→q<b→∀p,a≤p→p<q→Pr lt R d[p]! d[q]!)→Srt R a b (insOuter lt a b i d)
 | 0,i,d,hn,_,hib,_=>by
  obtain rfl:i=b:=by omega
  rw[insOuter,if_neg (by omega)]
  exact⟨permIn_refl _ _ _,fun R ht hs _=>hs⟩
 | n+1,i,d,hn,hai,hib,hb=>by
  have hlt:i<b:=by omega
  rw[insOuter,if_pos hlt]
  have hp:=Vs lt a b i hlt i d (by omega) (Nat.le_refl _) hb
  have h2:=Vt (lt:=lt) a b n (i+1) (insInner lt a i d) (by omega) (by omega) (by omega) (by rw[hp.1];exact hb)
  refine⟨permIn_trans _ _ _ _ _ (permIn_mono _ _ _ _ _ _ (Nat.le_refl _) (by omega) hb hp) h2.1,fun R ht hs hA=>?_⟩
  refine h2.2 R ht (Vq ht a b i hlt i d (by omega) (Nat.le_refl _) hb ⟨fun p q hap hpq hqi _ hq=>hs p q hap hpq (by omega),fun q h1 h2=>by omega,fun p hap hpi=>hA i (Nat.le_refl _) hlt p hap hpi⟩) ?_
  intro q hq hqb p hap hpq
  rw[hp.2.1 q (.inr (by omega))]
  by_cases hpi:p<i+1
  ·exact permIn_all d _ a (i+1) (fun x=>Pr lt R x d[q]!) (by omega) hp (fun p' h3 h4=>hA q (by omega) hqb p' h3 (by omega)) p hap hpi
  rw[hp.2.1 p (.inr (by omega))]
  exact hA q (by omega) hqb p hap hpq
theorem X7 (lt:α→α→Bool) (d:Array α) (a b:Nat) (hab:a≤b) (hb:b≤d.size) :
  PermIn a b d (insertionSort lt d a b)∧∀R:α→α→Prop,(∀x y z,R x y→R y z→R x z)→(∀p q,a≤p→p<q→q<b→Pr lt R d[p]! d[q]!)→Srt R a b (insertionSort lt d a b):=by
 unfold insertionSort
 by_cases h:a=b
 ·subst h
  rw[insOuter,if_neg (by omega)]
  exact⟨permIn_refl _ _ _,fun R _ _ i j h1 h2 h3=>by omega⟩
 have h1:=Vt (lt:=lt) a b (b-(a+1)) (a+1) d rfl (by omega) (by omega) hb
 exact⟨h1.1,fun R ht hA=>h1.2 R ht (fun i j h1 h2 h3=>by omega) (fun q hq hqb p hap hpq=>hA p q hap hpq hqb)⟩
def Stt (lt:α→α→Bool) (R:α→α→Prop) (n:Nat) (K:Nat→Nat→Prop) (d:Array α):Prop:=∀i j,i<j→j<n→(K i j→R d[i]! d[j]!)∧(¬K i j→Pr lt R d[i]! d[j]!)
def Stg (lt:α→α→Bool) (n:Nat) (K:Nat→Nat→Prop) (d0 d:Array α):Prop :=
 PermIn 0 n d0 d∧∀R:α→α→Prop,(∀x y z,R x y→R y z→R x z)→(∀p q,p<q→q<n→Pr lt R d0[p]! d0[q]!)→Stt lt R n K d
theorem Stg.turn {lt:α→α→Bool} {n:Nat} {K K':Nat→Nat→Prop} {d0 d d':Array α} {a b:Nat} (h:Stg lt n K d0 d) (hb:b≤n) (hn:n≤d.size) (hsep:∀i j,i<j→j<n→(i<a∧a≤j∧j<b)∨(a≤i∧i<b∧b≤j)→¬K i j)
  (hp:PermIn a b d d') (hs:∀R:α→α→Prop,(∀x y z,R x y→R y z→R x z)→Stt lt R n K d→Srt R a b d') (hK:∀i j,i<j→j<n→(K' i j↔K i j∨(a≤i∧j<b))):Stg lt n K' d0 d':=by
 refine⟨permIn_trans _ _ _ _ _ h.1 (permIn_mono _ _ _ _ _ _ (Nat.zero_le _) hb hn hp),fun R ht hA=>?_⟩
 have hS:=h.2 R ht hA
 have hR:=hs R ht hS
 intro i j hij hj
 rw[hK i j hij hj]
 by_cases hin:a≤i∧j<b
 ·exact⟨fun _=>hR i j hin.1 hij hin.2,fun hc=>absurd (.inr hin) hc⟩
 by_cases h1:i<a∧a≤j∧j<b
 ·have hk:∀j',a≤j'→j'<b→Pr lt R d[i]! d[j']!:=fun j' h3 h4=>(hS i j' (by omega) (by omega)).2 (hsep i j' (by omega) (by omega) (.inl ⟨h1.1,h3,h4⟩))
  refine⟨fun hc=>absurd (hc.resolve_right hin) (hsep i j hij hj (.inl h1)),fun _=>?_⟩
  rw[hp.2.1 i (.inl h1.1)]
  exact permIn_all d d' a b (fun y=>Pr lt R d[i]! y) (by omega) hp hk j h1.2.1 h1.2.2
 by_cases h2:a≤i∧i<b∧b≤j
 ·have hk:∀i',a≤i'→i'<b→Pr lt R d[i']! d[j]!:=fun i' h3 h4=>(hS i' j (by omega) hj).2 (hsep i' j (by omega) hj (.inr ⟨h3,h4,h2.2.2⟩))
  refine⟨fun hc=>absurd (hc.resolve_right hin) (hsep i j hij hj (.inr h2)),fun _=>?_⟩
  rw[hp.2.1 j (.inr h2.2.2)]
  exact permIn_all d d' a b (fun x=>Pr lt R x d[j]!) (by omega) hp hk i h2.1 h2.2.1
 rw[hp.2.1 i (by omega),hp.2.1 j (by omega)]
 have:=hS i j hij hj
 exact⟨fun hc=>this.1 (hc.resolve_right hin),fun hc=>this.2 fun hk=>hc (.inl hk)⟩
theorem Stg.congr {lt:α→α→Bool} {n:Nat} {K K':Nat→Nat→Prop} {d0 d:Array α} (h:Stg lt n K d0 d) (hK:∀i j,i<j→j<n→(K' i j↔K i j)):Stg lt n K' d0 d :=
 ⟨h.1,fun R ht hA i j hij hj=>by rw[hK i j hij hj];exact h.2 R ht hA i j hij hj⟩
def Kp (s t a i j:Nat):Prop:=if j<a then i/t=j/t else i/s=j/s
theorem JZ {t c i j:Nat} (h1:t*c≤i) (h2:i≤j) (h3:j<t*(c+1)):i/t=j/t:=by
 have ht:0<t:=by
  rcases Nat.eq_zero_or_pos t with h|h
  ·subst h;omega
  exact h
 have e1:i/t=c:=by
  refine Nat.div_eq_of_lt_le (by rw[Nat.mul_comm];exact h1) ?_
  rw[Nat.mul_comm];omega
 have e2:j/t=c:=by
  refine Nat.div_eq_of_lt_le (by rw[Nat.mul_comm];omega) ?_
  rw[Nat.mul_comm];exact h3
 rw[e1,e2]
theorem Q6 {t c i j:Nat} (ht:0<t) (h1:i<t*c) (h2:t*c≤j):i/t≠j/t:=by
 have e1:i/t<c:=Nat.div_lt_of_lt_mul h1
 have e2:c≤j/t:=(Nat.le_div_iff_mul_le ht).2 (by rw[Nat.mul_comm];exact h2)
 omega
theorem kV {s u c n b:Nat} (hs:0<s) (hb:b=s*u*(c+1)∨b=n):∀i j,i<j→j<n→(i<s*u*c∧s*u*c≤j∧j<b)∨(s*u*c≤i∧i<b∧b≤j)→¬Kp s (s*u) (s*u*c) i j:=by
 intro i j hij hj h
 unfold Kp
 rcases h with h|h
 ·rw[if_neg (by omega)]
  exact Q6 (c:=u*c) hs (by rw[←Nat.mul_assoc];exact h.1) (by rw[←Nat.mul_assoc];exact h.2.1)
 rw[if_neg (by omega)]
 rcases hb with hb|hb
 ·exact Q6 (c:=u*(c+1)) hs (by rw[←Nat.mul_assoc];omega) (by rw[←Nat.mul_assoc];omega)
 omega
theorem jN {s u c n b:Nat} (hs:0<s) (hu:0<u) (hab:s*u*c≤b) (hbt:b≤s*u*(c+1)) (hb:b=s*u*(c+1)∨b=n):∀i j,i<j→j<n→(Kp s (s*u) b i j↔Kp s (s*u) (s*u*c) i j∨(s*u*c≤i∧j<b)):=by
 intro i j hij hj
 unfold Kp
 by_cases h1:j<s*u*c
 ·rw[if_pos h1,if_pos (by omega)]
  constructor
  ·exact fun h=>.inl h
  rintro (h|h)
  ·exact h
  omega
 rw[if_neg h1]
 by_cases h2:j<b
 ·rw[if_pos h2]
  by_cases h3:s*u*c≤i
  ·exact⟨fun _=>.inr ⟨h3,h2⟩,fun _=>JZ h3 (by omega) (by omega)⟩
  have d1:=Q6 (t:=s*u) (c:=c) (i:=i) (j:=j) (Nat.mul_pos hs hu) (by omega) (by omega)
  have d2:=Q6 (t:=s) (c:=u*c) (i:=i) (j:=j) hs (by rw[←Nat.mul_assoc];omega) (by rw[←Nat.mul_assoc];omega)
  exact⟨fun h=>absurd h d1,fun h=>h.elim (fun h=>absurd h d2) (fun h=>absurd h.1 h3)⟩
 rw[if_neg h2]
 exact⟨fun h=>.inl h,fun h=>h.elim id (fun h=>absurd h.2 h2)⟩
theorem uO (lt:α→α→Bool) (n t:Nat) (d:Array α):Stg lt n (Kp 1 t 0) d d :=
 ⟨permIn_refl _ _ _,fun R ht hA i j hij hj=>by
  unfold Kp
  rw[if_neg (Nat.not_lt_zero _),Nat.div_one,Nat.div_one]
  exact⟨fun h=>by omega,fun _=>hA i j hij hj⟩⟩
theorem Stg.ins {lt:α→α→Bool} {n t c b:Nat} {d0 d:Array α} (h:Stg lt n (Kp 1 t (t*c)) d0 d) (ht:0<t) (hn:n≤d.size) (hab:t*c≤b) (hbt:b≤t*(c+1)) (hbn:b≤n) (hb:b=t*(c+1)∨b=n):Stg lt n (Kp 1 t b) d0 (insertionSort lt d (t*c) b):=by
 have h1:=X7 lt d (t*c) b hab (by omega)
 have e:t=1*t:=(Nat.one_mul t).symm
 refine h.turn hbn hn (a:=t*c) (b:=b) (fun i j=>?_) h1.1 (fun R hR hS=>h1.2 R hR fun p q hp hpq hq=>(hS p q hpq (by omega)).2 ?_) (fun i j=>?_)
 ·have:=kV (s:=1) (u:=t) (c:=c) (n:=n) (b:=b) (by omega) (by rw[Nat.one_mul];exact hb) i j
  rw[Nat.one_mul] at this
  exact this
 ·unfold Kp
  rw[if_neg (by omega),Nat.div_one,Nat.div_one]
  omega
 have:=jN (s:=1) (u:=t) (c:=c) (n:=n) (b:=b) (by omega) ht (by rw[Nat.one_mul];exact hab) (by rw[Nat.one_mul];exact hbt) (by rw[Nat.one_mul];exact hb) i j
 rw[Nat.one_mul] at this
 exact this
theorem Stg.mrg {lt:α→α→Bool} {n s c b:Nat} {d0 d d':Array α} (h:Stg lt n (Kp s (s*2) (s*2*c)) d0 d) (hs:0<s) (hn:n≤d.size) (hab:s*2*c+s≤b) (hbt:b≤s*2*(c+1)) (hbn:b≤n) (hb:b=s*2*(c+1)∨b=n)
  (hM:Mrg lt (s*2*c) (s*2*c+s) b d d'):Stg lt n (Kp s (s*2) b) d0 d':=by
 have e0:s*(2*c)=s*2*c:=(Nat.mul_assoc _ _ _).symm
 have e1:s*(2*c+1)=s*2*c+s:=by rw[Nat.mul_add,e0,Nat.mul_one]
 have e2:s*(2*c+1+1)=s*2*(c+1):=by rw[Nat.mul_assoc,Nat.mul_add 2]
 refine h.turn hbn hn (kV hs hb) hM.1 (fun R hR hS=>hM.2 R hR (fun i j hi hij hj=>(hS i j hij (by omega)).1 ?_) (fun i j hi hij hj=>(hS i j hij (by omega)).1 ?_) (fun i j hi hi2 hj hj2=>(hS i j (by omega) (by omega)).2 ?_)) (jN hs (by omega) (by omega) hbt hb)
 ·unfold Kp
  rw[if_neg (by omega)]
  exact JZ (c:=2*c) (by omega) (by omega) (by omega)
 ·unfold Kp
  rw[if_neg (by omega)]
  exact JZ (c:=2*c+1) (by omega) (by omega) (by omega)
 unfold Kp
 rw[if_neg (by omega)]
 exact Q6 (c:=2*c+1) hs (by omega) (by omega)
theorem Stg.alone {lt:α→α→Bool} {n s c:Nat} {d0 d:Array α} (h:Stg lt n (Kp s (s*2) (s*2*c)) d0 d) (hs:0<s) (hn:n≤s*2*c+s):Stg lt n (Kp s (s*2) n) d0 d:=by
 refine h.congr fun i j hij hj=>?_
 have e0:s*(2*c)=s*2*c:=(Nat.mul_assoc _ _ _).symm
 have e1:s*(2*c+1)=s*2*c+s:=by rw[Nat.mul_add,e0,Nat.mul_one]
 have e2:s*2*(c+1)=s*2*c+s+s:=by rw[Nat.mul_add,Nat.mul_one];omega
 unfold Kp
 rw[if_pos hj]
 by_cases h1:j<s*2*c
 ·rw[if_pos h1]
 rw[if_neg h1]
 by_cases h3:s*2*c≤i
 ·exact⟨fun _=>JZ (c:=2*c) (by omega) (by omega) (by omega),fun _=>JZ (t:=s*2) (c:=c) h3 (by omega) (by omega)⟩
 have d1:=Q6 (t:=s*2) (c:=c) (i:=i) (j:=j) (by omega) (by omega) (by omega)
 have d2:=Q6 (t:=s) (c:=2*c) (i:=i) (j:=j) hs (by omega) (by omega)
 exact⟨fun h=>absurd h d1,fun h=>absurd h d2⟩
theorem Stg.over {lt:α→α→Bool} {n s t u:Nat} {d0 d:Array α} (h:Stg lt n (Kp s t n) d0 d):Stg lt n (Kp t u 0) d0 d :=
 h.congr fun i j hij hj=>by unfold Kp;rw[if_neg (Nat.not_lt_zero _),if_pos hj]
theorem Stg.all {lt:α→α→Bool} {n s t:Nat} {d0 d:Array α} (h:Stg lt n (Kp s t 0) d0 d) (hn:n≤s):PermIn 0 n d0 d∧∀R:α→α→Prop,(∀x y z,R x y→R y z→R x z)→(∀p q,p<q→q<n→Pr lt R d0[p]! d0[q]!)→Srt R 0 n d :=
 ⟨h.1,fun R ht hA i j _ hij hj=>(h.2 R ht hA i j hij hj).1 (by
  unfold Kp
  rw[if_neg (Nat.not_lt_zero _),Nat.div_eq_of_lt (by omega),Nat.div_eq_of_lt (by omega)])⟩
end
open Go.Shelf Go.RowKit Go.Lib Go.Sort Go.Proofs
structure JL (P:Program) (k:Nat):Prop where
 mixed:P.follows Departure.mixedOrders=true
 t0:P.underlying 0=some (TypeDesc.tuple #[])
 a0:∀w,(isAgg 0).run P w=.ok false w
 z0:∀w,(Go.sizeOf 0).run P w=.ok 1 w
 v0:∀w,(zeroValue 0).run P w=.ok (Value.tuple #[]) w
 t3:P.underlying 3=some (TypeDesc.int IntKind.i64)
 a3:∀w,(isAgg 3).run P w=.ok false w
 z3:∀w,(Go.sizeOf 3).run P w=.ok 1 w
 v3:∀w,(zeroValue 3).run P w=.ok (Value.int IntKind.i64 0) w
 t4:P.underlying 4=some (TypeDesc.bool)
 a4:∀w,(isAgg 4).run P w=.ok false w
 z4:∀w,(Go.sizeOf 4).run P w=.ok 1 w
 v4:∀w,(zeroValue 4).run P w=.ok (Value.bool false) w
 t53:P.underlying 37=some (TypeDesc.slice 43)
 a53:∀w,(isAgg 37).run P w=.ok false w
 z53:∀w,(Go.sizeOf 37).run P w=.ok 1 w
 v53:∀w,(zeroValue 37).run P w=.ok (Value.slice none 0 0) w
 t156:P.underlying 144=some (TypeDesc.func #[43,43] #[3] false)
 a156:∀w,(isAgg 144).run P w=.ok false w
 z156:∀w,(Go.sizeOf 144).run P w=.ok 1 w
 v156:∀w,(zeroValue 144).run P w=.ok (Value.nilFunc) w
 t131:P.underlying 208=some (TypeDesc.int IntKind.u64)
 a131:∀w,(isAgg 208).run P w=.ok false w
 z131:∀w,(Go.sizeOf 208).run P w=.ok 1 w
 v131:∀w,(zeroValue 208).run P w=.ok (Value.int IntKind.u64 0) w
 aE:∀w,(isAgg 43).run P w=.ok true w
 zE:∀w,(Go.sizeOf 43).run P w=.ok k w
theorem kw:JL Tryz.prog 5:=by
 constructor<;>first|kernel_rfl|(intro w;go_simp)
structure JF (P:Program):Prop where
 fS:P.funcs[178]?=some Tryz.f178
 eS:∀args w,(callFunc 178 args).run P w=.ok (.enter 178 args) w
 fR:P.funcs[163]?=some Tryz.f163
 eR:∀args w,(callFunc 163 args).run P w=.ok (.enter 163 args) w
 fM:P.funcs[138]?=some Tryz.f138
 eM:∀args w,(callFunc 138 args).run P w=.ok (.enter 138 args) w
 fI:P.funcs[137]?=some Tryz.f137
 eI:∀args w,(callFunc 137 args).run P w=.ok (.enter 137 args) w
 fB:P.funcs[110]?=some Tryz.f110
 eB:∀args w,(callFunc 110 args).run P w=.ok (.enter 110 args) w
theorem uw:JF Tryz.prog where
 fS:=Tryz.func178
 eS:=Go.Proofs.enters_of Tryz.func178 kq rfl
 fR:=Tryz.func163
 eR:=Go.Proofs.enters_of Tryz.func163 kq rfl
 fM:=Tryz.func138
 eM:=Go.Proofs.enters_of Tryz.func138 kq rfl
 fI:=Tryz.func137
 eI:=Go.Proofs.enters_of Tryz.func137 kq rfl
 fB:=Tryz.func110
 eB:=Go.Proofs.enters_of Tryz.func110 kq rfl
section
variable {P:Program} {α:Type} [Inhabited α] {k:Nat}
set_option maxRecDepth 1000000 in
theorem Eb (L:JL P k) (FF:JF P) (enc:α→List Value) (fn:Value) (blk off cap a b n:Nat) (d0 d:Array α) (w0 w:World)
  (R:RowK enc k w0 blk off d0) (hs:d0.size=d.size) (S:SWK enc k w0 blk off d w) (ha:a+n≤d.size) (hb:b+n≤d.size) (hsz:d.size<4611686018427387904) :
  Calls P 178 #[.slice (some ⟨blk,off,none⟩) d.size cap,.int .i64 a,.int .i64 b,.int .i64 n,fn] w fun e w'=>e=.returned (.tuple #[])∧SWK enc k w0 blk off (swr d a b n) w':=by
 have mixed:=L.mixed;have t0:=L.t0;have a0:=L.a0;have z0:=L.z0;have v0:=L.v0;have t3:=L.t3;have a3:=L.a3;have z3:=L.z3;have v3:=L.v3;have t4:=L.t4;have a4:=L.a4;have z4:=L.z4;have v4:=L.v4;have t53:=L.t53;have a53:=L.a53;have z53:=L.z53;have v53:=L.v53;have t156:=L.t156;have a156:=L.a156;have z156:=L.z156;have v156:=L.v156;have aE:=L.aE;have zE:=L.zE
 have F:=FF.fS
 have S0:Aside (SWK enc k w0 blk off d w):=S
 clear S
 go_enter F,Tryz.ntmps178
 go_wp2
 go_loopg [10] n (fun kx s10 wr=>∃(i:Nat),s10=.int .i64 i∧i≤n∧n-i≤kx∧Aside (SWK enc k w0 blk off (swr d a b i) wr))
 case atStart=>exact⟨0,by go_num,oq,oq,S0⟩
 clear S0
 obtain⟨i,rfl,hin,hkx,S1⟩:=hrel
 by_cases hlt:i<n
 ·have hltz:(i:Int)<(n:Int):=oq
  have hds:(swr d a b i).size=d.size:=YY d a b i
  go_wp2_with fail
  obtain⟨x,hx⟩:∃x,x=a+i:=⟨_,rfl⟩
  obtain⟨y,hy⟩:∃y,y=b+i:=⟨_,rfl⟩
  have ea44:((x:Int)).toNat=x:=oq
  have pa44:(0:Int)≤(x:Int):=oq
  have ba44:(x:Int)<(d.size:Int):=oq
  have ra44:IntKind.i64.wrap ((a:Int)+(i:Int))=(x:Int):=by rw[Zs];omega
  have ec44:((y:Int)).toNat=y:=oq
  have pc44:(0:Int)≤(y:Int):=oq
  have bc44:(y:Int)<(d.size:Int):=oq
  have rc44:IntKind.i64.wrap ((b:Int)+(i:Int))=(y:Int):=by rw[Zs];omega
  have ri44:IntKind.i64.wrap ((i:Int)+1)=((i+1:Nat):Int):=by rw[Zs];omega
  have S2:Aside (SWK enc k w0 blk off (swr d a b (i+1)) ((wr.drew.setCells blk (off+x*k) (enc (swr d a b i)[y]!)).setCells blk (off+y*k) (enc (swr d a b i)[x]!))):=by
   have:=S1.out.swapped R x y oq oq
   rw[hx,hy] at this ⊢
   exact this
  have l44a:=S1.out.ld1 R oq P x oq
  have l44b:=S1.out.ld1 R oq P y oq
  have s44a:=S1.out.st1 R oq P x oq (swr d a b i)[y]!
  have s44b:=S1.out.st2 R oq P x y oq oq (swr d a b i)[y]! (swr d a b i)[x]!
  have n44a:(enc (swr d a b i)[x]!).length=k:=R.hk _
  have n44b:(enc (swr d a b i)[y]!).length=k:=R.hk _
  generalize enc (swr d a b i)[x]! = cI44 at S2 l44a s44b n44a
  generalize enc (swr d a b i)[y]! = cJ44 at S2 l44b s44a s44b n44b
  clear S1 hds hx hy
  go_wp2_with fail
  go_big_region_o
  clear l44a l44b s44a s44b
  generalize (wr.drew.setCells blk (off+x*k) cJ44).setCells blk (off+y*k) cI44=w2 at S2 ⊢
  go_wp2
  go_roundg (n-(i+1))
  case measure=>omega
  exact⟨i+1,rfl,oq,Zc _,S2⟩
 have hltz:¬(i:Int)<(n:Int):=oq
 obtain rfl:i=n:=oq
 go_wp2
 go_end0
 exact⟨rfl,S1.out⟩
theorem gV {α:Type} [Inhabited α] {f m i:Nat} (d:Array α) (hf:0<f):QQ f d m i i=swr d (m-i) m i:=by
 obtain⟨g,rfl⟩:∃g,f=g+1:=⟨f-1,oq⟩
 rw[QQ,Z2 rfl]
theorem gE {α:Type} [Inhabited α] {f m i j:Nat} (d:Array α) (hf:0<f) (h:j<i):QQ f d m i j=QQ (f-1) (swr d (m-i) m j) m (i-j) j:=by
 obtain⟨g,rfl⟩:∃g,f=g+1:=⟨f-1,oq⟩
 rw[QQ,Z1 oq,Z2 h]
 rfl
theorem uM {α:Type} [Inhabited α] {f m i j:Nat} (d:Array α) (hf:0<f) (h:i<j):QQ f d m i j=QQ (f-1) (swr d (m-i) (m+j-i) i) m i (j-i):=by
 obtain⟨g,rfl⟩:∃g,f=g+1:=⟨f-1,oq⟩
 rw[QQ,Z1 oq,Z1 oq]
 rfl
set_option maxRecDepth 1000000 in
theorem qK (L:JL P k) (FF:JF P) (enc:α→List Value) (fn:Value) (blk off cap a m b:Nat) (d0 d:Array α) (w0 w:World)
  (R:RowK enc k w0 blk off d0) (hs:d0.size=d.size) (S:SWK enc k w0 blk off d w) (ham:a<m) (hmb:m<b) (hb:b≤d.size) (hsz:d.size<2305843009213693952) :
  Calls P 163 #[.slice (some ⟨blk,off,none⟩) d.size cap,.int .i64 a,.int .i64 m,.int .i64 b,fn] w fun e w'=>e=.returned (.tuple #[])∧SWK enc k w0 blk off (QQ (b-a) d m (m-a) (b-m)) w':=by
 have mixed:=L.mixed;have t0:=L.t0;have a0:=L.a0;have z0:=L.z0;have v0:=L.v0;have t3:=L.t3;have a3:=L.a3;have z3:=L.z3;have v3:=L.v3;have t4:=L.t4;have a4:=L.a4;have z4:=L.z4;have v4:=L.v4;have t53:=L.t53;have a53:=L.a53;have z53:=L.z53;have v53:=L.v53;have t156:=L.t156;have a156:=L.a156;have z156:=L.z156;have v156:=L.v156;have aE:=L.aE;have zE:=L.zE
 have F:=FF.fR
 have eS:=FF.eS
 have HS:=hid (fun(dk:Array α) (x y n:Nat) (W:World) (h1:dk.size=d.size) (h2:SWK enc k w0 blk off dk W) (h3:x+n≤dk.size) (h4:y+n≤dk.size)=>Eb L FF enc fn blk off cap x y n d0 dk w0 W R oq h2 h3 h4 oq)
 have S0:Aside (SWK enc k w0 blk off d w):=S
 clear S R hs L FF
 obtain⟨i0,hi0⟩:∃i0,i0=m-a:=⟨_,rfl⟩
 obtain⟨j0,hj0⟩:∃j0,j0=b-m:=⟨_,rfl⟩
 rw[←hi0,←hj0]
 have wi0:IntKind.i64.wrap ((m:Int)-(a:Int))=(i0:Int):=by rw[Zs];omega
 have wj0:IntKind.i64.wrap ((b:Int)-(m:Int))=(j0:Int):=by rw[Zs];omega
 obtain⟨D,hD⟩:∃D,D=QQ (b-a) d m i0 j0:=⟨_,rfl⟩
 rw[←hD]
 have q1:0<i0:=oq
 have q2:0<j0:=oq
 have q3:i0≤m:=oq
 have q4:m+j0≤d.size:=oq
 have q5:i0+j0≤b-a:=oq
 have HD:Hid (D=QQ (b-a) d m i0 j0):=hD
 clear hD hi0 hj0
 go_enter F,Tryz.ntmps163
 go_wp2
 go_loopg [10,11] (i0+j0) (fun kx s10 s11 wr=>∃(i j f:Nat) (dk:Array α),s10=.int .i64 i∧s11=.int .i64 j∧0<i∧0<j∧i≤m∧m+j≤d.size∧i+j≤f∧i+j≤kx∧dk.size=d.size∧Aside (SWK enc k w0 blk off dk wr)∧Hid (D=QQ f dk m i j))
 case atStart=>exact⟨i0,j0,b-a,d,rfl,rfl,q1,q2,q3,q4,q5,Zc _,rfl,S0,HD⟩
 clear S0 HD q1 q2 q3 q4 q5 wi0 wj0
 obtain⟨i,j,f,dk,rfl,rfl,h1,h2,h3,h4,h5,h6,hds,S1,HD⟩:=hrel
 obtain⟨x,hx⟩:∃x,x=m-i:=⟨_,rfl⟩
 have wx:IntKind.i64.wrap ((m:Int)-(i:Int))=(x:Int):=by rw[Zs];omega
 rcases Nat.lt_trichotomy i j with hij|hij|hij
 ·have hq:((i:Int) != (j:Int))=true:=by rw[bne_iff_ne];omega
  have hgt:¬(j:Int)<(i:Int):=oq
  obtain⟨s,hsm⟩:∃s,s=m+j:=⟨_,rfl⟩
  obtain⟨y,hy⟩:∃y,y=m+j-i:=⟨_,rfl⟩
  obtain⟨j2,hj2⟩:∃j2,j2=j-i:=⟨_,rfl⟩
  have ws:IntKind.i64.wrap ((m:Int)+(j:Int))=(s:Int):=by rw[Zs];omega
  have wy:IntKind.i64.wrap ((s:Int)-(i:Int))=(y:Int):=by rw[Zs];omega
  have wj:IntKind.i64.wrap ((j:Int)-(i:Int))=(j2:Int):=by rw[Zs];omega
  have hc:=HS.out dk x y i wr hds S1.out oq oq
  rw[hds] at hc
  have HR:Hid (D=QQ (f-1) (swr dk x y i) m i j2):=by
   show _=_
   rw[HD.out,uM dk oq hij,hx,hy,hj2]
  have hd2:(swr dk x y i).size=d.size:=(YY _ _ _ _).trans hds
  have g1:0<j2∧m+j2≤d.size∧i+j2≤f-1∧i+j2<i+j:=oq
  clear HD S1 hx hsm hy hj2
  go_wp2_with (go_at_fn 178;refine hc.mono ?_;rintro e w1 ⟨rfl,hw1⟩;have S2:Aside (SWK enc k w0 blk off _ w1):=hw1;clear hw1)
  go_roundg (i+j2)
  case measure=>omega
  exact⟨i,j2,f-1,_,rfl,rfl,h1,g1.1,h3,g1.2.1,g1.2.2.1,Zc _,hd2,S2,HR⟩
 ·subst hij
  have hq:((i:Int) != (i:Int))=false:=by simp
  have hc:=HS.out dk x m i wr hds S1.out oq oq
  rw[hds] at hc
  have HR:Hid (D=swr dk x m i):=by
   show _=_
   rw[HD.out,gV dk oq,hx]
  clear HD S1 hx
  go_wp2_with (go_at_fn 178;refine hc.mono ?_;rintro e w1 ⟨rfl,hw1⟩;have S2:Aside (SWK enc k w0 blk off _ w1):=hw1;clear hw1)
  go_end0
  refine⟨rfl,?_⟩
  rw[HR.out]
  exact S2.out
 have hq:((i:Int) != (j:Int))=true:=by rw[bne_iff_ne];omega
 have hgt:(j:Int)<(i:Int):=oq
 obtain⟨i2,hi2⟩:∃i2,i2=i-j:=⟨_,rfl⟩
 have wj:IntKind.i64.wrap ((i:Int)-(j:Int))=(i2:Int):=by rw[Zs];omega
 have hc:=HS.out dk x m j wr hds S1.out oq oq
 rw[hds] at hc
 have HR:Hid (D=QQ (f-1) (swr dk x m j) m i2 j):=by
  show _=_
  rw[HD.out,gE dk oq hij,hx,hi2]
 have hd2:(swr dk x m j).size=d.size:=(YY _ _ _ _).trans hds
 have g1:0<i2∧i2≤m∧i2+j≤f-1∧i2+j<i+j:=oq
 clear HD S1 hx hi2
 go_wp2_with (go_at_fn 178;refine hc.mono ?_;rintro e w1 ⟨rfl,hw1⟩;have S2:Aside (SWK enc k w0 blk off _ w1):=hw1;clear hw1)
 go_roundg (i2+j)
 case measure=>omega
 exact⟨i2,j,f-1,_,rfl,rfl,g1.1,h2,g1.2.1,h4,g1.2.2.1,Zc _,hd2,S2,HR⟩
end
end Go.Proofs.YtgigilkpndhddaaGreatDoor.syn
