/-
  Parts of the proof: Name, Ref4a, Ref4b.
-/
import Derived.Test.YtpjficjlfibibaaGreatDoorQ00
import Derived.Test.YtpjficjlfibibaaGreatDoorQ02
namespace Go.Proofs.YtpjficjlfibibaaGreatDoor.syn
open Go.RowKit lex
set_option linter.unusedVariables false
set_option linter.unusedSimpArgs false
theorem rsmall_any (c:UInt8) (w:World):Calls Tryz.prog 82 #[.int .u8 (c.toNat:Int)] w fun e w' => e = .returned (.bool (smallB c)) ∧ w = w':=by
 unfold smallB
 generalize (c.toNat:Int) = n
 by_cases h1:(97:Int) ≤ n
 ·by_cases h2:n ≤ 122
  ·have E:=hid (show (decide ((97:Int) ≤ n) && decide (n ≤ 122)) = true by simp;omega)
   go_enter Tryz.func82,Tryz.ntmps82
   go_wp2
   go_ret
   exact ⟨by rw [E.out];first | rfl | (simp;omega),rfl⟩
  ·have E:=hid (show (decide ((97:Int) ≤ n) && decide (n ≤ 122)) = false by simp;omega)
   have h2':122 < n:=by omega
   clear h2
   go_enter Tryz.func82,Tryz.ntmps82
   go_wp2
   go_ret
   exact ⟨by rw [E.out];first | rfl | (simp;omega),rfl⟩
 ·have E:=hid (show (decide ((97:Int) ≤ n) && decide (n ≤ 122)) = false by simp;omega)
  have h1':n < 97:=by omega
  clear h1
  go_enter Tryz.func82,Tryz.ntmps82
  go_wp2
  go_ret
  exact ⟨by rw [E.out];first | rfl | (simp;omega),rfl⟩
theorem rdigit_any (c:UInt8) (w:World):Calls Tryz.prog 83 #[.int .u8 (c.toNat:Int)] w fun e w' => e = .returned (.bool (digitB c)) ∧ w = w':=by
 unfold digitB
 generalize (c.toNat:Int) = n
 by_cases h1:(48:Int) ≤ n
 ·by_cases h2:n ≤ 57
  ·have E:=hid (show (decide ((48:Int) ≤ n) && decide (n ≤ 57)) = true by simp;omega)
   go_enter Tryz.func83,Tryz.ntmps83
   go_wp2
   go_ret
   exact ⟨by rw [E.out];first | rfl | (simp;omega),rfl⟩
  ·have E:=hid (show (decide ((48:Int) ≤ n) && decide (n ≤ 57)) = false by simp;omega)
   have h2':57 < n:=by omega
   clear h2
   go_enter Tryz.func83,Tryz.ntmps83
   go_wp2
   go_ret
   exact ⟨by rw [E.out];first | rfl | (simp;omega),rfl⟩
 ·have E:=hid (show (decide ((48:Int) ≤ n) && decide (n ≤ 57)) = false by simp;omega)
  have h1':n < 48:=by omega
  clear h1
  go_enter Tryz.func83,Tryz.ntmps83
  go_wp2
  go_ret
  exact ⟨by rw [E.out];first | rfl | (simp;omega),rfl⟩
theorem ret_bool {a b:Bool} (h:a = b):Ending.returned (.bool a) = .returned (.bool b):=by rw [h]
def WdsR:Obj:=.cells #[.string ⟨#[110,111,100,101]⟩,.string ⟨#[98,117,100,103,101,116]⟩,.string ⟨#[105,110,112,117,116]⟩,.string ⟨#[112,101,114,105,111,100]⟩,.string ⟨#[112,104,97,115,101]⟩,.string ⟨#[102,108,111,119]⟩,.string ⟨#[102,98,121]⟩,.string ⟨#[116,97,105,108]⟩,.string ⟨#[111,117,116,112,117,116]⟩,.string ⟨#[100,101,97,100,108,105,110,101]⟩] 9
theorem words_at (w:World) (j:Nat) (hj:j < 10):(w.alloc WdsR).cell? ⟨w.heap.size,j,none⟩ = some (.string (wordsL.getD j ByteArray.empty)):=by
 have hb:(w.alloc WdsR).heap[w.heap.size]? = some WdsR:=heap_new w WdsR
 have hb':=hb
 unfold WdsR at hb'
 have hcw:=fun o => cell_of_row _ w.heap.size o _ _ _ hb'
 unfold WdsR
 rw [hcw]
 match j,hj with
 | 0,_ => rfl
 | 1,_ => rfl
 | 2,_ => rfl
 | 3,_ => rfl
 | 4,_ => rfl
 | 5,_ => rfl
 | 6,_ => rfl
 | 7,_ => rfl
 | 8,_ => rfl
 | 9,_ => rfl
 | j + 10,h => omega
theorem str_beq (a b:ByteArray):(a.toList == b.toList) = decide (a = b):=by
 rw [Lib.toList_data,Lib.toList_data]
 obtain ⟨⟨x⟩⟩:=a
 obtain ⟨⟨y⟩⟩:=b
 by_cases h:x = y
 ·subst h;simp
 ·have:¬ ((⟨⟨x⟩⟩:ByteArray) = ⟨⟨y⟩⟩):=by intro e;injection e with e;injection e with e;exact h e
  rw [decide_eq_false this];simpa using h
def wordB (s:ByteArray):Bool:=Lib.containsS wordsL s
theorem wordB_of {s:ByteArray} {k:Nat} (hk:k < 10) (h:wordsL.getD k ByteArray.empty = s):wordB s = true:=by
 refine (Lib.containsS_iff _ _).2 ?_
 rw [← h,List.getD_eq_getElem?_getD,List.getElem?_eq_getElem (show k < wordsL.length from hk),Option.getD_some]
 exact List.getElem_mem _
theorem wordB_not {s:ByteArray} (h:∀ j,j < 10 → wordsL.getD j ByteArray.empty ≠ s):wordB s = false:=by
 cases hb:wordB s with
 | false => rfl
 | true =>
  obtain ⟨j,hj,he⟩:=List.getElem_of_mem ((Lib.containsS_iff _ _).1 hb)
  refine (h j hj ?_).elim
  rw [List.getD_eq_getElem?_getD,List.getElem?_eq_getElem hj,Option.getD_some];exact he
theorem word_any (s:ByteArray) (w:World):Calls Tryz.prog 84 #[.string s] w fun e w' => e = .returned (.bool (wordB s)) ∧ Below w.heap.size w w':=by
 obtain ⟨wb,hwb⟩:∃ b,wordB s = b:=⟨_,rfl⟩
 rw [hwb]
 have HWB:=hid hwb
 clear hwb
 have HW:=hid (fun w => lex.words_any w)
 go_enter Tryz.func84,Tryz.ntmps84
 go_wp2_with (go_at_call 134;(with_reducible refine (HW.out _).mono ?_);rintro e w1 ⟨rfl,rfl⟩)
 go_loop [4] (fun i => ∃ k:Nat,k ≤ 10 ∧ i = .int .i64 (k:Int) ∧ Hid (∀ j,j < k → wordsL.getD j ByteArray.empty ≠ s)) (fun i => 10 - (intOf i).toNat)
 case atStart => exact ⟨0,by omega,rfl,fun j hj => by omega⟩
 case round =>
  obtain ⟨k,hk,rfl,hno⟩:=hrel
  by_cases hlt:k < 10
  ·have hcell:=words_at w k hlt
   unfold WdsR at hcell
   obtain ⟨x,hx⟩:∃ x,wordsL.getD k ByteArray.empty = x:=⟨_,rfl⟩
   rw [hx] at hcell
   have hb:=str_beq x s
   have HX:=hid hx
   clear hx
   by_cases he:x = s
   ·rw [decide_eq_true he] at hb
    have HE:=hid he
    clear he
    go_wp2
    go_ret
    exact ⟨ret_bool (by rw [← HWB.out,wordB_of hlt (HX.out.trans HE.out)]),bq⟩
   ·rw [decide_eq_false he] at hb
    have HE:=hid he
    clear he
    go_wp2
    go_round
    case rel => exact ⟨k + 1,by omega,by go_num,fun j hj => by by_cases h:j < k;(· exact hno.out j h);(· obtain rfl:j = k:=oq;rw [HX.out];exact HE.out)⟩
    case measure => simp [intOf];omega
  ·go_wp2
   go_ret
   exact ⟨ret_bool (by rw [← HWB.out,wordB_not (fun j hj => hno.out j oq)]),bq⟩
def okB (first:Bool) (c:UInt8):Bool:=smallB c || (!first && (digitB c || (c.toNat:Int) == 95))
def okL:Bool → List UInt8 → Bool
 | _,[] => true
 | first,c :: l => okB first c && okL false l
def nameOK (s:ByteArray):Bool:=okL true s.data.toList && !s.data.toList.isEmpty && decide (s.size ≤ 100) && !wordB s
theorem drop_byte {s:ByteArray} {k:Nat} (h:k < s.size):s.data.toList.drop k = s[k] :: s.data.toList.drop (k + 1):=by
 rw [List.drop_eq_getElem_cons (by simpa using h)];rfl
theorem nameOK_no {s:ByteArray} (h:okL true s.data.toList = false):nameOK s = false:=by unfold nameOK;rw [h];rfl
set_option maxHeartbeats 1000000 in
theorem right_any (s:ByteArray) (w:World) (hs:s.size ≤ 9223372036854775807):Calls Tryz.prog 34 #[.string s] w fun e w' => e = .returned (.bool (nameOK s)) ∧ Below w.heap.size w w':=by
 obtain ⟨nb,hnb⟩:∃ b,nameOK s = b:=⟨_,rfl⟩
 rw [hnb]
 have HNB:=hid hnb
 clear hnb
 go_enter Tryz.func34,Tryz.ntmps34
 go_wp2
 go_loop [3] (fun i => ∃ k:Nat,k ≤ s.size ∧ i = .int .i64 (k:Int) ∧ Hid (okL true s.data.toList = okL (decide (k = 0)) (s.data.toList.drop k))) (fun i => s.size - (intOf i).toNat)
 case atStart => exact ⟨0,by omega,rfl,rfl⟩
 case round =>
  obtain ⟨k,hk,rfl,hok⟩:=hrel
  by_cases hlt:k < s.size
  ·have HD:=hid (drop_byte hlt)
   have HS:=hid (fun w => rsmall_any s[k] w)
   have HG:=hid (fun w => rdigit_any s[k] w)
   have HOK:=hid hok.out
   clear hok
   have hOK:=HOK.out
   rw [HD.out,okL] at hOK
   cases h1:smallB s[k] with
   | true =>
    rw [h1] at HS
    have HN:=hid (show okL true s.data.toList = okL (decide (k + 1 = 0)) (s.data.toList.drop (k + 1)) by rw [hOK];unfold okB;rw [h1];simp)
    clear hOK h1
    go_wp2_with (first | (go_at_call 82;with_reducible refine (HS.out _).mono ?_;rintro e w' ⟨rfl,rfl⟩))
    go_round
    case rel => exact ⟨k + 1,by omega,by go_num,HN.out⟩
    case measure => simp [intOf];omega
   | false =>
    rw [h1] at HS
    by_cases h0:k = 0
    ·have HN:=hid (show okL true s.data.toList = false by rw [hOK];unfold okB;rw [h1,decide_eq_true h0];simp)
     have hk0:((k:Int) == 0) = true:=by rw [beq_iff_eq];omega
     clear hOK h1 h0
     go_wp2_with (first | (go_at_call 82;with_reducible refine (HS.out _).mono ?_;rintro e w' ⟨rfl,rfl⟩))
     go_ret
     exact ⟨ret_bool (by rw [← HNB.out,nameOK_no HN.out]),bq⟩
    ·have hk0:((k:Int) == 0) = false:=by rw [beq_eq_false_iff_ne];omega
     cases h2:digitB s[k] with
     | true =>
      rw [h2] at HG
      have HN:=hid (show okL true s.data.toList = okL (decide (k + 1 = 0)) (s.data.toList.drop (k + 1)) by rw [hOK];unfold okB;rw [h1,h2,decide_eq_false h0];simp)
      clear hOK h1 h2
      go_wp2_with (first | (go_at_call 82;with_reducible refine (HS.out _).mono ?_;rintro e w' ⟨rfl,rfl⟩) | (go_at_call 83;with_reducible refine (HG.out _).mono ?_;rintro e w' ⟨rfl,rfl⟩))
      go_round
      case rel => exact ⟨k + 1,by omega,by go_num,HN.out⟩
      case measure => simp [intOf];omega
     | false =>
      rw [h2] at HG
      by_cases h3:(s[k].toNat:Int) = 95
      ·have h3':((s[k].toNat:Int) == 95) = true:=by rw [beq_iff_eq];exact h3
       have h4':((s[k].toNat:Int) != 95) = false:=by rw [bne,h3'];rfl
       have HN:=hid (show okL true s.data.toList = okL (decide (k + 1 = 0)) (s.data.toList.drop (k + 1)) by rw [hOK];unfold okB;rw [h1,h2,h3',decide_eq_false h0];simp)
       clear hOK h1 h2 h3
       go_wp2_with (first | (go_at_call 82;with_reducible refine (HS.out _).mono ?_;rintro e w' ⟨rfl,rfl⟩) | (go_at_call 83;with_reducible refine (HG.out _).mono ?_;rintro e w' ⟨rfl,rfl⟩))
       go_round
       case rel => exact ⟨k + 1,by omega,by go_num,HN.out⟩
       case measure => simp [intOf];omega
      ·have h3':((s[k].toNat:Int) == 95) = false:=by rw [beq_eq_false_iff_ne];exact h3
       have h4':((s[k].toNat:Int) != 95) = true:=by rw [bne,h3'];rfl
       have HN:=hid (show okL true s.data.toList = false by rw [hOK];unfold okB;rw [h1,h2,h3',decide_eq_false h0];simp)
       clear hOK h1 h2 h3
       go_wp2_with (first | (go_at_call 82;with_reducible refine (HS.out _).mono ?_;rintro e w' ⟨rfl,rfl⟩) | (go_at_call 83;with_reducible refine (HG.out _).mono ?_;rintro e w' ⟨rfl,rfl⟩))
       go_ret
       exact ⟨ret_bool (by rw [← HNB.out,nameOK_no HN.out]),bq⟩
  ·have hke:k = s.size:=by omega
   have hok1:okL true s.data.toList = true:=by
    rw [hok.out,List.drop_eq_nil_of_le (by simp [hke])];rfl
   have HWd:=hid (fun w => word_any s w)
   have HOK:=hid hok1
   clear hok hok1
   by_cases he:s.data.toList = []
   ·have he1:s.toList = []:=by rw [Lib.toList_data];exact he
    have he2:(!s.toList.isEmpty) = false:=by rw [he1];rfl
    have HE:=hid he
    clear he
    go_wp2_with (first | (go_at_call 84;with_reducible refine (HWd.out _).mono ?_;rintro e w1 ⟨rfl,hb1⟩))
    go_ret
    exact ⟨ret_bool (by rw [← HNB.out];unfold nameOK;rw [HE.out];simp),bq⟩
   ·have he1:s.toList.isEmpty = false:=by rw [Lib.toList_data];simpa using he
    have he2:¬ s.toList = []:=by rw [Lib.toList_data];exact he
    have he3:s.data.toList.isEmpty = false:=by simpa using he
    have HE:=hid he3
    clear he he3
    by_cases h100:s.size ≤ 100
    ·have h100':(s.size:Int) ≤ 100:=by omega
     go_wp2_with (first | (go_at_call 84;with_reducible refine (HWd.out _).mono ?_;rintro e w1 ⟨rfl,hb1⟩))
     go_ret
     exact ⟨ret_bool (by rw [← HNB.out];unfold nameOK;rw [HOK.out,HE.out,decide_eq_true h100];simp),bq⟩
    ·have h100':(100:Int) < (s.size:Int):=by omega
     go_wp2_with (first | (go_at_call 84;with_reducible refine (HWd.out _).mono ?_;rintro e w1 ⟨rfl,hb1⟩))
     go_ret
     exact ⟨ret_bool (by rw [← HNB.out];unfold nameOK;rw [decide_eq_false h100];simp),bq⟩
open Go.RowKit
theorem ret_int {k:IntKind} {a b:Int} (h:a = b):Ending.returned (.int k a) = .returned (.int k b):=by rw [h]
def inB (n lo hi:Int):Bool:=decide (lo ≤ n) && decide (n ≤ hi)
theorem number_ref (n lo hi:Int) (w:World):Calls Tryz.prog 35 #[.int .i64 n,.int .i64 lo,.int .i64 hi] w fun e w' => e = .returned (.bool (inB n lo hi)) ∧ w = w':=by
 unfold inB
 by_cases h1:lo ≤ n
 ·by_cases h2:n ≤ hi
  ·have E:=hid (show (decide (lo ≤ n) && decide (n ≤ hi)) = true by simp;omega)
   go_enter Tryz.func35,Tryz.ntmps35
   go_wp2
   go_ret
   exact ⟨ret_bool (by rw [E.out]),rfl⟩
  ·have E:=hid (show (decide (lo ≤ n) && decide (n ≤ hi)) = false by simp;omega)
   have h2':hi < n:=by omega
   have h3:decide (n ≤ hi) = false:=by simpa using h2'
   clear h2
   go_enter Tryz.func35,Tryz.ntmps35
   go_wp2
   go_ret
   exact ⟨ret_bool (by rw [E.out]),rfl⟩
 ·have E:=hid (show (decide (lo ≤ n) && decide (n ≤ hi)) = false by simp;omega)
  have h1':n < lo:=by omega
  have h3:decide (lo ≤ n) = false:=by simpa using h1'
  clear h1
  go_enter Tryz.func35,Tryz.ntmps35
  go_wp2
  go_ret
  exact ⟨ret_bool (by rw [E.out]),rfl⟩
def szL:PL → Int → Int → Int
 | .nil,n,_ => n
 | .cons _ _ _ _ args _ tl,n,most => if n ≤ most then szL tl (n + szL args 1 (most - n)) most else n
theorem szL_bd:∀ (l:PL) (n most:Int),1 ≤ n → n ≤ most + 1 → n ≤ szL l n most ∧ szL l n most ≤ most + 1:=by
 intro l
 induction l with
 | nil => intro n most h1 h2;exact ⟨Int.le_refl _,h2⟩
 | cons k nm n' d args a tl ih1 ih2 =>
  intro n most h1 h2
  rw [szL]
  split
  ·rename_i h
   have h3:=ih1 1 (most - n) oq oq
   have h4:=ih2 (n + szL args 1 (most - n)) most oq oq
   omega
  ·omega
def ev (e:PE) (ad:Option Addr) (cap:Nat):Value:=.agg #[.int .i64 e.k,.string e.nm,.int .i64 e.n,.int .i64 e.d,.slice ad e.args.len cap,.int .i64 e.a]
def SizeSaid (e:PE):Prop:=∀ (w:World) (ad:Option Addr) (cap:Nat) (most:Int),AE w e ad cap → 0 ≤ most → most ≤ 1000 →
 Calls Tryz.prog 36 #[ev e ad cap,.int .i64 most] w fun x w' => x = .returned (.int .i64 (szL e.args 1 most)) ∧ Below w.heap.size w w'
def Rest (wr:World) (ad:Option Addr) (l rest:PL) (i:Nat):Prop :=
 i + rest.len = l.len ∧ rest.sz ≤ l.sz ∧ (rest = .nil ∨ ∃ b o,ad = some ⟨b,o,none⟩ ∧ b < wr.heap.size ∧ AC wr rest b (o + i * 6))
theorem Rest.start {w:World} {ad:Option Addr} {l:PL} (h:AS w l ad):Rest w ad l l 0:=by
 refine ⟨by omega,Nat.le_refl _,?_⟩
 rcases h with h | ⟨b,o,e,hb,h⟩
 ·exact .inl h
 ·exact .inr ⟨b,o,e,hb,by simpa using h⟩
theorem Rest.below {w w':World} {ad:Option Addr} {l rest:PL} {i:Nat} (h:Rest w ad l rest i) (hb:Below w.heap.size w w'):Rest w' ad l rest i:=by
 obtain ⟨h1,h2,h3⟩:=h
 refine ⟨h1,h2,?_⟩
 rcases h3 with h3 | ⟨b,o,e,hlt,h3⟩
 ·exact .inl h3
 ·exact .inr ⟨b,o,e,Nat.lt_of_lt_of_le hlt hb.size,h3.below hb _ _ _ hlt⟩
theorem Rest.tail {w:World} {ad:Option Addr} {l tl args:PL} {k n d a:Int} {nm:ByteArray} {i:Nat} (h:Rest w ad l (.cons k nm n d args a tl) i):Rest w ad l tl (i + 1):=by
 obtain ⟨h1,h2,h3⟩:=h
 refine ⟨by simp only [PL.len] at h1;omega,by simp only [PL.sz] at h2;omega,?_⟩
 rcases h3 with h3 | ⟨b,o,e,hlt,h3⟩
 ·cases h3
 ·obtain ⟨_,_,_,_,_,_,_,ht⟩:=h3
  exact .inr ⟨b,o,e,hlt,by rw [show o + (i + 1) * 6 = o + i * 6 + 6 by omega];exact ht⟩
def SzRel (w:World) (e:PE) (ad:Option Addr) (cap:Nat) (most:Int) (v5 v6:Value) (wr:World):Prop :=
 ∃ (i:Nat) (n:Int) (rest:PL),v6 = .int .i64 (i:Int) ∧ v5 = .int .i64 n ∧ Rest wr ad e.args rest i ∧ 1 ≤ n ∧ n ≤ most + 1 ∧ szL rest n most = szL e.args 1 most ∧
  wr.heap[w.heap.size]? = some (.cells #[.int .i64 e.k,.string e.nm,.int .i64 e.n,.int .i64 e.d,.slice ad e.args.len cap,.int .i64 e.a] 95 (0,0)) ∧ Below w.heap.size w wr
set_option maxRecDepth 100000 in
set_option maxHeartbeats 1000000 in
theorem size_step (e:PE) (ih:∀ e':PE,e'.args.sz < e.args.sz → SizeSaid e'):SizeSaid e:=by
 intro w ad cap most hae hm1 hm2
 obtain ⟨k,nm,n,d,args,a⟩:=e
 have hlen:=hae.len
 simp only at hlen
 have HAE:=hid hae
 have HIH:=hid ih
 clear hae ih
 unfold ev
 simp only
 obtain ⟨fin,hfin⟩:∃ fin,szL args 1 most = fin:=⟨_,rfl⟩
 rw [hfin]
 have HF:=hid hfin
 clear hfin
 go_enter Tryz.func36,Tryz.ntmps36
 go_wp2
 go_loopw [5,6] (fun v5 v6 wr => Hid (SzRel w ⟨k,nm,n,d,args,a⟩ ad cap most v5 v6 wr)) (fun _ i _ => args.len - (intOf i).toNat)
 case atStart => exact ⟨0,1,args,rfl,rfl,(Rest.start HAE.out.args).below bq,by omega,by omega,rfl,heap_new w _,bq⟩
 case round =>
  obtain ⟨i,c,rest,rfl,rfl,hrest,hc1,hc2,hsz,hbox,hbel⟩:=hrel.out
  clear hrel
  obtain ⟨⟨x0,x1,x2,x3,x4,x5⟩,xf⟩:=cells6' hbox
  have HBOX:=hid hbox
  have HBEL:=hid hbel
  have hil:=hrest.1
  simp only at hil
  have hbl:=lt_of_block hbox
  have HR:=hid hrest
  have HSZ:=hid hsz
  clear hbox hbel hrest hsz
  cases rest with
  | nil =>
   have hil':(i:Int) = (args.len:Int):=by simp only [PL.len] at hil;omega
   go_wp2
   go_ret
   exact ⟨ret_int (by rw [← HF.out,← HSZ.out];rfl),HBEL.out⟩
  | cons k1 nm1 n1 d1 args1 a1 tl =>
   have hil':(i:Int) < (args.len:Int):=by simp only [PL.len] at hil;omega
   by_cases hcm:c ≤ most
   ·obtain ⟨b,o,rfl,hb,h0,h1,h2,h3,h5,hn,⟨ad1,cap1,h4,hcap1,hcm1,hd1⟩,ht⟩:=HR.out.2.2.resolve_left (by intro h;cases h)
    have hsub:=HR.out.2.1
    simp only [PL.sz] at hsub
    have HC:=hid (HIH.out ⟨k1,nm1,n1,d1,args1,a1⟩ (by show args1.sz < args.sz;omega) wr ad1 cap1 (most - c) ⟨hn,⟨hcap1,hcm1⟩,hd1⟩ oq oq)
    have hbd:=szL_bd args1 1 (most - c) oq oq
    have hs2:=HSZ.out
    rw [szL,if_pos hcm] at hs2
    have HS2:=hid hs2
    obtain ⟨m2,hm2'⟩:∃ m2,szL args1 1 (most - c) = m2:=⟨_,rfl⟩
    unfold ev at HC
    simp only [hm2'] at HC
    rw [hm2'] at hbd
    have HM2:=hid hm2'
    clear hs2 hm2' ht hn hd1
    go_wp2_with (go_at_call 36;refine HC.out.mono ?_;rintro e w2 ⟨rfl,hb2⟩)
    go_roundw
    case rel =>
     refine ⟨i + 1,c + m2,tl,by go_num,rfl,HR.out.tail.below hb2,by omega,by omega,by rw [← HM2.out];exact HS2.out,?_,bq⟩
     exact (hb2.block _ hbl).trans HBOX.out
    case measure => simp [intOf];omega
   ·have hcm':most < c:=by omega
    have hcd:decide (c ≤ most) = false:=by simpa using hcm'
    go_wp2
    go_ret
    exact ⟨ret_int (by rw [← HF.out,← HSZ.out,szL,if_neg oq]),HBEL.out⟩
theorem size_any (e:PE):SizeSaid e:=by
 suffices h:∀ (N:Nat) (e:PE),e.args.sz < N → SizeSaid e from h _ e (Nat.lt_succ_self _)
 intro N
 induction N with
 | zero => intro e h;omega
 | succ N ih => intro e h;exact size_step e (fun e' h' => ih e' oq)
def dpR:PL → Nat → Int → Int
 | .nil,_,acc => acc
 | .cons _ _ _ _ args _ tl,m,acc => dpR tl m (max acc (match m with | 0 => 0 | m + 1 => dpR args m 0 + 1))
def dpE (e:PE) (most:Nat):Int:=match most with | 0 => 0 | m + 1 => dpR e.args m 0 + 1
theorem dpR_bd:∀ (l:PL) (m:Nat) (acc:Int),0 ≤ acc → acc ≤ m → 0 ≤ dpR l m acc ∧ dpR l m acc ≤ m:=by
 intro l
 induction l with
 | nil => intro m acc h1 h2;exact ⟨h1,h2⟩
 | cons k nm n d args a tl ih1 ih2 =>
  intro m acc h1 h2
  match m with
  | 0 =>
   rw [dpR]
   exact ih2 0 _ oq oq
  | m + 1 =>
   have h3:=ih1 m 0 oq oq
   rw [dpR]
   exact ih2 (m + 1) _ oq oq
theorem dpE_bd (e:PE) (m:Nat):0 ≤ dpE e m ∧ dpE e m ≤ m:=by
 match m with
 | 0 => simp [dpE]
 | m + 1 => have:=dpR_bd e.args m 0 oq oq;simp only [dpE];omega
def DepSaid (e:PE):Prop:=∀ (w:World) (ad:Option Addr) (cap:Nat) (most:Nat),AE w e ad cap → most ≤ 1000 →
 Calls Tryz.prog 37 #[ev e ad cap,.int .i64 (most:Int)] w fun x w' => x = .returned (.int .i64 (dpE e most)) ∧ Below w.heap.size w w'
def DpRel (w:World) (e:PE) (ad:Option Addr) (cap:Nat) (m:Nat) (v5 v6:Value) (wr:World):Prop :=
 ∃ (i:Nat) (n:Int) (rest:PL),v6 = .int .i64 (i:Int) ∧ v5 = .int .i64 n ∧ Rest wr ad e.args rest i ∧ 0 ≤ n ∧ n ≤ m ∧ dpR rest m n = dpR e.args m 0 ∧
  wr.heap[w.heap.size]? = some (.cells #[.int .i64 e.k,.string e.nm,.int .i64 e.n,.int .i64 e.d,.slice ad e.args.len cap,.int .i64 e.a] 95 (0,0)) ∧ Below w.heap.size w wr
set_option maxRecDepth 100000 in
set_option maxHeartbeats 1000000 in
theorem dep_step (e:PE) (ih:∀ e':PE,e'.args.sz < e.args.sz → DepSaid e'):DepSaid e:=by
 intro w ad cap most hae hm
 obtain ⟨k,nm,n,d,args,a⟩:=e
 have hlen:=hae.len
 simp only at hlen
 have HAE:=hid hae
 have HIH:=hid ih
 clear hae ih
 unfold ev
 simp only
 match most,hm with
 | 0,_ =>
  show Calls _ _ #[_,.int .i64 0] _ _
  go_enter Tryz.func37,Tryz.ntmps37
  go_wp2
  go_ret
  exact ⟨rfl,bq⟩
 | m + 1,hm =>
  obtain ⟨fin,hfin⟩:∃ fin,dpR args m 0 = fin:=⟨_,rfl⟩
  have hfb:=dpR_bd args m 0 oq oq
  rw [hfin] at hfb
  have HG:=hid (show dpE ⟨k,nm,n,d,args,a⟩ (m + 1) = fin + 1 by rw [← hfin];rfl)
  have HF:=hid hfin
  have hm0:(((m + 1:Nat):Int) == 0) = false:=by rw [beq_eq_false_iff_ne];omega
  have hm1:(((m + 1:Nat):Int)) = (m:Int) + 1:=by omega
  rw [hm1] at hm0
  rw [hm1]
  clear hfin
  go_enter Tryz.func37,Tryz.ntmps37
  go_wp2
  go_loopw [5,6] (fun v5 v6 wr => Hid (DpRel w ⟨k,nm,n,d,args,a⟩ ad cap m v5 v6 wr)) (fun _ i _ => args.len - (intOf i).toNat)
  case atStart => exact ⟨0,0,args,rfl,rfl,(Rest.start HAE.out.args).below bq,by omega,by omega,rfl,heap_new w _,bq⟩
  case round =>
   obtain ⟨i,c,rest,rfl,rfl,hrest,hc1,hc2,hsz,hbox,hbel⟩:=hrel.out
   clear hrel
   obtain ⟨⟨x0,x1,x2,x3,x4,x5⟩,xf⟩:=cells6' hbox
   have HBOX:=hid hbox
   have HBEL:=hid hbel
   have hil:=hrest.1
   simp only at hil
   have hbl:=lt_of_block hbox
   have HR:=hid hrest
   have HSZ:=hid hsz
   clear hbox hbel hrest hsz
   cases rest with
   | nil =>
    have hil':(i:Int) = (args.len:Int):=by simp only [PL.len] at hil;omega
    go_wp2
    go_ret
    exact ⟨ret_int (by rw [HG.out,← HF.out,← HSZ.out];rfl),HBEL.out⟩
   | cons k1 nm1 n1 d1 args1 a1 tl =>
    have hil':(i:Int) < (args.len:Int):=by simp only [PL.len] at hil;omega
    obtain ⟨b,o,rfl,hb,h0,h1,h2,h3,h5,hn,⟨ad1,cap1,h4,hcap1,hcm1,hd1⟩,ht⟩:=HR.out.2.2.resolve_left (by intro h;cases h)
    have hsub:=HR.out.2.1
    simp only [PL.sz] at hsub
    have HC:=hid (HIH.out ⟨k1,nm1,n1,d1,args1,a1⟩ (by show args1.sz < args.sz;omega) wr ad1 cap1 m ⟨hn,⟨hcap1,hcm1⟩,hd1⟩ oq)
    have hbd:=dpE_bd ⟨k1,nm1,n1,d1,args1,a1⟩ m
    obtain ⟨m2,hm2'⟩:∃ m2,dpE ⟨k1,nm1,n1,d1,args1,a1⟩ m = m2:=⟨_,rfl⟩
    unfold ev at HC
    simp only [hm2'] at HC
    rw [hm2'] at hbd
    have HS2:=hid (show dpR tl m (max c m2) = dpR args m 0 from by rw [← hm2'];exact HSZ.out)
    clear hm2' ht hn hd1
    go_wp2_with (go_at_call 37;refine HC.out.mono ?_;rintro e w2 ⟨rfl,hb2⟩)
    go_roundw
    case rel =>
     refine ⟨i + 1,max c m2,tl,by go_num,(by first | rfl | (refine congrArg (Value.int IntKind.i64) ?_;split <;> omega)),HR.out.tail.below hb2,by omega,by omega,HS2.out,?_,bq⟩
     exact (hb2.block _ hbl).trans HBOX.out
    case measure => simp [intOf];omega
theorem dep_any (e:PE):DepSaid e:=by
 suffices h:∀ (N:Nat) (e:PE),e.args.sz < N → DepSaid e from h _ e (Nat.lt_succ_self _)
 intro N
 induction N with
 | zero => intro e h;omega
 | succ N ih => intro e h;exact dep_step e (fun e' h' => ih e' oq)
def opsL:List ByteArray:=[⟨#[43]⟩,⟨#[45]⟩,⟨#[42]⟩,⟨#[47]⟩,⟨#[37]⟩,⟨#[60]⟩,⟨#[61,61]⟩]
def sAsk:ByteArray:=⟨#[63]⟩
theorem ask_no {s:ByteArray} (h:s ≠ sAsk):(s.toList == [63]) = false:=by
 have:=str_beq s sAsk
 rw [decide_eq_false h,Lib.toList_data sAsk] at this
 exact this
def bdE (k n d:Int) (nm:ByteArray) (len:Nat):Bool :=
 if d ≠ 0 then false
 else if k = 11 then nameOK nm && decide (len = 0) && decide (n = 0)
 else if k = 12 then decide (nm = ⟨#[]⟩) && decide (len = 0) && inB n 0 1000000000
 else if k ≠ 13 ∨ n ≠ 0 then false
 else if nm = sAsk then decide (len = 3)
 else if Lib.containsS opsL nm = true then decide (len = 2) else false
def bdR:PL → Bool
 | .nil => true
 | .cons k nm n d args _ tl => (bdR args && bdE k n d nm args.len) && bdR tl
def bodyB (e:PE):Bool:=bdR e.args && bdE e.k e.n e.d e.nm e.args.len
def BodySaid (e:PE):Prop:=∀ (w:World) (ad:Option Addr) (cap:Nat),AE w e ad cap →
 Calls Tryz.prog 38 #[ev e ad cap] w fun x w' => x = .returned (.bool (bodyB e)) ∧ Below w.heap.size w w'
def BdRel (w:World) (e:PE) (ad:Option Addr) (cap:Nat) (v3:Value) (wr:World):Prop :=
 ∃ (i:Nat) (rest:PL),v3 = .int .i64 (i:Int) ∧ Rest wr ad e.args rest i ∧ bdR rest = bdR e.args ∧
  wr.heap[w.heap.size]? = some (.cells #[.int .i64 e.k,.string e.nm,.int .i64 e.n,.int .i64 e.d,.slice ad e.args.len cap,.int .i64 e.a] 95 (0,0)) ∧ Below w.heap.size w wr
theorem opsAt (w:World) (j:Nat) (hj:j < 7):(w.alloc (Obj.cells #[.string ⟨#[43]⟩,.string ⟨#[45]⟩,.string ⟨#[42]⟩,.string ⟨#[47]⟩,.string ⟨#[37]⟩,.string ⟨#[60]⟩,.string ⟨#[61,61]⟩] 9)).cell? ⟨w.heap.size,j,none⟩ = some (.string (opsL.getD j ByteArray.empty)):=by
 have hb':=heap_new w (Obj.cells #[.string ⟨#[43]⟩,.string ⟨#[45]⟩,.string ⟨#[42]⟩,.string ⟨#[47]⟩,.string ⟨#[37]⟩,.string ⟨#[60]⟩,.string ⟨#[61,61]⟩] 9)
 have hcw:=fun o => cell_of_row _ w.heap.size o _ _ _ hb'
 rw [hcw]
 match j,hj with
 | 0,_ => rfl
 | 1,_ => rfl
 | 2,_ => rfl
 | 3,_ => rfl
 | 4,_ => rfl
 | 5,_ => rfl
 | 6,_ => rfl
 | j + 7,h => omega
theorem ops_yes {s:ByteArray} {k:Nat} (hk:k < 7) (h:opsL.getD k ByteArray.empty = s):Lib.containsS opsL s = true:=by
 refine (Lib.containsS_iff _ _).2 ?_
 rw [← h,List.getD_eq_getElem?_getD,List.getElem?_eq_getElem (show k < opsL.length from hk),Option.getD_some]
 exact List.getElem_mem _
theorem ops_no {s:ByteArray} (h:∀ j,j < 7 → opsL.getD j ByteArray.empty ≠ s):Lib.containsS opsL s = false:=by
 cases hb:Lib.containsS opsL s with
 | false => rfl
 | true =>
  obtain ⟨j,hj,he⟩:=List.getElem_of_mem ((Lib.containsS_iff _ _).1 hb)
  refine (h j hj ?_).elim
  rw [List.getD_eq_getElem?_getD,List.getElem?_eq_getElem hj,Option.getD_some];exact he
def OpRel (W:World) (nm:ByteArray) (v5:Value) (wr:World):Prop :=
 ∃ j:Nat,j ≤ 7 ∧ v5 = .int .i64 (j:Int) ∧ (∀ i,i < j → opsL.getD i ByteArray.empty ≠ nm) ∧ Below W.heap.size W wr
set_option maxRecDepth 100000 in
set_option maxHeartbeats 4000000 in
theorem body_step (e:PE) (ih:∀ e':PE,e'.args.sz < e.args.sz → BodySaid e'):BodySaid e:=by
 intro w ad cap hae
 obtain ⟨k,nm,n,d,args,a⟩:=e
 have hlen:=hae.len
 have hnm:=hae.nums.2.2.2.2
 simp only at hlen hnm
 have HAE:=hid hae
 have HIH:=hid ih
 clear hae ih
 unfold ev
 simp only
 obtain ⟨fin,hfin⟩:∃ fin,bodyB ⟨k,nm,n,d,args,a⟩ = fin:=⟨_,rfl⟩
 rw [hfin]
 have HF:=hid (show (bdR args && bdE k n d nm args.len) = fin from hfin)
 clear hfin
 go_enter Tryz.func38,Tryz.ntmps38
 go_wp2
 go_loopw [3] (fun v3 wr => Hid (BdRel w ⟨k,nm,n,d,args,a⟩ ad cap v3 wr)) (fun i _ => args.len - (intOf i).toNat)
 case atStart => exact ⟨0,args,rfl,(Rest.start HAE.out.args).below bq,rfl,heap_new w _,bq⟩
 case round =>
  obtain ⟨i,rest,rfl,hrest,hsz,hbox,hbel⟩:=hrel.out
  clear hrel
  obtain ⟨⟨x0,x1,x2,x3,x4,x5⟩,xf⟩:=cells6' hbox
  have HBOX:=hid hbox
  have HBEL:=hid hbel
  have hil:=hrest.1
  simp only at hil
  have hbl:=lt_of_block hbox
  have hsB:=hbel.size
  have HR:=hid hrest
  clear hbox hbel hrest
  cases rest with
  | cons k1 nm1 n1 d1 args1 a1 tl =>
   have HSZ:=hid hsz
   clear hsz
   have hil':(i:Int) < (args.len:Int):=by simp only [PL.len] at hil;omega
   obtain ⟨b,o,rfl,hb,h0,h1,h2,h3,h5,hn,⟨ad1,cap1,h4,hcap1,hcm1,hd1⟩,ht⟩:=HR.out.2.2.resolve_left (by intro h;cases h)
   have hsub:=HR.out.2.1
   simp only [PL.sz] at hsub
   have HC:=hid (HIH.out ⟨k1,nm1,n1,d1,args1,a1⟩ (by show args1.sz < args.sz;omega) wr ad1 cap1 ⟨hn,⟨hcap1,hcm1⟩,hd1⟩)
   unfold ev at HC
   simp only at HC
   cases hbb:bodyB ⟨k1,nm1,n1,d1,args1,a1⟩ with
   | true =>
    rw [hbb] at HC
    have HS2:=hid (show bdR tl = bdR args from by
     have h:=HSZ.out
     rw [bdR,show (bdR args1 && bdE k1 n1 d1 nm1 args1.len) = true from hbb,Bool.true_and] at h
     exact h)
    clear hbb ht hn hd1
    go_wp2_with (go_at_call 38;refine HC.out.mono ?_;rintro e w2 ⟨rfl,hb2⟩)
    go_roundw
    case rel => exact ⟨i + 1,tl,by go_num,HR.out.tail.below hb2,HS2.out,(hb2.block _ hbl).trans HBOX.out,bq⟩
    case measure => simp [intOf];omega
   | false =>
    rw [hbb] at HC
    have HS2:=hid (show bdR args = false from by
     have h:=HSZ.out
     rw [bdR,show (bdR args1 && bdE k1 n1 d1 nm1 args1.len) = false from hbb,Bool.false_and] at h
     exact h.symm)
    clear hbb ht hn hd1
    go_wp2_with (go_at_call 38;refine HC.out.mono ?_;rintro e w2 ⟨rfl,hb2⟩)
    go_ret
    exact ⟨ret_bool (by rw [← HF.out,HS2.out];rfl),bq⟩
  | nil =>
   have hil':(i:Int) = (args.len:Int):=by simp only [PL.len] at hil;omega
   have HSZ:=hid (show true = bdR args from hsz)
   have HRI:=hid (fun w => right_any nm w hnm)
   have HNU:=hid (fun w => number_ref n 0 1000000000 w)
   clear hsz hil
   by_cases hd:d = 0
   ·subst hd
    by_cases hk1:k = 11
    ·subst hk1
     cases hno:nameOK nm with
     | false =>
      rw [hno] at HRI
      go_wp2_with (first | (go_at_call 34;refine (HRI.out _).mono ?_;rintro e w2 ⟨rfl,hb2⟩;obtain ⟨hc2,hf2⟩:=bcell hb2) | (go_at_call 35;refine (HNU.out _).mono ?_;rintro e w2 ⟨rfl,rfl⟩))
      all_goals (go_ret;exact ⟨ret_bool (by rw [← HF.out,← HSZ.out];simp [bdE,hno]),bq⟩)
     | true =>
      rw [hno] at HRI
      by_cases hl0:args.len = 0
      ·have hl1:((args.len:Int) == 0) = true:=by rw [beq_iff_eq];omega
       have HL:=hid hl0
       clear hl0
       by_cases hn0:n = 0
       ·subst hn0
        go_wp2_with (first | (go_at_call 34;refine (HRI.out _).mono ?_;rintro e w2 ⟨rfl,hb2⟩;obtain ⟨hc2,hf2⟩:=bcell hb2) | (go_at_call 35;refine (HNU.out _).mono ?_;rintro e w2 ⟨rfl,rfl⟩))
        all_goals (go_ret;exact ⟨ret_bool (by rw [← HF.out,← HSZ.out];simp [bdE,hno,HL.out]),bq⟩)
       ·have hn1:(n == 0) = false:=beq_eq_false_iff_ne.2 hn0
        go_wp2_with (first | (go_at_call 34;refine (HRI.out _).mono ?_;rintro e w2 ⟨rfl,hb2⟩;obtain ⟨hc2,hf2⟩:=bcell hb2) | (go_at_call 35;refine (HNU.out _).mono ?_;rintro e w2 ⟨rfl,rfl⟩))
        all_goals (go_ret;exact ⟨ret_bool (by rw [← HF.out,← HSZ.out];simp [bdE,hno,hn0]),bq⟩)
      ·have hl1:((args.len:Int) == 0) = false:=by rw [beq_eq_false_iff_ne];omega
       have HL:=hid hl0
       clear hl0
       go_wp2_with (first | (go_at_call 34;refine (HRI.out _).mono ?_;rintro e w2 ⟨rfl,hb2⟩;obtain ⟨hc2,hf2⟩:=bcell hb2) | (go_at_call 35;refine (HNU.out _).mono ?_;rintro e w2 ⟨rfl,rfl⟩))
       all_goals (go_ret;exact ⟨ret_bool (by rw [← HF.out,← HSZ.out];simp [bdE,hno,HL.out]),bq⟩)
    ·have hk1':(k == 11) = false:=beq_eq_false_iff_ne.2 hk1
     by_cases hk2:k = 12
     ·subst hk2
      by_cases he:nm = ⟨#[]⟩
      ·subst he
       by_cases hl0:args.len = 0
       ·have hl1:((args.len:Int) == 0) = true:=by rw [beq_iff_eq];omega
        have HL:=hid hl0
        clear hl0
        go_wp2_with (first | (go_at_call 34;refine (HRI.out _).mono ?_;rintro e w2 ⟨rfl,hb2⟩;obtain ⟨hc2,hf2⟩:=bcell hb2) | (go_at_call 35;refine (HNU.out _).mono ?_;rintro e w2 ⟨rfl,rfl⟩))
        all_goals (go_ret;exact ⟨ret_bool (by rw [← HF.out,← HSZ.out];simp [bdE,HL.out]),bq⟩)
       ·have hl1:((args.len:Int) == 0) = false:=by rw [beq_eq_false_iff_ne];omega
        have HL:=hid hl0
        clear hl0
        go_wp2_with (first | (go_at_call 34;refine (HRI.out _).mono ?_;rintro e w2 ⟨rfl,hb2⟩;obtain ⟨hc2,hf2⟩:=bcell hb2) | (go_at_call 35;refine (HNU.out _).mono ?_;rintro e w2 ⟨rfl,rfl⟩))
        all_goals (go_ret;exact ⟨ret_bool (by rw [← HF.out,← HSZ.out];simp [bdE,HL.out]),bq⟩)
      ·have he0:nm.data.toList ≠ []:=by
        intro h;apply he
        obtain ⟨⟨l⟩⟩:=nm
        simp at h;subst h;rfl
       have he1:nm.toList.isEmpty = false:=by rw [Lib.toList_data];simpa using he0
       have he2:¬ nm.toList = []:=by rw [Lib.toList_data];exact he0
       have HE:=hid he
       clear he he0
       go_wp2_with (first | (go_at_call 34;refine (HRI.out _).mono ?_;rintro e w2 ⟨rfl,hb2⟩;obtain ⟨hc2,hf2⟩:=bcell hb2) | (go_at_call 35;refine (HNU.out _).mono ?_;rintro e w2 ⟨rfl,rfl⟩))
       all_goals (go_ret;exact ⟨ret_bool (by rw [← HF.out,← HSZ.out];simp [bdE,HE.out]),bq⟩)
     ·have hk2':(k == 12) = false:=beq_eq_false_iff_ne.2 hk2
      by_cases hk3:k = 13
      ·subst hk3
       clear hk1 hk2 hk1' hk2'
       by_cases hn0:n = 0
       ·subst hn0
        by_cases hq:nm = sAsk
        ·subst hq
         have hq':(sAsk.toList == [63]) = true:=by rw [Lib.toList_data];rfl
         by_cases hl3:args.len = 3
         ·have hl1:((args.len:Int) == 3) = true:=by rw [beq_iff_eq];omega
          have HL:=hid hl3
          clear hl3
          go_wp2_with (first | (go_at_call 34;refine (HRI.out _).mono ?_;rintro e w2 ⟨rfl,hb2⟩;obtain ⟨hc2,hf2⟩:=bcell hb2) | (go_at_call 35;refine (HNU.out _).mono ?_;rintro e w2 ⟨rfl,rfl⟩))
          all_goals (go_ret;exact ⟨ret_bool (by rw [← HF.out,← HSZ.out];simp [bdE,HL.out]),bq⟩)
         ·have hl1:((args.len:Int) == 3) = false:=by rw [beq_eq_false_iff_ne];omega
          have HL:=hid hl3
          clear hl3
          go_wp2_with (first | (go_at_call 34;refine (HRI.out _).mono ?_;rintro e w2 ⟨rfl,hb2⟩;obtain ⟨hc2,hf2⟩:=bcell hb2) | (go_at_call 35;refine (HNU.out _).mono ?_;rintro e w2 ⟨rfl,rfl⟩))
          all_goals (go_ret;exact ⟨ret_bool (by rw [← HF.out,← HSZ.out];simp [bdE,HL.out]),bq⟩)
        ·have hq':(nm.toList == [63]) = false:=ask_no hq
         have HQ:=hid hq
         clear hq
         obtain ⟨wo,rfl⟩:∃ wo:World,wo = wr:=⟨_,rfl⟩
         go_wp2
         go_loopw [5] (fun v5 wr2 => Hid (OpRel (wo.alloc (Obj.cells #[.string ⟨#[43]⟩,.string ⟨#[45]⟩,.string ⟨#[42]⟩,.string ⟨#[47]⟩,.string ⟨#[37]⟩,.string ⟨#[60]⟩,.string ⟨#[61,61]⟩] 9)) nm v5 wr2)) (fun i _ => 7 - (intOf i).toNat)
         case atStart => exact ⟨0,by omega,rfl,fun j hj => by omega,bq⟩
         case round =>
          obtain ⟨j,hj,rfl,hno,hb3⟩:=hrel.out
          clear hrel
          have HNO:=hid hno
          have HB3:=hid hb3
          have l3:wo.heap.size + 1 ≤ wr.heap.size:=by have:=hb3.size;simpa using this
          clear hno
          by_cases hj7:j < 7
          ·have hop:=opsAt wo j hj7
           obtain ⟨x,hx⟩:∃ x,opsL.getD j ByteArray.empty = x:=⟨_,rfl⟩
           rw [hx] at hop
           have c0:=(hb3.cell (p:=⟨wo.heap.size,j,none⟩) (by simp)).trans hop
           have c1:=(hb3.cell (p:=⟨w.heap.size,1,none⟩) (by simp;omega)).trans ((World.cell?_of_block (w:=wo) (a:=⟨w.heap.size,1,none⟩) (heap_alloc_old _ _ hbl)).trans x1)
           have c4:=(hb3.cell (p:=⟨w.heap.size,4,none⟩) (by simp;omega)).trans ((World.cell?_of_block (w:=wo) (a:=⟨w.heap.size,4,none⟩) (heap_alloc_old _ _ hbl)).trans x4)
           have hb:=str_beq x nm
           have HX:=hid hx
           clear hx hop hb3
           by_cases he:x = nm
           ·rw [decide_eq_true he] at hb
            have HE:=hid he
            clear he
            go_wp2
            go_region
            go_wp2
            go_ret
            have hbel:=HBEL.out
            have hb3:=HB3.out
            have e1:((args.len:Int) == 2) = decide (args.len = 2):=by rw [Bool.eq_iff_iff];simp;omega
            exact ⟨ret_bool (by rw [← HF.out,← HSZ.out];refine Eq.trans e1 ?_;simp [bdE,HQ.out,ops_yes hj7 (HX.out.trans HE.out)]),bq⟩
           ·rw [decide_eq_false he] at hb
            have HE:=hid he
            clear he
            go_wp2
            go_region
            go_wp2
            refine ⟨?_,by simp [intOf];omega⟩
            exact ⟨j + 1,by omega,by go_num,fun i hi => by by_cases h:i < j;(· exact HNO.out i h);(· obtain rfl:i = j:=oq;rw [HX.out];exact HE.out),bq⟩
          ·clear hb3
           go_wp2
           go_ret
           have hbel:=HBEL.out
           have hb3:=HB3.out
           exact ⟨ret_bool (by rw [← HF.out,← HSZ.out];simp [bdE,HQ.out,ops_no (fun j' h => HNO.out j' oq)]),bq⟩
       ·have hn1:(n == 0) = false:=beq_eq_false_iff_ne.2 hn0
        go_wp2_with (first | (go_at_call 34;refine (HRI.out _).mono ?_;rintro e w2 ⟨rfl,hb2⟩;obtain ⟨hc2,hf2⟩:=bcell hb2) | (go_at_call 35;refine (HNU.out _).mono ?_;rintro e w2 ⟨rfl,rfl⟩))
        all_goals (go_ret;exact ⟨ret_bool (by rw [← HF.out,← HSZ.out];simp [bdE,hn0]),bq⟩)
      ·have hk3':(k == 13) = false:=beq_eq_false_iff_ne.2 hk3
       go_wp2_with (first | (go_at_call 34;refine (HRI.out _).mono ?_;rintro e w2 ⟨rfl,hb2⟩;obtain ⟨hc2,hf2⟩:=bcell hb2) | (go_at_call 35;refine (HNU.out _).mono ?_;rintro e w2 ⟨rfl,rfl⟩))
       all_goals (go_ret;exact ⟨ret_bool (by rw [← HF.out,← HSZ.out];simp [bdE,hk1,hk2,hk3]),bq⟩)
   ·have hd1:(d == 0) = false:=beq_eq_false_iff_ne.2 hd
    go_wp2_with (first | (go_at_call 34;refine (HRI.out _).mono ?_;rintro e w2 ⟨rfl,hb2⟩;obtain ⟨hc2,hf2⟩:=bcell hb2) | (go_at_call 35;refine (HNU.out _).mono ?_;rintro e w2 ⟨rfl,rfl⟩))
    all_goals (go_ret;exact ⟨ret_bool (by rw [← HF.out,← HSZ.out];simp [bdE,hd]),bq⟩)
theorem body_ref (e:PE):BodySaid e:=by
 suffices h:∀ (N:Nat) (e:PE),e.args.sz < N → BodySaid e from h _ e (Nat.lt_succ_self _)
 intro N
 induction N with
 | zero => intro e h;omega
 | succ N ih => intro e h;exact body_step e (fun e' h' => ih e' oq)
end Go.Proofs.YtpjficjlfibibaaGreatDoor.syn
