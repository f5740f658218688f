/- Parts of the proof. -/
import Derived.LaidMore
import Derived.Lay
import Derived.Test.YtdgifkjaflfdeaaGreatDoorCards
import Derived.Test.YtdgifkjaflfdeaaGreatDoorTie
import Derived.Test.YtdgifkjaflfdeaaGreatDoorX45
set_option linter.all false
set_option maxRecDepth 100000
set_option maxHeartbeats 16000000
namespace Go.Proofs.YtdgifkjaflfdeaaGreatDoor.syn
open Go.Proofs.Tryz
open Go.RowKit
theorem uQ{w:World}(A C:Value)(g on bt v y z:Nat)(j:bt<w.1.size)(hbn:g<w.1.size)(E:w.cell? ⟨bt,v,none⟩=some (.int .i64 0))(F:w.cell? ⟨g,on+2,none⟩=some (.int .i64 3)) :
  Calls prog 25 #[.agg #[A,.slice (some ⟨g,on,none⟩) 1 y,.slice (some ⟨bt,v,none⟩) 1 z,C],.int .i64 0] w fun x w'=>x=.returned (.int .i64 3)/\Below w.1.size w w':=by
 obtain⟨D,f⟩:=ez (w.alloc (.cells #[A,.slice (some ⟨g,on,none⟩) 1 y,.slice (some ⟨bt,v,none⟩) 1 z,C] 35));have q:Below w.1.size w D:=by rw[<-f];exact bq
 have m:D.1[w.1.size]?=some (.cells #[A,.slice (some ⟨g,on,none⟩) 1 y,.slice (some ⟨bt,v,none⟩) 1 z,C] 35 (0,0)):=by rw[<-f];exact Yx w _
 obtain⟨⟨G,J,L,H⟩,I⟩:=Yy m;have M:=(q.cell (p:=⟨bt,_,none⟩) j).trans E;have O:=(q.cell (p:=⟨g,_,none⟩) hbn).trans F;have HB:=hid q;clear q m G H I E F j hbn;go_enter func25,ntmps25;go_upto_region 1 with fail
 first|rw[f]|skip
 clear f;go_wp2;go_ret;exact⟨rfl,HB.o⟩
theorem Zd3(w:World):Calls prog 22 #[] w fun x w'=>x=.returned (.bool true)/\Below w.1.size w w':=by
 go_enter func22,ntmps22;go_wp2_with (go_at_call 25;refine(uQ _ _ _ _ _ _ _ _ (by simp) (by simp) (by go_simp) (by go_simp)).mono ?_;rintro x f ⟨rfl,hb3⟩;have HB3:=hid hb3;clear hb3);exact Zl (v:=.bool true) (by simp only[results,results22];go_simp) rfl ⟨rfl,bq⟩
end Go.Proofs.YtdgifkjaflfdeaaGreatDoor.syn
namespace Go.Proofs.YtdgifkjaflfdeaaGreatDoor.schedApart
open Go.Proofs.Tryz
theorem jf1:(Rows.schedApartRow.inPlace == Tryz.pinned.checked.prog.inPlace 5)=true:=by kernel_rfl
theorem jf2:(Rows.schedApartRow.unfollowed == Tryz.pinned.checked.prog.unfollowed 5)=true:=by kernel_rfl
theorem jf3:(Rows.schedApartRow.recurses == Tryz.pinned.checked.prog.recurses 5)=true:=by kernel_rfl
theorem jf4:(Rows.schedApartRow.named == Tryz.pinned.checked.prog.varsNamed 5)=true:=by kernel_rfl
theorem jf:joinedFacts Tryz.pinned.checked.prog 5 Tryz.f5 Rows.schedApartSpec Rows.schedApartRow=true:=by
 unfold joinedFacts;rw[jf1,jf2,jf3,jf4]
 kernel_rfl
