/- Parts of the proof. -/
import Derived.Test.YtdgifkjaflfdeaaGreatDoorJ28
import Derived.Test.YtdgifkjaflfdeaaGreatDoorJ38
set_option linter.all false
set_option maxRecDepth 100000
set_option maxHeartbeats 16000000
namespace Go.Proofs.YtdgifkjaflfdeaaGreatDoor.syn
open Tryz
open Go.RowKit
theorem uq{f:List (Int × Int × Int)}(j:f.all index.JX=true){n:Nat}(m:n<=1000000):index.kU (index.Y4 f.reverse (n:Int))=index.X6 f (n:Int):=by
 unfold index.X6;rw[Z0];intro h;rcases h with h|h|h
 .omega
 .omega
 rw[List.any_eq_true] at h;obtain⟨o,g,h⟩:=h;rw[index.VE (List.all_eq_true.1 j o g)] at h
 cases h
theorem ZeD{w:World}{b:Nat}{f g j:Value}{t:TypeId}(h:w.1[b]?=some (.cells #[f,g,j] t (0,0))):(w.cell? ⟨b,0,none⟩=some f/\w.cell? ⟨b,1,none⟩=some g/\w.cell? ⟨b,2,none⟩=some j)/\∀o,w.frozen? ⟨b,o,none⟩=false:=by
 refine⟨⟨?_,?_,?_⟩,?_⟩
 all_goals first|(intro o;simp[World.frozen?,h])|simp[World.cell?,h]
