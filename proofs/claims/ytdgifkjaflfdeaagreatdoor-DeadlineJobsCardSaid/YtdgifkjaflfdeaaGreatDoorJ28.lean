/- Parts of the proof. -/
import Derived.Deep.OwnRows
import Derived.Test.YtdgifkjaflfdeaaGreatDoorJ27
set_option linter.all false
set_option maxRecDepth 100000
set_option maxHeartbeats 16000000
namespace Go.Proofs.YtdgifkjaflfdeaaGreatDoor.syn
open Tryz
open Go.RowKit
theorem Zah{w:World}{l:List (Int × Int × Int)}{g:Option Addr}(h:Row OpR 3 w l g):index.OpA w g l:=by
 intro k f;rcases h with h|⟨b,o,e,hb,hc⟩
 .rw[h] at f;simp at f
 obtain⟨j,m,q⟩:=hc k f;refine⟨b,o,e,hb,?_⟩;rw[show l.getD k (0,0,0)=l[k] by simp[List.getD,f]];exact⟨j,m,q⟩
