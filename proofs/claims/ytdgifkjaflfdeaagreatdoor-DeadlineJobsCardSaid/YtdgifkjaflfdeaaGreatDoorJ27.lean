/- Parts of the proof. -/
import Derived.Lib.MinMax
import Derived.Test.YtdgifkjaflfdeaaGreatDoorJ05
import Derived.Test.YtdgifkjaflfdeaaGreatDoorJ07
import Derived.Test.YtdgifkjaflfdeaaGreatDoorJ08
set_option linter.all false
set_option maxRecDepth 100000
set_option maxHeartbeats 16000000
namespace Go.Proofs.YtdgifkjaflfdeaaGreatDoor.syn
open Tryz
open Go.RowKit
def qi{α:Type}(w:World)(mk:α->Value)(ad:Option Addr)(l:List α):Prop:=l=[]\/∃b o,ad=some ⟨b,o,none⟩/\b<w.1.size/\∀(i:Nat)(x:α),l[i]?=some x->w.cell? ⟨b,o+i,none⟩=some (mk x)
theorem qi.keep{α:Type}{w w':World}{mk:α->Value}{f:Option Addr}{l:List α}(h:qi w mk f l)(g:∀b,b<w.1.size->w'.1[b]?=w.1[b]?):qi w' mk f l:=by
 rcases h with h|⟨b,o,e,hb,hc⟩
 .exact .inl h
 exact .inr ⟨b,o,e,Zb ((g b hb).trans (Ym hb)),fun i x hx=>(Zn (w:=w) (a:=⟨b,o+i,none⟩) (g b hb)).trans (hc i x hx)⟩
