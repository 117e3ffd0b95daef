
import Derived.Test.YtcikfcplagelaaaGreatCohLeaves
namespace Go.Proofs.YtcikfcplagelaaaGreat
set_option maxHeartbeats 8000000
open Go.RowKit Go.BigFrame
set_option linter.unusedVariables false
set_option maxRecDepth 100000
def nxN (x p l:Int):Nat:=
 if x=1 then (if p=0 then (if l=0 then 123 else 138) else if p=1 then 143 else if p=2 then 149 else 155)
 else if x=3 then (if p=0 then 148 else if p=1 then 154 else if p=2 then 160 else if p=3 then 153 else if p=4 then 159 else 164)
 else if x=2 then 148 else 123
def nxF (f:FL) (t:Nat):Value:= .func (.func (nxN (f.s.st t) (f.ph t) ((f.Lc (f.nd t)).s.st (f.own t)))) #[] #[]
section
variable {w:World} {L:Lp} {f:FL} {ga:Nat} {la:Nat→Nat} {H:Nat→Option Nat} {V:Nat→List Nat} {gg:Option Nat} {Wg:List Nat}
structure LkAt (w:World) (L:Lp) (f:FL):Prop where
 lk:LkM w L f (nxF f)
 inv:∃ H V gg Wg,OrdJ f f.ga f.la H V gg Wg
 a1:L.a1=0
end
end Go.Proofs.YtcikfcplagelaaaGreat
