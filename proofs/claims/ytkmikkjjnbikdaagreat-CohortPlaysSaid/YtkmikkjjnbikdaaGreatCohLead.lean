import Derived.Test.YtkmikkjjnbikdaaGreatCohortLaw
import Derived.Test.YtkmikkjjnbikdaaGreatCohortRow
namespace Go.Proofs.YtkmikkjjnbikdaaGreat
open Go.RowKit Go.BigFrame
set_option linter.unusedVariables false
set_option maxRecDepth 100000
theorem right_B {G K B:Int} (h:rightB G K B=true):1≤B∧B≤1000:=by
 unfold rightB at h
 simp only [Bool.and_eq_true,decide_eq_true_eq] at h
 exact ⟨h.1.2,h.2⟩
theorem ls_old {w0 w1 w:World} {L:Lp} {f:FL} (k:Wr Nil w0 w1) (h:LkS w1 w L f):LkS w0 w L f:=⟨h.lk,Nat.le_trans k.size h.low,k.nil h.wr⟩
namespace RdC
variable {w0 w w':World} {L:Lp} {f f':FL} {R:List Nat} {qv:Value}
end RdC
def OpsAt (w0:World) (so:Option Addr) (n:Nat) (z:Nat→Nat→Int):Prop:=n=0∨∃ b o,so=some ⟨b,o,none⟩∧∀ i,i<n→∀ j,j<4→w0.cell? ⟨b,o+(i*4+j),none⟩=some (.int .i64 (z i j))
end Go.Proofs.YtkmikkjjnbikdaaGreat
