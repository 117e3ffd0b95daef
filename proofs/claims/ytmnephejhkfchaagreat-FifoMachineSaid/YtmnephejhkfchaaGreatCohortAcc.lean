
import Derived.Test.YtmnephejhkfchaaGreatFlatOrd
namespace Go.Proofs.YtmnephejhkfchaaGreat
open Go.RowKit
set_option linter.unusedVariables false
end Go.Proofs.YtmnephejhkfchaaGreat
namespace Go.Proofs.YtmnephejhkfchaaGreat.Kf
set_option linter.unusedVariables false
set_option maxRecDepth 100000
end Go.Proofs.YtmnephejhkfchaaGreat.Kf
namespace Go.Proofs.YtmnephejhkfchaaGreat.Kc
set_option linter.unusedVariables false
set_option maxRecDepth 100000
end Go.Proofs.YtmnephejhkfchaaGreat.Kc
namespace Go.Proofs.YtmnephejhkfchaaGreat.Km
set_option linter.unusedVariables false
set_option maxRecDepth 100000
end Go.Proofs.YtmnephejhkfchaaGreat.Km
namespace Go.Proofs.YtmnephejhkfchaaGreat
set_option linter.unusedVariables false
set_option maxRecDepth 100000
namespace Kf
theorem step_s (f:FL) (L:Lp) (t u:Int):(f.step L t u).s=f.s.fin t (f.did L t u).ev:=rfl
end Kf
namespace Kc
theorem step_s (f:FL) (L:Lp) (t u:Int):(f.step L t u).s=f.s.fin t (f.did L t u).ev:=rfl
end Kc
namespace Km
theorem step_s (f:FL) (L:Lp) (t u:Int):(f.step L t u).s=f.s.fin t (f.did L t u).ev:=rfl
end Km
open Go.RowKit
def OneS (ps q:PSta) (u:Int):Prop:=q=ps∨∃ K a o v,q=doS ps u K a o v
theorem Kf.step_one (f:Kf.FL) (L:Kf.Lp) (t u:Int):OneS f.ps (f.step L t u).ps u:=by
 show OneS f.ps (f.mid L t u).ps u
 unfold Kf.FL.mid Kf.FL.acq Kf.FL.rel Kf.FL.ask
 repeat' split
 all_goals first|exact .inl rfl|exact .inr ⟨_,_,_,_,rfl⟩
theorem Kc.step_one (f:Kc.FL) (L:Kc.Lp) (t u:Int):OneS f.ps (f.step L t u).ps u:=by
 show OneS f.ps (f.mid L t u).ps u
 unfold Kc.FL.mid Kc.FL.acq Kc.FL.rel Kc.FL.ask
 repeat' split
 all_goals first|exact .inl rfl|exact .inr ⟨_,_,_,_,rfl⟩
theorem Km.step_one (f:Km.FL) (L:Km.Lp) (t u:Int):OneS f.ps (f.step L t u).ps u:=by
 show OneS f.ps (f.mid L t u).ps u
 unfold Km.FL.mid Km.FL.acq Km.FL.rel Km.FL.ask
 repeat' split
 all_goals first|exact .inl rfl|exact .inr ⟨_,_,_,_,rfl⟩
theorem OneS.D {ps q:PSta} {u:Int} (h:OneS ps q u):q.D.length≤ps.D.length+1:=by
 rcases h with rfl|⟨K,a,o,v,rfl⟩
 ·omega
 ·unfold doS
  split
  ·simp [touchS]
  ·omega
end Go.Proofs.YtmnephejhkfchaaGreat
