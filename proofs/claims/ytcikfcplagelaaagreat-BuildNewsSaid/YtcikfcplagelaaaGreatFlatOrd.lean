
import Derived.Test.YtcikfcplagelaaaGreatBuVia
namespace Go.Proofs.YtcikfcplagelaaaGreat.Kc
set_option linter.unusedVariables false
set_option maxRecDepth 100000
def Chain (node ahd:Nat→Int):Int→List Nat→Prop
 |_,[]=>True
 |e,k::r=>ahd k=e∧Chain node ahd (node k) r
def endN (node:Nat→Int):Int→List Nat→Int
 |e,[]=>e
 |_,k::r=>endN node (node k) r
structure OrdJ (f:FL) (g:Option Nat) (W:List Nat) (e:Int):Prop where
 n8:f.s.n≤64
 rng:∀ j,j<f.s.n→0≤f.node j∧f.node j≤f.s.n
 erng:0≤e∧e≤f.s.n
 inj:∀ j k,j<f.s.n→k<f.s.n→f.node j=f.node k→j=k
 ne:∀ j,j<f.s.n→f.node j≠e
 ws:∃ fl:List Int,f.ps.ws=endN f.node e (g.toList++W)::fl∧fl.length=f.s.n+1∧(∀ j,j<f.s.n→fl.getD (f.node j).toNat 0=if f.pc j=0 then 0 else 1)∧fl.getD e.toNat 0=0
 ac:f.ps.ac.length=f.s.n
 nodup:(g.toList++W).Nodup
 lt:∀ k∈g.toList++W,k<f.s.n
 pc2:∀ j,j<f.s.n→(f.pc j=2↔j∈g.toList++W)
 prg:∀ j,f.pc j=0∨f.pc j=1∨f.pc j=2
 pc1:∀ j,j<f.s.n→f.pc j=1→f.s.st j=1
 ch:Chain f.node f.ahd e (g.toList++W)
 stg:∀ k,g=some k→f.s.st k=2∨f.s.st k=3∨f.s.st k=4
 stw:∀ k∈W,f.s.st k=1
 sto:∀ k,k<f.s.n→k∉g.toList++W→f.s.st k=0∨f.s.st k=1
end Go.Proofs.YtcikfcplagelaaaGreat.Kc
namespace Go.Proofs.YtcikfcplagelaaaGreat.Km
set_option linter.unusedVariables false
set_option maxRecDepth 100000
def Lnk (pc oth N K:Nat→Int) (i j:Nat):Prop:=
 (pc j=2∧oth j=(i:Int)+1∧N i=0)∨(pc j=3∧oth j=(i:Int)+1∧K j=1∧N i=0)∨(pc j=4∧K j=1∧N i=(j:Int)+1)
def Chn (pc oth N K:Nat→Int):List Nat→Prop
 |[]=>True
 |[k]=>N k=0
 |i::j::r=>Lnk pc oth N K i j∧Chn pc oth N K (j::r)
def lastM:Int→List Nat→Int
 |e,[]=>e
 |_,k::r=>lastM ((k:Int)+1) r
structure Cor (n:Nat) (st pc oth:Nat→Int) (T:Int) (N K:Nat→Int) (g:Option Nat) (W:List Nat):Prop where
 nodup:(g.toList++W).Nodup
 lt:∀ k∈g.toList++W,k<n
 tl:T=lastM 0 (g.toList++W)
 prg:∀ j,0≤pc j∧pc j≤4
 inq:∀ j,j<n→st j=1→(2≤pc j↔j∈g.toList++W)
 pcI:∀ j,j<n→st j≠1→st j≠3→pc j=0
 pc3:∀ j,j<n→st j=3→pc j≤3
 stg:∀ k,g=some k→st k=2∨st k=3∨st k=4
 stw:∀ k∈W,st k=1
 sto:∀ k,k<n→k∉g.toList++W→st k=0∨st k=1
 ch:Chn pc oth N K (g.toList++W)
 out:∀ j,j<n→st j=1→pc j=1→N j=0
 hd:g=none→∀ k r,W=k::r→pc k=4∧K k=0
 un2:∀ k,g=some k→st k=3→pc k=2→W≠[]
 un3:∀ k,g=some k→st k=3→pc k=3→∃ j r,W=j::r∧oth k=(j:Int)+1∧pc j=4
def wT (ps:PSta):Int:=ps.ws.getD 0 0
def wN (ps:PSta) (i:Nat):Int:=ps.ws.getD (1+2*i) 0
def wK (ps:PSta) (i:Nat):Int:=ps.ws.getD (2+2*i) 0
structure OrdJ (f:FL) (g:Option Nat) (W:List Nat):Prop where
 n8:f.s.n≤64
 len:f.ps.ws.length=2*f.s.n+1
 ac:f.ps.ac.length=f.s.n
 cor:Cor f.s.n f.s.st f.pc f.oth (wT f.ps) (wN f.ps) (wK f.ps) g W
end Go.Proofs.YtcikfcplagelaaaGreat.Km
namespace Go.Proofs.YtcikfcplagelaaaGreat.Kf
set_option linter.unusedVariables false
set_option maxRecDepth 100000
structure OrdJ (f:FL) (g:Option Nat) (W:List Nat) (nx ow:Int):Prop where
 n8:f.s.n≤64
 ws:f.ps.ws=[nx,ow]
 ac:f.ps.ac.length=f.s.n
 rng:0≤ow∧ow<4294967296
 nodup:(g.toList++W).Nodup
 lt:∀ k∈g.toList++W,k<f.s.n
 num:∀ (i k:Nat),(g.toList++W)[i]? =some k→f.num k=(ow+i)%4294967296
 nxt:nx=(ow+(g.toList++W).length)%4294967296
 dr:∀ k,k<f.s.n→(f.dr k=true↔k∈g.toList++W)
 stg:∀ k,g=some k→f.s.st k=2∨f.s.st k=3∨f.s.st k=4
 stw:∀ k∈W,f.s.st k=1
 sto:∀ k,k<f.s.n→k∉g.toList++W→f.s.st k=0∨f.s.st k=1
end Go.Proofs.YtcikfcplagelaaaGreat.Kf
