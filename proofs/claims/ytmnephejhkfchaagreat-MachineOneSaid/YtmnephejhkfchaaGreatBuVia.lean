
import Derived.Test.YtmnephejhkfchaaGreatHomed
namespace Go.Proofs.YtmnephejhkfchaaGreat
open _root_.Go.Proofs.Tryz
open Go.RowKit
set_option linter.unusedVariables false
set_option maxRecDepth 100000
theorem CI:∃ j,prog.info? 108 =some j/\j.size=1:=zz1e
theorem AW {name:String} {f:FuncId} (hm:((prog.info? 96).bind (λi=>i.methods.find? (·.name==name))).map (λm=>(m.path,m.func))=some (#[⟨142,0,true⟩],some (f,true)))
  (D lb:Nat) (p:Addr) (w:World) (h:w.cell? ⟨lb,0,none⟩=some (.pointer (some p))):(method (D+1) 96 (.pointer (some ⟨lb,0,none⟩)) name).run prog w= .ok (f,.pointer (some p)) w:=by
 obtain ⟨m,hm,he⟩:=Option.map_eq_some_iff.1 hm;obtain ⟨i,hi,hf⟩:=Option.bind_eq_some_iff.1 hm;simp only [Prod.mk.injEq] at he;obtain ⟨j,hj,hs⟩:=CI;unfold method;simp [typeInfo,hi,hf,he.1,he.2,follow,underlying,underlying142,underlying108,Place.get,asAddr,fieldPlace,Result.andThen,receiverAt,loadVar,isAgg,sizeOf,hj,hs,h,Addr.add]
theorem BN (lb:Nat) (p:Addr) (w:World) (h:w.cell? ⟨lb,0,none⟩=some (.pointer (some p))):(method 362 96 (.pointer (some ⟨lb,0,none⟩)) "Lock").run prog w= .ok (127,.pointer (some p)) w:=AW (name:="Lock") (by kernel_rfl) 361 lb p w h
theorem Ar (lb:Nat) (p:Addr) (w:World) (h:w.cell? ⟨lb,0,none⟩=some (.pointer (some p))):(method 362 96 (.pointer (some ⟨lb,0,none⟩)) "Unlock").run prog w= .ok (131,.pointer (some p)) w:=AW (name:="Unlock") (by kernel_rfl) 361 lb p w h
theorem Bc (lb:Nat) (p:Addr) (w:World) (h:w.cell? ⟨lb,0,none⟩=some (.pointer (some p))):(method 362 96 (.pointer (some ⟨lb,0,none⟩)) "State").run prog w= .ok (129,.pointer (some p)) w:=AW (name:="State") (by kernel_rfl) 361 lb p w h
theorem CC (lb:Nat) (p:Addr) (w:World) (h:w.cell? ⟨lb,0,none⟩=some (.pointer (some p))):(method 362 96 (.pointer (some ⟨lb,0,none⟩)) "Len").run prog w= .ok (126,.pointer (some p)) w:=AW (name:="Len") (by kernel_rfl) 361 lb p w h
theorem Bh (a:Addr) (w:World):(method 362 96 (.pointer (some a)) "Use").run prog w= .ok (209,.pointer (some a)) w:=by kernel_rfl
theorem BG (a:Addr) (w:World):(method 362 96 (.pointer (some a)) "Step").run prog w= .ok (208,.pointer (some a)) w:=by kernel_rfl
structure Dd where
 ev:Int
 BW:Bool
 arr:Bool
 lead:Bool
def Dd.no:Dd:=⟨0,false,false,false⟩
def Dd.val (d:Dd):Value:= .agg #[.int .i64 d.ev,.bool d.BW,.bool d.arr,.bool d.lead]
end Go.Proofs.YtmnephejhkfchaaGreat
namespace Go.Proofs.YtmnephejhkfchaaGreat.Kf
open Go.RowKit
set_option linter.unusedVariables false
set_option maxRecDepth 100000
structure FL where
 s:SS
 num:Nat->Int
 dr:Nat->Bool
 ps:AK
structure Lp where
 lb:Nat
 p:Nat
 b:Nat
 tb:Nat
 a1:Int
 a2:Int
 q:Place
 hs:List Int
def FL.acq (f:FL) (L:Lp) (t:Nat) (u:Int):FL:=if f.dr t=true then {f with ps:=A5 f.ps u 1 L.a2 0 0} else {f with num:=upd f.num t (A6 f.ps u 5 L.a1),dr:=upd f.dr t true,ps:=A5 f.ps u 5 L.a1 0 1}
def FL.A7 (f:FL) (L:Lp) (t:Nat) (u:Int):Dd:=if f.dr t=true then (if A6 f.ps u 1 L.a2=f.num t then ⟨1,false,false,false⟩ else Dd.no) else ⟨0,true,false,false⟩
def FL.rel (f:FL) (L:Lp) (t:Nat) (u:Int):FL:={f with num:=upd f.num t 0,dr:=upd f.dr t false,ps:=A5 f.ps u 2 L.a2 0 ((f.num t+1)%4294967296)}
def FL.ask (f:FL) (L:Lp) (t:Nat) (u:Int):FL:={f with ps:=A5 f.ps u 1 L.a1 0 0}
def FL.CW (f:FL) (L:Lp) (t:Nat) (u:Int):Dd:=if A6 f.ps u 1 L.a1=(f.num t+1)%4294967296 then ⟨4,false,false,false⟩ else ⟨5,false,false,false⟩
def FL.mid (f:FL) (L:Lp) (t u:Int):FL:=if 0<=t/\t<f.s.n then (if f.s.st t.toNat=1 then f.acq L t.toNat u else if f.s.st t.toNat=3 then f.rel L t.toNat u else if f.s.st t.toNat=4 then f.ask L t.toNat u else f) else f
def FL.did (f:FL) (L:Lp) (t u:Int):Dd:=if 0<=t/\t<f.s.n then (if f.s.st t.toNat=1 then f.A7 L t.toNat u else if f.s.st t.toNat=3 then ⟨3,false,false,false⟩ else if f.s.st t.toNat=4 then f.CW L t.toNat u else Dd.no) else Dd.no
def FL.step (f:FL) (L:Lp) (t u:Int):FL:={f.mid L t u with s:=f.s.fin t (f.did L t u).ev}
def FL.lock (f:FL) (t d:Int):FL:={f with s:=f.s.lock t d}
def FL.turn (f:FL) (t x:Int):FL:={f with s:=f.s.turn t x}
theorem FL.F3 (f:FL) (L:Lp) (t:Nat) (u:Int):(f.acq L t u).s=f.s:=by unfold FL.acq;split<;>rfl
theorem FL.CO (f:FL) (L:Lp) (t u:Int):(f.mid L t u).s=f.s:=zz5b
end Go.Proofs.YtmnephejhkfchaaGreat.Kf
namespace Go.Proofs.YtmnephejhkfchaaGreat.Kc
open Go.RowKit
set_option linter.unusedVariables false
set_option maxRecDepth 100000
structure FL where
 s:SS
 pc:Nat->Int
 node:Nat->Int
 AL:Nat->Int
 ps:AK
structure Lp where
 lb:Nat
 p:Nat
 b:Nat
 tb:Nat
 a1:Int
 a2:Int
 q:Place
 hs:List Int
def FL.acq (f:FL) (L:Lp) (t:Nat) (u:Int):FL:=
 if f.pc t=0 then {f with pc:=upd f.pc t 1,ps:=A5 f.ps u 2 (L.a2+f.node t) 0 1}
 else if f.pc t=1 then {f with pc:=upd f.pc t 2,AL:=upd f.AL t (A6 f.ps u 3 L.a1),ps:=A5 f.ps u 3 L.a1 0 (f.node t)}
 else {f with ps:=A5 f.ps u 1 (L.a2+f.AL t) 0 0}
def FL.A7 (f:FL) (L:Lp) (t:Nat) (u:Int):Dd:=if f.pc t=0 then Dd.no else if f.pc t=1 then ⟨0,true,false,false⟩ else if A6 f.ps u 1 (L.a2+f.AL t)=0 then ⟨1,false,false,false⟩ else Dd.no
def FL.rel (f:FL) (L:Lp) (t:Nat) (u:Int):FL:={f with pc:=upd f.pc t 0,node:=upd f.node t (f.AL t),AL:=upd f.AL t 0,ps:=A5 f.ps u 2 (L.a2+f.node t) 0 0}
def FL.ask (f:FL) (L:Lp) (t:Nat) (u:Int):FL:={f with ps:=A5 f.ps u 1 L.a1 0 0}
def FL.CW (f:FL) (L:Lp) (t:Nat) (u:Int):Dd:=if A6 f.ps u 1 L.a1=f.node t then ⟨4,false,false,false⟩ else ⟨5,false,false,false⟩
def FL.mid (f:FL) (L:Lp) (t u:Int):FL:=if 0<=t/\t<f.s.n then (if f.s.st t.toNat=1 then f.acq L t.toNat u else if f.s.st t.toNat=3 then f.rel L t.toNat u else if f.s.st t.toNat=4 then f.ask L t.toNat u else f) else f
def FL.did (f:FL) (L:Lp) (t u:Int):Dd:=if 0<=t/\t<f.s.n then (if f.s.st t.toNat=1 then f.A7 L t.toNat u else if f.s.st t.toNat=3 then ⟨3,false,false,false⟩ else if f.s.st t.toNat=4 then f.CW L t.toNat u else Dd.no) else Dd.no
def FL.step (f:FL) (L:Lp) (t u:Int):FL:={f.mid L t u with s:=f.s.fin t (f.did L t u).ev}
def FL.lock (f:FL) (t d:Int):FL:={f with s:=f.s.lock t d}
def FL.turn (f:FL) (t x:Int):FL:={f with s:=f.s.turn t x}
theorem FL.F3 (f:FL) (L:Lp) (t:Nat) (u:Int):(f.acq L t u).s=f.s:=by unfold FL.acq;repeat' split<;>try rfl
theorem FL.CO (f:FL) (L:Lp) (t u:Int):(f.mid L t u).s=f.s:=zz5b
end Go.Proofs.YtmnephejhkfchaaGreat.Kc
namespace Go.Proofs.YtmnephejhkfchaaGreat.Km
open Go.RowKit
set_option linter.unusedVariables false
set_option maxRecDepth 100000
structure FL where
 s:SS
 pc:Nat->Int
 A9:Nat->Int
 ps:AK
structure Lp where
 lb:Nat
 p:Nat
 b:Nat
 tb:Nat
 a1:Int
 a2:Int
 q:Place
 hs:List Int
def Lp.nx (L:Lp) (t:Int):Int:=L.a2+2*t
def Lp.lk (L:Lp) (t:Int):Int:=L.a2+2*t+1
def casT (s:AK) (u a old:Int):Bool:=EH s u a&&E9 s.ws a old
def FL.acq (f:FL) (L:Lp) (t:Nat) (u:Int):FL:=
 if f.pc t=0 then {f with pc:=upd f.pc t 1,ps:=A5 f.ps u 2 (L.nx t) 0 0}
 else if f.pc t=1 then {f with pc:=upd f.pc t (if A6 f.ps u 3 L.a1=0 then 0 else 2),A9:=upd f.A9 t (A6 f.ps u 3 L.a1),ps:=A5 f.ps u 3 L.a1 0 ((t:Int)+1)}
 else if f.pc t=2 then {f with pc:=upd f.pc t 3,ps:=A5 f.ps u 2 (L.lk t) 0 1}
 else if f.pc t=3 then {f with pc:=upd f.pc t 4,ps:=A5 f.ps u 2 (L.nx (f.A9 t-1)) 0 ((t:Int)+1)}
 else {f with pc:=upd f.pc t (if A6 f.ps u 1 (L.lk t)=0 then 0 else 4),ps:=A5 f.ps u 1 (L.lk t) 0 0}
def FL.A7 (f:FL) (L:Lp) (t:Nat) (u:Int):Dd:=
 if f.pc t=0 then Dd.no
 else if f.pc t=1 then ⟨if A6 f.ps u 3 L.a1=0 then 1 else 0,true,false,false⟩
 else if f.pc t=2 then Dd.no
 else if f.pc t=3 then Dd.no
 else if A6 f.ps u 1 (L.lk t)=0 then ⟨1,false,false,false⟩ else Dd.no
def FL.rel (f:FL) (L:Lp) (t:Nat) (u:Int):FL:=
 if f.pc t=0 then {f with pc:=upd f.pc t (if A6 f.ps u 1 (L.nx t)=0 then 1 else 3),A9:=upd f.A9 t (A6 f.ps u 1 (L.nx t)),ps:=A5 f.ps u 1 (L.nx t) 0 0}
 else if f.pc t=1 then {f with pc:=upd f.pc t (if casT f.ps u L.a1 ((t:Int)+1)=true then 0 else 2),ps:=A5 f.ps u 4 L.a1 ((t:Int)+1) 0}
 else if f.pc t=2 then {f with pc:=upd f.pc t (if A6 f.ps u 1 (L.nx t)=0 then 2 else 3),A9:=upd f.A9 t (A6 f.ps u 1 (L.nx t)),ps:=A5 f.ps u 1 (L.nx t) 0 0}
 else {f with pc:=upd f.pc t 0,ps:=A5 f.ps u 2 (L.lk (f.A9 t-1)) 0 0}
def FL.AX (f:FL) (L:Lp) (t:Nat) (u:Int):Dd:=
 if f.pc t=0 then Dd.no
 else if f.pc t=1 then (if casT f.ps u L.a1 ((t:Int)+1)=true then ⟨3,false,false,false⟩ else Dd.no)
 else if f.pc t=2 then Dd.no
 else ⟨3,false,false,false⟩
def FL.ask (f:FL) (L:Lp) (t:Nat) (u:Int):FL:={f with ps:=A5 f.ps u 1 (L.nx t) 0 0}
def FL.CW (f:FL) (L:Lp) (t:Nat) (u:Int):Dd:=if A6 f.ps u 1 (L.nx t)=0 then ⟨4,false,false,false⟩ else ⟨5,false,false,false⟩
def FL.mid (f:FL) (L:Lp) (t u:Int):FL:=if 0<=t/\t<f.s.n then (if f.s.st t.toNat=1 then f.acq L t.toNat u else if f.s.st t.toNat=3 then f.rel L t.toNat u else if f.s.st t.toNat=4 then f.ask L t.toNat u else f) else f
def FL.did (f:FL) (L:Lp) (t u:Int):Dd:=if 0<=t/\t<f.s.n then (if f.s.st t.toNat=1 then f.A7 L t.toNat u else if f.s.st t.toNat=3 then f.AX L t.toNat u else if f.s.st t.toNat=4 then f.CW L t.toNat u else Dd.no) else Dd.no
def FL.step (f:FL) (L:Lp) (t u:Int):FL:={f.mid L t u with s:=f.s.fin t (f.did L t u).ev}
def FL.lock (f:FL) (t d:Int):FL:={f with s:=f.s.lock t d}
def FL.turn (f:FL) (t x:Int):FL:={f with s:=f.s.turn t x}
theorem FL.F3 (f:FL) (L:Lp) (t:Nat) (u:Int):(f.acq L t u).s=f.s:=by unfold FL.acq;repeat' split<;>try rfl
theorem FL.JW (f:FL) (L:Lp) (t:Nat) (u:Int):(f.rel L t u).s=f.s:=by unfold FL.rel;repeat' split<;>try rfl
theorem FL.CO (f:FL) (L:Lp) (t u:Int):(f.mid L t u).s=f.s:=zz6e
end Go.Proofs.YtmnephejhkfchaaGreat.Km
namespace Go.Proofs.YtmnephejhkfchaaGreat.Ka
open Go.RowKit
set_option linter.unusedVariables false
set_option maxRecDepth 100000
structure FL where
 s:SS
 ea:Nat
 pc:Nat->Int
 nd:Nat->Int
 A9:Nat->Int
 tr:Nat->Int
 ps:AK
structure Lp where
 lb:Nat
 p:Nat
 b:Nat
 tb:Nat
 a1:Int
 a2:Int
 q:Place
 hs:List Int
def Lp.sA (L:Lp) (i:Int):Int:=L.a2+3*(i-1)
def Lp.nA (L:Lp) (i:Int):Int:=L.a2+3*(i-1)+1
def Lp.oA (L:Lp) (i:Int):Int:=L.a2+3*(i-1)+2
def casT (s:AK) (u a old:Int):Bool:=EH s u a&&E9 s.ws a old
def FL.id (f:FL) (t:Nat):Int:=(t:Int)*f.ea+f.tr t+1
abbrev FL.due (f:FL) (t:Nat) (x:Int):Prop:=0<=f.s.dl t/\f.s.dl t<=x
def FL.acq (f:FL) (L:Lp) (t:Nat) (u x:Int):FL:=
 if f.pc t=1 then {f with pc:=upd f.pc t (if A6 f.ps u 1 (L.oA (f.id t))=0 then 2 else 1),nd:=upd f.nd t (f.id t),tr:=upd f.tr t (if A6 f.ps u 1 (L.oA (f.id t))≠0/\f.tr t+1=f.ea then 0 else f.tr t+1),ps:=A5 f.ps u 1 (L.oA (f.id t)) 0 0}
 else if f.pc t=2 then {f with pc:=upd f.pc t 3,ps:=A5 f.ps u 2 (L.oA (f.nd t)) 0 1}
 else if f.pc t=3 then {f with pc:=upd f.pc t 4,ps:=A5 f.ps u 2 (L.sA (f.nd t)) 0 0}
 else if f.pc t=4 then {f with pc:=upd f.pc t 5,ps:=A5 f.ps u 2 (L.nA (f.nd t)) 0 0}
 else if f.pc t=5 then {f with pc:=upd f.pc t (if A6 f.ps u 3 L.a1=0 then 1 else 6),A9:=upd f.A9 t (A6 f.ps u 3 L.a1),tr:=upd f.tr t (if A6 f.ps u 3 L.a1=0 then 0 else f.tr t),ps:=A5 f.ps u 3 L.a1 0 (f.nd t)}
 else if f.pc t=6 then {f with pc:=upd f.pc t 7,ps:=A5 f.ps u 2 (L.nA (f.A9 t)) 0 (f.nd t)}
 else if f.pc t=7 then {f with pc:=upd f.pc t (if A6 f.ps u 1 (L.sA (f.nd t))≠0 then 1 else if f.due t x then 8 else 7),tr:=upd f.tr t (if A6 f.ps u 1 (L.sA (f.nd t))≠0 then 0 else f.tr t),ps:=A5 f.ps u 1 (L.sA (f.nd t)) 0 0}
 else {f with pc:=upd f.pc t 1,tr:=upd f.tr t 0,ps:=A5 f.ps u 4 (L.sA (f.nd t)) 0 2}
def FL.A7 (f:FL) (L:Lp) (t:Nat) (u x:Int):Dd:=
 if f.pc t=1 then (if A6 f.ps u 1 (L.oA (f.id t))≠0/\f.tr t+1=f.ea then ⟨6,false,false,false⟩ else Dd.no)
 else if f.pc t=2 then Dd.no
 else if f.pc t=3 then Dd.no
 else if f.pc t=4 then Dd.no
 else if f.pc t=5 then ⟨if A6 f.ps u 3 L.a1=0 then 1 else 0,true,false,false⟩
 else if f.pc t=6 then Dd.no
 else if f.pc t=7 then (if A6 f.ps u 1 (L.sA (f.nd t))≠0 then ⟨1,false,false,false⟩ else Dd.no)
 else if casT f.ps u (L.sA (f.nd t)) 0=true then ⟨2,false,false,false⟩ else ⟨1,false,false,false⟩
def FL.rel (f:FL) (L:Lp) (t:Nat) (u:Int):FL:=
 if f.pc t=1 then {f with pc:=upd f.pc t (if A6 f.ps u 1 (L.nA (f.nd t))=0 then 2 else 4),A9:=upd f.A9 t (A6 f.ps u 1 (L.nA (f.nd t))),ps:=A5 f.ps u 1 (L.nA (f.nd t)) 0 0}
 else if f.pc t=2 then {f with pc:=upd f.pc t (if casT f.ps u L.a1 (f.nd t)=true then 6 else 3),ps:=A5 f.ps u 4 L.a1 (f.nd t) 0}
 else if f.pc t=3 then {f with pc:=upd f.pc t (if A6 f.ps u 1 (L.nA (f.nd t))=0 then 3 else 4),A9:=upd f.A9 t (A6 f.ps u 1 (L.nA (f.nd t))),ps:=A5 f.ps u 1 (L.nA (f.nd t)) 0 0}
 else if f.pc t=4 then {f with pc:=upd f.pc t (if casT f.ps u (L.sA (f.A9 t)) 0=true then 6 else 5),ps:=A5 f.ps u 4 (L.sA (f.A9 t)) 0 1}
 else if f.pc t=5 then {f with pc:=upd f.pc t 1,nd:=upd f.nd t (f.A9 t),ps:=A5 f.ps u 2 (L.oA (f.nd t)) 0 0}
 else {f with pc:=upd f.pc t 1,tr:=upd f.tr t 0,ps:=A5 f.ps u 2 (L.oA (f.nd t)) 0 0}
def FL.AX (f:FL) (t:Nat):Dd:=if f.pc t=1\/f.pc t=2\/f.pc t=3\/f.pc t=4\/f.pc t=5 then Dd.no else ⟨3,false,false,false⟩
def FL.mid (f:FL) (L:Lp) (t u x:Int):FL:=if 0<=t/\t<f.s.n then (if f.s.st t.toNat=1 then f.acq L t.toNat u x else if f.s.st t.toNat=3 then f.rel L t.toNat u else f) else f
def FL.did (f:FL) (L:Lp) (t u x:Int):Dd:=if 0<=t/\t<f.s.n then (if f.s.st t.toNat=1 then f.A7 L t.toNat u x else if f.s.st t.toNat=3 then f.AX t.toNat else Dd.no) else Dd.no
def FL.step (f:FL) (L:Lp) (t u x:Int):FL:={f.mid L t u x with s:=f.s.fin t (f.did L t u x).ev}
def FL.lock (f:FL) (t d:Int):FL:={f with s:=f.s.lock t d}
def FL.turn (f:FL) (t x:Int):FL:={f with s:=f.s.turn t x}
theorem FL.F3 (f:FL) (L:Lp) (t:Nat) (u x:Int):(f.acq L t u x).s=f.s:=by unfold FL.acq;repeat' split<;>try rfl
theorem FL.JW (f:FL) (L:Lp) (t:Nat) (u:Int):(f.rel L t u).s=f.s:=by unfold FL.rel;repeat' split<;>try rfl
theorem FL.CO (f:FL) (L:Lp) (t u x:Int):(f.mid L t u x).s=f.s:=by
 unfold FL.mid
 repeat' split
 ·exact f.F3 L _ u x
 ·exact f.JW L _ u
 all_goals rfl
end Go.Proofs.YtmnephejhkfchaaGreat.Ka
namespace Go.Proofs.YtmnephejhkfchaaGreat.Kh
open Go.RowKit
set_option linter.unusedVariables false
set_option maxRecDepth 100000
def wd (c w s:Int):Int:=c*4+w*2+s
def Ca (v:Int):Int:=v/4
def Dh (v:Int):Int:=v/2%2
def E7 (v:Int):Int:=v%2
structure FL where
 s:SS
 cl:Nat->Int
 pc:Nat->Int
 nd:Nat->Int
 AL:Nat->Int
 of:Nat->Int
 wv:Nat->Int
 ps:AK
structure Lp where
 lb:Nat
 p:Nat
 b:Nat
 tb:Nat
 a1:Int
 a2:Int
 q:Place
 hs:List Int
def Lp.cA (L:Lp) (c:Int):Int:=L.a2+c
def Lp.nA (L:Lp) (i:Int):Int:=L.a2+7+i
def casT (s:AK) (u a old:Int):Bool:=EH s u a&&E9 s.ws a old
def FL.acq (f:FL) (L:Lp) (t:Nat) (u:Int):FL:=
 if f.pc t=0 then {f with pc:=upd f.pc t 1,ps:=A5 f.ps u 2 (L.nA (f.nd t)) 0 (wd (f.cl t) 1 0)}
 else if f.pc t=1 then {f with pc:=upd f.pc t (if A6 f.ps u 3 (L.cA (f.cl t))=0 then 3 else 2),AL:=upd f.AL t (A6 f.ps u 3 (L.cA (f.cl t))),ps:=A5 f.ps u 3 (L.cA (f.cl t)) 0 (f.nd t)}
 else if f.pc t=2 then {f with pc:=upd f.pc t (if Ca (A6 f.ps u 1 (L.nA (f.AL t)))=f.cl t/\E7 (A6 f.ps u 1 (L.nA (f.AL t)))=0 then (if Dh (A6 f.ps u 1 (L.nA (f.AL t)))=0 then 0 else 2) else 3),ps:=A5 f.ps u 1 (L.nA (f.AL t)) 0 0}
 else if f.pc t=3 then {f with pc:=upd f.pc t 4,of:=upd f.of t (A6 f.ps u 1 (L.cA (f.cl t))),ps:=A5 f.ps u 1 (L.cA (f.cl t)) 0 0}
 else if f.pc t=4 then {f with pc:=upd f.pc t 5,AL:=upd f.AL t (A6 f.ps u 3 L.a1),ps:=A5 f.ps u 3 L.a1 0 (f.of t)}
 else if f.pc t=5 then {f with pc:=upd f.pc t 6,wv:=upd f.wv t (A6 f.ps u 1 (L.nA (f.of t))),ps:=A5 f.ps u 1 (L.nA (f.of t)) 0 0}
 else if f.pc t=6 then {f with pc:=upd f.pc t (if casT f.ps u (L.nA (f.of t)) (f.wv t)=true then 7 else 5),ps:=A5 f.ps u 4 (L.nA (f.of t)) (f.wv t) (wd (Ca (f.wv t)) (Dh (f.wv t)) 1)}
 else {f with pc:=upd f.pc t (if Dh (A6 f.ps u 1 (L.nA (f.AL t)))=0 then 0 else 7),ps:=A5 f.ps u 1 (L.nA (f.AL t)) 0 0}
def FL.A7 (f:FL) (L:Lp) (t:Nat) (u:Int):Dd:=
 if f.pc t=0 then Dd.no
 else if f.pc t=1 then ⟨0,true,false,false⟩
 else if f.pc t=2 then (if (Ca (A6 f.ps u 1 (L.nA (f.AL t)))=f.cl t/\E7 (A6 f.ps u 1 (L.nA (f.AL t)))=0)/\Dh (A6 f.ps u 1 (L.nA (f.AL t)))=0 then ⟨1,false,false,false⟩ else Dd.no)
 else if f.pc t=3 then Dd.no
 else if f.pc t=4 then ⟨0,false,true,false⟩
 else if f.pc t=5 then Dd.no
 else if f.pc t=6 then Dd.no
 else if Dh (A6 f.ps u 1 (L.nA (f.AL t)))=0 then ⟨1,false,false,true⟩ else Dd.no
def FL.rel (f:FL) (L:Lp) (t:Nat) (u:Int):FL:=
 if f.pc t=0 then {f with pc:=upd f.pc t 1,wv:=upd f.wv t (A6 f.ps u 1 (L.nA (f.nd t))),ps:=A5 f.ps u 1 (L.nA (f.nd t)) 0 0}
 else {f with pc:=upd f.pc t 0,nd:=upd f.nd t (if casT f.ps u (L.nA (f.nd t)) (f.wv t)=true then f.AL t else f.nd t),ps:=A5 f.ps u 4 (L.nA (f.nd t)) (f.wv t) (wd (Ca (f.wv t)) 0 (E7 (f.wv t)))}
def FL.AX (f:FL) (L:Lp) (t:Nat) (u:Int):Dd:=if f.pc t=0 then Dd.no else if casT f.ps u (L.nA (f.nd t)) (f.wv t)=true then ⟨3,false,false,false⟩ else Dd.no
def FL.mid (f:FL) (L:Lp) (t u:Int):FL:=if 0<=t/\t<f.s.n then (if f.s.st t.toNat=1 then f.acq L t.toNat u else if f.s.st t.toNat=3 then f.rel L t.toNat u else f) else f
def FL.did (f:FL) (L:Lp) (t u:Int):Dd:=if 0<=t/\t<f.s.n then (if f.s.st t.toNat=1 then f.A7 L t.toNat u else if f.s.st t.toNat=3 then f.AX L t.toNat u else Dd.no) else Dd.no
def FL.step (f:FL) (L:Lp) (t u:Int):FL:={f.mid L t u with s:=f.s.fin t (f.did L t u).ev}
def FL.lock (f:FL) (t d:Int):FL:={f with s:=f.s.lock t d}
def FL.turn (f:FL) (t x:Int):FL:={f with s:=f.s.turn t x}
theorem FL.F3 (f:FL) (L:Lp) (t:Nat) (u:Int):(f.acq L t u).s=f.s:=by unfold FL.acq;repeat' split<;>try rfl
theorem FL.JW (f:FL) (L:Lp) (t:Nat) (u:Int):(f.rel L t u).s=f.s:=by unfold FL.rel;repeat' split<;>try rfl
theorem FL.CO (f:FL) (L:Lp) (t u:Int):(f.mid L t u).s=f.s:=zz6e
end Go.Proofs.YtmnephejhkfchaaGreat.Kh
namespace Go.Proofs.YtmnephejhkfchaaGreat.Kf
open _root_.Go.Proofs.Tryz
open Go.RowKit
set_option linter.unusedVariables false
set_option maxRecDepth 100000
theorem CI:∃ j,prog.info? 108 =some j/\j.size=1:=zz1e
theorem AW {name:String} {f:FuncId} (hm:((prog.info? 78).bind (λi=>i.methods.find? (·.name==name))).map (λm=>(m.path,m.func))=some (#[⟨114,0,true⟩],some (f,true)))
  (D lb:Nat) (p:Addr) (w:World) (h:w.cell? ⟨lb,0,none⟩=some (.pointer (some p))):(method (D+1) 78 (.pointer (some ⟨lb,0,none⟩)) name).run prog w= .ok (f,.pointer (some p)) w:=by
 obtain ⟨m,hm,he⟩:=Option.map_eq_some_iff.1 hm;obtain ⟨i,hi,hf⟩:=Option.bind_eq_some_iff.1 hm;simp only [Prod.mk.injEq] at he;obtain ⟨j,hj,hs⟩:=CI;unfold method;simp [typeInfo,hi,hf,he.1,he.2,follow,underlying,underlying114,underlying108,Place.get,asAddr,fieldPlace,Result.andThen,receiverAt,loadVar,isAgg,sizeOf,hj,hs,h,Addr.add]
theorem BN (lb:Nat) (p:Addr) (w:World) (h:w.cell? ⟨lb,0,none⟩=some (.pointer (some p))):(method 362 78 (.pointer (some ⟨lb,0,none⟩)) "Lock").run prog w= .ok (127,.pointer (some p)) w:=AW (name:="Lock") (by kernel_rfl) 361 lb p w h
theorem Ar (lb:Nat) (p:Addr) (w:World) (h:w.cell? ⟨lb,0,none⟩=some (.pointer (some p))):(method 362 78 (.pointer (some ⟨lb,0,none⟩)) "Unlock").run prog w= .ok (131,.pointer (some p)) w:=AW (name:="Unlock") (by kernel_rfl) 361 lb p w h
theorem Dx (lb:Nat) (p:Addr) (w:World) (h:w.cell? ⟨lb,0,none⟩=some (.pointer (some p))):(method 362 78 (.pointer (some ⟨lb,0,none⟩)) "Probe").run prog w= .ok (128,.pointer (some p)) w:=AW (name:="Probe") (by kernel_rfl) 361 lb p w h
theorem Bc (lb:Nat) (p:Addr) (w:World) (h:w.cell? ⟨lb,0,none⟩=some (.pointer (some p))):(method 362 78 (.pointer (some ⟨lb,0,none⟩)) "State").run prog w= .ok (129,.pointer (some p)) w:=AW (name:="State") (by kernel_rfl) 361 lb p w h
theorem CC (lb:Nat) (p:Addr) (w:World) (h:w.cell? ⟨lb,0,none⟩=some (.pointer (some p))):(method 362 78 (.pointer (some ⟨lb,0,none⟩)) "Len").run prog w= .ok (126,.pointer (some p)) w:=AW (name:="Len") (by kernel_rfl) 361 lb p w h
theorem Bh (a:Addr) (w:World):(method 362 78 (.pointer (some a)) "Use").run prog w= .ok (132,.pointer (some a)) w:=by kernel_rfl
theorem BG (a:Addr) (w:World):(method 362 78 (.pointer (some a)) "Step").run prog w= .ok (130,.pointer (some a)) w:=by kernel_rfl
theorem D2 (a:Addr) (w:World):(nilAhead 362 78 (.pointer (some a)) "Lock").run prog w= .ok (some false) w:=by kernel_rfl
theorem C_ (a:Addr) (w:World):(nilAhead 362 78 (.pointer (some a)) "Unlock").run prog w= .ok (some false) w:=by kernel_rfl
theorem Dr (a:Addr) (w:World):(nilAhead 362 78 (.pointer (some a)) "Probe").run prog w= .ok (some false) w:=by kernel_rfl
theorem Ce (a:Addr) (w:World):(nilAhead 362 78 (.pointer (some a)) "Step").run prog w= .ok (some false) w:=by kernel_rfl
end Go.Proofs.YtmnephejhkfchaaGreat.Kf
namespace Go.Proofs.YtmnephejhkfchaaGreat.Kc
open _root_.Go.Proofs.Tryz
open Go.RowKit
set_option linter.unusedVariables false
set_option maxRecDepth 100000
theorem CI:∃ j,prog.info? 108 =some j/\j.size=1:=zz1e
theorem AW {name:String} {f:FuncId} (hm:((prog.info? 84).bind (λi=>i.methods.find? (·.name==name))).map (λm=>(m.path,m.func))=some (#[⟨123,0,true⟩],some (f,true)))
  (D lb:Nat) (p:Addr) (w:World) (h:w.cell? ⟨lb,0,none⟩=some (.pointer (some p))):(method (D+1) 84 (.pointer (some ⟨lb,0,none⟩)) name).run prog w= .ok (f,.pointer (some p)) w:=by
 obtain ⟨m,hm,he⟩:=Option.map_eq_some_iff.1 hm;obtain ⟨i,hi,hf⟩:=Option.bind_eq_some_iff.1 hm;simp only [Prod.mk.injEq] at he;obtain ⟨j,hj,hs⟩:=CI;unfold method;simp [typeInfo,hi,hf,he.1,he.2,follow,underlying,underlying123,underlying108,Place.get,asAddr,fieldPlace,Result.andThen,receiverAt,loadVar,isAgg,sizeOf,hj,hs,h,Addr.add]
theorem BN (lb:Nat) (p:Addr) (w:World) (h:w.cell? ⟨lb,0,none⟩=some (.pointer (some p))):(method 362 84 (.pointer (some ⟨lb,0,none⟩)) "Lock").run prog w= .ok (127,.pointer (some p)) w:=AW (name:="Lock") (by kernel_rfl) 361 lb p w h
theorem Ar (lb:Nat) (p:Addr) (w:World) (h:w.cell? ⟨lb,0,none⟩=some (.pointer (some p))):(method 362 84 (.pointer (some ⟨lb,0,none⟩)) "Unlock").run prog w= .ok (131,.pointer (some p)) w:=AW (name:="Unlock") (by kernel_rfl) 361 lb p w h
theorem Dx (lb:Nat) (p:Addr) (w:World) (h:w.cell? ⟨lb,0,none⟩=some (.pointer (some p))):(method 362 84 (.pointer (some ⟨lb,0,none⟩)) "Probe").run prog w= .ok (128,.pointer (some p)) w:=AW (name:="Probe") (by kernel_rfl) 361 lb p w h
theorem Bc (lb:Nat) (p:Addr) (w:World) (h:w.cell? ⟨lb,0,none⟩=some (.pointer (some p))):(method 362 84 (.pointer (some ⟨lb,0,none⟩)) "State").run prog w= .ok (129,.pointer (some p)) w:=AW (name:="State") (by kernel_rfl) 361 lb p w h
theorem CC (lb:Nat) (p:Addr) (w:World) (h:w.cell? ⟨lb,0,none⟩=some (.pointer (some p))):(method 362 84 (.pointer (some ⟨lb,0,none⟩)) "Len").run prog w= .ok (126,.pointer (some p)) w:=AW (name:="Len") (by kernel_rfl) 361 lb p w h
theorem Bh (a:Addr) (w:World):(method 362 84 (.pointer (some a)) "Use").run prog w= .ok (151,.pointer (some a)) w:=by kernel_rfl
theorem BG (a:Addr) (w:World):(method 362 84 (.pointer (some a)) "Step").run prog w= .ok (150,.pointer (some a)) w:=by kernel_rfl
theorem D2 (a:Addr) (w:World):(nilAhead 362 84 (.pointer (some a)) "Lock").run prog w= .ok (some false) w:=by kernel_rfl
theorem C_ (a:Addr) (w:World):(nilAhead 362 84 (.pointer (some a)) "Unlock").run prog w= .ok (some false) w:=by kernel_rfl
theorem Dr (a:Addr) (w:World):(nilAhead 362 84 (.pointer (some a)) "Probe").run prog w= .ok (some false) w:=by kernel_rfl
theorem Ce (a:Addr) (w:World):(nilAhead 362 84 (.pointer (some a)) "Step").run prog w= .ok (some false) w:=by kernel_rfl
end Go.Proofs.YtmnephejhkfchaaGreat.Kc
namespace Go.Proofs.YtmnephejhkfchaaGreat.Km
open _root_.Go.Proofs.Tryz
open Go.RowKit
set_option linter.unusedVariables false
set_option maxRecDepth 100000
theorem CI:∃ j,prog.info? 108 =some j/\j.size=1:=zz1e
theorem AW {name:String} {f:FuncId} (hm:((prog.info? 87).bind (λi=>i.methods.find? (·.name==name))).map (λm=>(m.path,m.func))=some (#[⟨127,0,true⟩],some (f,true)))
  (D lb:Nat) (p:Addr) (w:World) (h:w.cell? ⟨lb,0,none⟩=some (.pointer (some p))):(method (D+1) 87 (.pointer (some ⟨lb,0,none⟩)) name).run prog w= .ok (f,.pointer (some p)) w:=by
 obtain ⟨m,hm,he⟩:=Option.map_eq_some_iff.1 hm;obtain ⟨i,hi,hf⟩:=Option.bind_eq_some_iff.1 hm;simp only [Prod.mk.injEq] at he;obtain ⟨j,hj,hs⟩:=CI;unfold method;simp [typeInfo,hi,hf,he.1,he.2,follow,underlying,underlying127,underlying108,Place.get,asAddr,fieldPlace,Result.andThen,receiverAt,loadVar,isAgg,sizeOf,hj,hs,h,Addr.add]
theorem BN (lb:Nat) (p:Addr) (w:World) (h:w.cell? ⟨lb,0,none⟩=some (.pointer (some p))):(method 362 87 (.pointer (some ⟨lb,0,none⟩)) "Lock").run prog w= .ok (127,.pointer (some p)) w:=AW (name:="Lock") (by kernel_rfl) 361 lb p w h
theorem Ar (lb:Nat) (p:Addr) (w:World) (h:w.cell? ⟨lb,0,none⟩=some (.pointer (some p))):(method 362 87 (.pointer (some ⟨lb,0,none⟩)) "Unlock").run prog w= .ok (131,.pointer (some p)) w:=AW (name:="Unlock") (by kernel_rfl) 361 lb p w h
theorem Dx (lb:Nat) (p:Addr) (w:World) (h:w.cell? ⟨lb,0,none⟩=some (.pointer (some p))):(method 362 87 (.pointer (some ⟨lb,0,none⟩)) "Probe").run prog w= .ok (128,.pointer (some p)) w:=AW (name:="Probe") (by kernel_rfl) 361 lb p w h
theorem Bc (lb:Nat) (p:Addr) (w:World) (h:w.cell? ⟨lb,0,none⟩=some (.pointer (some p))):(method 362 87 (.pointer (some ⟨lb,0,none⟩)) "State").run prog w= .ok (129,.pointer (some p)) w:=AW (name:="State") (by kernel_rfl) 361 lb p w h
theorem CC (lb:Nat) (p:Addr) (w:World) (h:w.cell? ⟨lb,0,none⟩=some (.pointer (some p))):(method 362 87 (.pointer (some ⟨lb,0,none⟩)) "Len").run prog w= .ok (126,.pointer (some p)) w:=AW (name:="Len") (by kernel_rfl) 361 lb p w h
theorem Bh (a:Addr) (w:World):(method 362 87 (.pointer (some a)) "Use").run prog w= .ok (161,.pointer (some a)) w:=by kernel_rfl
theorem BG (a:Addr) (w:World):(method 362 87 (.pointer (some a)) "Step").run prog w= .ok (160,.pointer (some a)) w:=by kernel_rfl
theorem D2 (a:Addr) (w:World):(nilAhead 362 87 (.pointer (some a)) "Lock").run prog w= .ok (some false) w:=by kernel_rfl
theorem C_ (a:Addr) (w:World):(nilAhead 362 87 (.pointer (some a)) "Unlock").run prog w= .ok (some false) w:=by kernel_rfl
theorem Dr (a:Addr) (w:World):(nilAhead 362 87 (.pointer (some a)) "Probe").run prog w= .ok (some false) w:=by kernel_rfl
theorem Ce (a:Addr) (w:World):(nilAhead 362 87 (.pointer (some a)) "Step").run prog w= .ok (some false) w:=by kernel_rfl
end Go.Proofs.YtmnephejhkfchaaGreat.Km
namespace Go.Proofs.YtmnephejhkfchaaGreat.Ks
open _root_.Go.Proofs.Tryz
open Go.RowKit
set_option linter.unusedVariables false
set_option maxRecDepth 100000
theorem CI:∃ j,prog.info? 108 =some j/\j.size=1:=zz1e
theorem AW {name:String} {f:FuncId} (hm:((prog.info? 81).bind (λi=>i.methods.find? (·.name==name))).map (λm=>(m.path,m.func))=some (#[⟨119,0,true⟩],some (f,true)))
  (D lb:Nat) (p:Addr) (w:World) (h:w.cell? ⟨lb,0,none⟩=some (.pointer (some p))):(method (D+1) 81 (.pointer (some ⟨lb,0,none⟩)) name).run prog w= .ok (f,.pointer (some p)) w:=by
 obtain ⟨m,hm,he⟩:=Option.map_eq_some_iff.1 hm;obtain ⟨i,hi,hf⟩:=Option.bind_eq_some_iff.1 hm;simp only [Prod.mk.injEq] at he;obtain ⟨j,hj,hs⟩:=CI;unfold method;simp [typeInfo,hi,hf,he.1,he.2,follow,underlying,underlying119,underlying108,Place.get,asAddr,fieldPlace,Result.andThen,receiverAt,loadVar,isAgg,sizeOf,hj,hs,h,Addr.add]
theorem BN (lb:Nat) (p:Addr) (w:World) (h:w.cell? ⟨lb,0,none⟩=some (.pointer (some p))):(method 362 81 (.pointer (some ⟨lb,0,none⟩)) "Lock").run prog w= .ok (127,.pointer (some p)) w:=AW (name:="Lock") (by kernel_rfl) 361 lb p w h
theorem Ar (lb:Nat) (p:Addr) (w:World) (h:w.cell? ⟨lb,0,none⟩=some (.pointer (some p))):(method 362 81 (.pointer (some ⟨lb,0,none⟩)) "Unlock").run prog w= .ok (131,.pointer (some p)) w:=AW (name:="Unlock") (by kernel_rfl) 361 lb p w h
theorem Bc (lb:Nat) (p:Addr) (w:World) (h:w.cell? ⟨lb,0,none⟩=some (.pointer (some p))):(method 362 81 (.pointer (some ⟨lb,0,none⟩)) "State").run prog w= .ok (129,.pointer (some p)) w:=AW (name:="State") (by kernel_rfl) 361 lb p w h
theorem CC (lb:Nat) (p:Addr) (w:World) (h:w.cell? ⟨lb,0,none⟩=some (.pointer (some p))):(method 362 81 (.pointer (some ⟨lb,0,none⟩)) "Len").run prog w= .ok (126,.pointer (some p)) w:=AW (name:="Len") (by kernel_rfl) 361 lb p w h
theorem Bh (a:Addr) (w:World):(method 362 81 (.pointer (some a)) "Use").run prog w= .ok (147,.pointer (some a)) w:=by kernel_rfl
theorem BG (a:Addr) (w:World):(method 362 81 (.pointer (some a)) "Step").run prog w= .ok (146,.pointer (some a)) w:=by kernel_rfl
end Go.Proofs.YtmnephejhkfchaaGreat.Ks
namespace Go.Proofs.YtmnephejhkfchaaGreat.Ka
open _root_.Go.Proofs.Tryz
open Go.RowKit
set_option linter.unusedVariables false
set_option maxRecDepth 100000
theorem CI:∃ j,prog.info? 108 =some j/\j.size=1:=zz1e
theorem AW {name:String} {f:FuncId} (hm:((prog.info? 90).bind (λi=>i.methods.find? (·.name==name))).map (λm=>(m.path,m.func))=some (#[⟨134,0,true⟩],some (f,true)))
  (D lb:Nat) (p:Addr) (w:World) (h:w.cell? ⟨lb,0,none⟩=some (.pointer (some p))):(method (D+1) 90 (.pointer (some ⟨lb,0,none⟩)) name).run prog w= .ok (f,.pointer (some p)) w:=by
 obtain ⟨m,hm,he⟩:=Option.map_eq_some_iff.1 hm;obtain ⟨i,hi,hf⟩:=Option.bind_eq_some_iff.1 hm;simp only [Prod.mk.injEq] at he;obtain ⟨j,hj,hs⟩:=CI;unfold method;simp [typeInfo,hi,hf,he.1,he.2,follow,underlying,underlying134,underlying108,Place.get,asAddr,fieldPlace,Result.andThen,receiverAt,loadVar,isAgg,sizeOf,hj,hs,h,Addr.add]
theorem BN (lb:Nat) (p:Addr) (w:World) (h:w.cell? ⟨lb,0,none⟩=some (.pointer (some p))):(method 362 90 (.pointer (some ⟨lb,0,none⟩)) "Lock").run prog w= .ok (127,.pointer (some p)) w:=AW (name:="Lock") (by kernel_rfl) 361 lb p w h
theorem Ar (lb:Nat) (p:Addr) (w:World) (h:w.cell? ⟨lb,0,none⟩=some (.pointer (some p))):(method 362 90 (.pointer (some ⟨lb,0,none⟩)) "Unlock").run prog w= .ok (131,.pointer (some p)) w:=AW (name:="Unlock") (by kernel_rfl) 361 lb p w h
theorem Bc (lb:Nat) (p:Addr) (w:World) (h:w.cell? ⟨lb,0,none⟩=some (.pointer (some p))):(method 362 90 (.pointer (some ⟨lb,0,none⟩)) "State").run prog w= .ok (129,.pointer (some p)) w:=AW (name:="State") (by kernel_rfl) 361 lb p w h
theorem CC (lb:Nat) (p:Addr) (w:World) (h:w.cell? ⟨lb,0,none⟩=some (.pointer (some p))):(method 362 90 (.pointer (some ⟨lb,0,none⟩)) "Len").run prog w= .ok (126,.pointer (some p)) w:=AW (name:="Len") (by kernel_rfl) 361 lb p w h
theorem Bh (a:Addr) (w:World):(method 362 90 (.pointer (some a)) "Use").run prog w= .ok (176,.pointer (some a)) w:=by kernel_rfl
theorem BG (a:Addr) (w:World):(method 362 90 (.pointer (some a)) "Step").run prog w= .ok (175,.pointer (some a)) w:=by kernel_rfl
end Go.Proofs.YtmnephejhkfchaaGreat.Ka
namespace Go.Proofs.YtmnephejhkfchaaGreat.Kh
open _root_.Go.Proofs.Tryz
open Go.RowKit
set_option linter.unusedVariables false
set_option maxRecDepth 100000
theorem CI:∃ j,prog.info? 108 =some j/\j.size=1:=zz1e
theorem AW {name:String} {f:FuncId} (hm:((prog.info? 93).bind (λi=>i.methods.find? (·.name==name))).map (λm=>(m.path,m.func))=some (#[⟨137,0,true⟩],some (f,true)))
  (D lb:Nat) (p:Addr) (w:World) (h:w.cell? ⟨lb,0,none⟩=some (.pointer (some p))):(method (D+1) 93 (.pointer (some ⟨lb,0,none⟩)) name).run prog w= .ok (f,.pointer (some p)) w:=by
 obtain ⟨m,hm,he⟩:=Option.map_eq_some_iff.1 hm;obtain ⟨i,hi,hf⟩:=Option.bind_eq_some_iff.1 hm;simp only [Prod.mk.injEq] at he;obtain ⟨j,hj,hs⟩:=CI;unfold method;simp [typeInfo,hi,hf,he.1,he.2,follow,underlying,underlying137,underlying108,Place.get,asAddr,fieldPlace,Result.andThen,receiverAt,loadVar,isAgg,sizeOf,hj,hs,h,Addr.add]
theorem BN (lb:Nat) (p:Addr) (w:World) (h:w.cell? ⟨lb,0,none⟩=some (.pointer (some p))):(method 362 93 (.pointer (some ⟨lb,0,none⟩)) "Lock").run prog w= .ok (127,.pointer (some p)) w:=AW (name:="Lock") (by kernel_rfl) 361 lb p w h
theorem Ar (lb:Nat) (p:Addr) (w:World) (h:w.cell? ⟨lb,0,none⟩=some (.pointer (some p))):(method 362 93 (.pointer (some ⟨lb,0,none⟩)) "Unlock").run prog w= .ok (131,.pointer (some p)) w:=AW (name:="Unlock") (by kernel_rfl) 361 lb p w h
theorem Bc (lb:Nat) (p:Addr) (w:World) (h:w.cell? ⟨lb,0,none⟩=some (.pointer (some p))):(method 362 93 (.pointer (some ⟨lb,0,none⟩)) "State").run prog w= .ok (129,.pointer (some p)) w:=AW (name:="State") (by kernel_rfl) 361 lb p w h
theorem CC (lb:Nat) (p:Addr) (w:World) (h:w.cell? ⟨lb,0,none⟩=some (.pointer (some p))):(method 362 93 (.pointer (some ⟨lb,0,none⟩)) "Len").run prog w= .ok (126,.pointer (some p)) w:=AW (name:="Len") (by kernel_rfl) 361 lb p w h
theorem Bh (a:Addr) (w:World):(method 362 93 (.pointer (some a)) "Use").run prog w= .ok (194,.pointer (some a)) w:=by kernel_rfl
theorem BG (a:Addr) (w:World):(method 362 93 (.pointer (some a)) "Step").run prog w= .ok (193,.pointer (some a)) w:=by kernel_rfl
end Go.Proofs.YtmnephejhkfchaaGreat.Kh
