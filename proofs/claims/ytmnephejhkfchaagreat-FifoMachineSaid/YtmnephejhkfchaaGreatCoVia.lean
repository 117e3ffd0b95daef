
import Derived.Test.YtmnephejhkfchaaGreatHomed
namespace Go.Proofs.YtmnephejhkfchaaGreat
open Go.RowKit
set_option linter.unusedVariables false
set_option maxRecDepth 100000
structure Dd where
 ev:Int
 enq:Bool
 arr:Bool
 lead:Bool
def Dd.no:Dd:=⟨0,false,false,false⟩
def Dd.val (d:Dd):Value:= .agg #[.int .i64 d.ev,.bool d.enq,.bool d.arr,.bool d.lead]
end Go.Proofs.YtmnephejhkfchaaGreat
namespace Go.Proofs.YtmnephejhkfchaaGreat.Kf
open Go.RowKit
set_option linter.unusedVariables false
set_option maxRecDepth 100000
structure FL where
 s:SS
 num:Nat→Int
 dr:Nat→Bool
 ps:PSta
structure Lp where
 lb:Nat
 p:Nat
 b:Nat
 tb:Nat
 a1:Int
 a2:Int
 q:Place
 hs:List Int
def FL.acq (f:FL) (L:Lp) (t:Nat) (u:Int):FL:=if f.dr t=true then {f with ps:=doS f.ps u 1 L.a2 0 0} else {f with num:=upd f.num t (tellS f.ps u 5 L.a1),dr:=upd f.dr t true,ps:=doS f.ps u 5 L.a1 0 1}
def FL.acqD (f:FL) (L:Lp) (t:Nat) (u:Int):Dd:=if f.dr t=true then (if tellS f.ps u 1 L.a2=f.num t then ⟨1,false,false,false⟩ else Dd.no) else ⟨0,true,false,false⟩
def FL.rel (f:FL) (L:Lp) (t:Nat) (u:Int):FL:={f with num:=upd f.num t 0,dr:=upd f.dr t false,ps:=doS f.ps u 2 L.a2 0 ((f.num t+1)%4294967296)}
def FL.ask (f:FL) (L:Lp) (t:Nat) (u:Int):FL:={f with ps:=doS f.ps u 1 L.a1 0 0}
def FL.askD (f:FL) (L:Lp) (t:Nat) (u:Int):Dd:=if tellS f.ps u 1 L.a1=(f.num t+1)%4294967296 then ⟨4,false,false,false⟩ else ⟨5,false,false,false⟩
def FL.mid (f:FL) (L:Lp) (t u:Int):FL:=if 0≤t∧t<f.s.n then (if f.s.st t.toNat=1 then f.acq L t.toNat u else if f.s.st t.toNat=3 then f.rel L t.toNat u else if f.s.st t.toNat=4 then f.ask L t.toNat u else f) else f
def FL.did (f:FL) (L:Lp) (t u:Int):Dd:=if 0≤t∧t<f.s.n then (if f.s.st t.toNat=1 then f.acqD L t.toNat u else if f.s.st t.toNat=3 then ⟨3,false,false,false⟩ else if f.s.st t.toNat=4 then f.askD L t.toNat u else Dd.no) else Dd.no
def FL.step (f:FL) (L:Lp) (t u:Int):FL:={f.mid L t u with s:=f.s.fin t (f.did L t u).ev}
def FL.lock (f:FL) (t d:Int):FL:={f with s:=f.s.lock t d}
def FL.turn (f:FL) (t x:Int):FL:={f with s:=f.s.turn t x}
theorem FL.acq_s (f:FL) (L:Lp) (t:Nat) (u:Int):(f.acq L t u).s=f.s:=by unfold FL.acq;split<;>rfl
theorem FL.mid_s (f:FL) (L:Lp) (t u:Int):(f.mid L t u).s=f.s:=by
 unfold FL.mid
 repeat' split
 ·exact f.acq_s L _ u
 all_goals rfl
end Go.Proofs.YtmnephejhkfchaaGreat.Kf
namespace Go.Proofs.YtmnephejhkfchaaGreat.Kc
open Go.RowKit
set_option linter.unusedVariables false
set_option maxRecDepth 100000
structure FL where
 s:SS
 pc:Nat→Int
 node:Nat→Int
 ahd:Nat→Int
 ps:PSta
structure Lp where
 lb:Nat
 p:Nat
 b:Nat
 tb:Nat
 a1:Int
 a2:Int
 q:Place
 hs:List Int
def FL.acq (f:FL) (L:Lp) (t:Nat) (u:Int):FL:=
 if f.pc t=0 then {f with pc:=upd f.pc t 1,ps:=doS f.ps u 2 (L.a2+f.node t) 0 1}
 else if f.pc t=1 then {f with pc:=upd f.pc t 2,ahd:=upd f.ahd t (tellS f.ps u 3 L.a1),ps:=doS f.ps u 3 L.a1 0 (f.node t)}
 else {f with ps:=doS f.ps u 1 (L.a2+f.ahd t) 0 0}
def FL.acqD (f:FL) (L:Lp) (t:Nat) (u:Int):Dd:=if f.pc t=0 then Dd.no else if f.pc t=1 then ⟨0,true,false,false⟩ else if tellS f.ps u 1 (L.a2+f.ahd t)=0 then ⟨1,false,false,false⟩ else Dd.no
def FL.rel (f:FL) (L:Lp) (t:Nat) (u:Int):FL:={f with pc:=upd f.pc t 0,node:=upd f.node t (f.ahd t),ahd:=upd f.ahd t 0,ps:=doS f.ps u 2 (L.a2+f.node t) 0 0}
def FL.ask (f:FL) (L:Lp) (t:Nat) (u:Int):FL:={f with ps:=doS f.ps u 1 L.a1 0 0}
def FL.askD (f:FL) (L:Lp) (t:Nat) (u:Int):Dd:=if tellS f.ps u 1 L.a1=f.node t then ⟨4,false,false,false⟩ else ⟨5,false,false,false⟩
def FL.mid (f:FL) (L:Lp) (t u:Int):FL:=if 0≤t∧t<f.s.n then (if f.s.st t.toNat=1 then f.acq L t.toNat u else if f.s.st t.toNat=3 then f.rel L t.toNat u else if f.s.st t.toNat=4 then f.ask L t.toNat u else f) else f
def FL.did (f:FL) (L:Lp) (t u:Int):Dd:=if 0≤t∧t<f.s.n then (if f.s.st t.toNat=1 then f.acqD L t.toNat u else if f.s.st t.toNat=3 then ⟨3,false,false,false⟩ else if f.s.st t.toNat=4 then f.askD L t.toNat u else Dd.no) else Dd.no
def FL.step (f:FL) (L:Lp) (t u:Int):FL:={f.mid L t u with s:=f.s.fin t (f.did L t u).ev}
def FL.lock (f:FL) (t d:Int):FL:={f with s:=f.s.lock t d}
def FL.turn (f:FL) (t x:Int):FL:={f with s:=f.s.turn t x}
theorem FL.acq_s (f:FL) (L:Lp) (t:Nat) (u:Int):(f.acq L t u).s=f.s:=by unfold FL.acq;repeat' split<;>try rfl
theorem FL.mid_s (f:FL) (L:Lp) (t u:Int):(f.mid L t u).s=f.s:=by
 unfold FL.mid
 repeat' split
 ·exact f.acq_s L _ u
 all_goals rfl
end Go.Proofs.YtmnephejhkfchaaGreat.Kc
namespace Go.Proofs.YtmnephejhkfchaaGreat.Km
open Go.RowKit
set_option linter.unusedVariables false
set_option maxRecDepth 100000
structure FL where
 s:SS
 pc:Nat→Int
 oth:Nat→Int
 ps:PSta
structure Lp where
 lb:Nat
 p:Nat
 b:Nat
 tb:Nat
 a1:Int
 a2:Int
 q:Place
 hs:List Int
def Lp.nx (L:Lp) (t:Int):Int:=L.a2+2*t
def Lp.lk (L:Lp) (t:Int):Int:=L.a2+2*t+1
def casT (s:PSta) (u a old:Int):Bool:=okT s u a&&casB s.ws a old
def FL.acq (f:FL) (L:Lp) (t:Nat) (u:Int):FL:=
 if f.pc t=0 then {f with pc:=upd f.pc t 1,ps:=doS f.ps u 2 (L.nx t) 0 0}
 else if f.pc t=1 then {f with pc:=upd f.pc t (if tellS f.ps u 3 L.a1=0 then 0 else 2),oth:=upd f.oth t (tellS f.ps u 3 L.a1),ps:=doS f.ps u 3 L.a1 0 ((t:Int)+1)}
 else if f.pc t=2 then {f with pc:=upd f.pc t 3,ps:=doS f.ps u 2 (L.lk t) 0 1}
 else if f.pc t=3 then {f with pc:=upd f.pc t 4,ps:=doS f.ps u 2 (L.nx (f.oth t-1)) 0 ((t:Int)+1)}
 else {f with pc:=upd f.pc t (if tellS f.ps u 1 (L.lk t)=0 then 0 else 4),ps:=doS f.ps u 1 (L.lk t) 0 0}
def FL.acqD (f:FL) (L:Lp) (t:Nat) (u:Int):Dd:=
 if f.pc t=0 then Dd.no
 else if f.pc t=1 then ⟨if tellS f.ps u 3 L.a1=0 then 1 else 0,true,false,false⟩
 else if f.pc t=2 then Dd.no
 else if f.pc t=3 then Dd.no
 else if tellS f.ps u 1 (L.lk t)=0 then ⟨1,false,false,false⟩ else Dd.no
def FL.rel (f:FL) (L:Lp) (t:Nat) (u:Int):FL:=
 if f.pc t=0 then {f with pc:=upd f.pc t (if tellS f.ps u 1 (L.nx t)=0 then 1 else 3),oth:=upd f.oth t (tellS f.ps u 1 (L.nx t)),ps:=doS f.ps u 1 (L.nx t) 0 0}
 else if f.pc t=1 then {f with pc:=upd f.pc t (if casT f.ps u L.a1 ((t:Int)+1)=true then 0 else 2),ps:=doS f.ps u 4 L.a1 ((t:Int)+1) 0}
 else if f.pc t=2 then {f with pc:=upd f.pc t (if tellS f.ps u 1 (L.nx t)=0 then 2 else 3),oth:=upd f.oth t (tellS f.ps u 1 (L.nx t)),ps:=doS f.ps u 1 (L.nx t) 0 0}
 else {f with pc:=upd f.pc t 0,ps:=doS f.ps u 2 (L.lk (f.oth t-1)) 0 0}
def FL.relD (f:FL) (L:Lp) (t:Nat) (u:Int):Dd:=
 if f.pc t=0 then Dd.no
 else if f.pc t=1 then (if casT f.ps u L.a1 ((t:Int)+1)=true then ⟨3,false,false,false⟩ else Dd.no)
 else if f.pc t=2 then Dd.no
 else ⟨3,false,false,false⟩
def FL.ask (f:FL) (L:Lp) (t:Nat) (u:Int):FL:={f with ps:=doS f.ps u 1 (L.nx t) 0 0}
def FL.askD (f:FL) (L:Lp) (t:Nat) (u:Int):Dd:=if tellS f.ps u 1 (L.nx t)=0 then ⟨4,false,false,false⟩ else ⟨5,false,false,false⟩
def FL.mid (f:FL) (L:Lp) (t u:Int):FL:=if 0≤t∧t<f.s.n then (if f.s.st t.toNat=1 then f.acq L t.toNat u else if f.s.st t.toNat=3 then f.rel L t.toNat u else if f.s.st t.toNat=4 then f.ask L t.toNat u else f) else f
def FL.did (f:FL) (L:Lp) (t u:Int):Dd:=if 0≤t∧t<f.s.n then (if f.s.st t.toNat=1 then f.acqD L t.toNat u else if f.s.st t.toNat=3 then f.relD L t.toNat u else if f.s.st t.toNat=4 then f.askD L t.toNat u else Dd.no) else Dd.no
def FL.step (f:FL) (L:Lp) (t u:Int):FL:={f.mid L t u with s:=f.s.fin t (f.did L t u).ev}
def FL.lock (f:FL) (t d:Int):FL:={f with s:=f.s.lock t d}
def FL.turn (f:FL) (t x:Int):FL:={f with s:=f.s.turn t x}
theorem FL.acq_s (f:FL) (L:Lp) (t:Nat) (u:Int):(f.acq L t u).s=f.s:=by unfold FL.acq;repeat' split<;>try rfl
theorem FL.rel_s (f:FL) (L:Lp) (t:Nat) (u:Int):(f.rel L t u).s=f.s:=by unfold FL.rel;repeat' split<;>try rfl
theorem FL.mid_s (f:FL) (L:Lp) (t u:Int):(f.mid L t u).s=f.s:=by
 unfold FL.mid
 repeat' split
 ·exact f.acq_s L _ u
 ·exact f.rel_s L _ u
 all_goals rfl
end Go.Proofs.YtmnephejhkfchaaGreat.Km
namespace Go.Proofs.YtmnephejhkfchaaGreat.Ka
open Go.RowKit
set_option linter.unusedVariables false
set_option maxRecDepth 100000
structure FL where
 s:SS
 ea:Nat
 pc:Nat→Int
 nd:Nat→Int
 oth:Nat→Int
 tr:Nat→Int
 ps:PSta
structure Lp where
 lb:Nat
 p:Nat
 b:Nat
 tb:Nat
 a1:Int
 a2:Int
 q:Place
 hs:List Int
def Lp.sA (L:Lp) (i:Int):Int:=L.a2+3*(i-1)
def Lp.nA (L:Lp) (i:Int):Int:=L.a2+3*(i-1)+1
def Lp.oA (L:Lp) (i:Int):Int:=L.a2+3*(i-1)+2
def casT (s:PSta) (u a old:Int):Bool:=okT s u a&&casB s.ws a old
def FL.id (f:FL) (t:Nat):Int:=(t:Int)*f.ea+f.tr t+1
abbrev FL.due (f:FL) (t:Nat) (x:Int):Prop:=0≤f.s.dl t∧f.s.dl t≤x
def FL.acq (f:FL) (L:Lp) (t:Nat) (u x:Int):FL:=
 if f.pc t=1 then {f with pc:=upd f.pc t (if tellS f.ps u 1 (L.oA (f.id t))=0 then 2 else 1),nd:=upd f.nd t (f.id t),tr:=upd f.tr t (if tellS f.ps u 1 (L.oA (f.id t))≠0∧f.tr t+1=f.ea then 0 else f.tr t+1),ps:=doS f.ps u 1 (L.oA (f.id t)) 0 0}
 else if f.pc t=2 then {f with pc:=upd f.pc t 3,ps:=doS f.ps u 2 (L.oA (f.nd t)) 0 1}
 else if f.pc t=3 then {f with pc:=upd f.pc t 4,ps:=doS f.ps u 2 (L.sA (f.nd t)) 0 0}
 else if f.pc t=4 then {f with pc:=upd f.pc t 5,ps:=doS f.ps u 2 (L.nA (f.nd t)) 0 0}
 else if f.pc t=5 then {f with pc:=upd f.pc t (if tellS f.ps u 3 L.a1=0 then 1 else 6),oth:=upd f.oth t (tellS f.ps u 3 L.a1),tr:=upd f.tr t (if tellS f.ps u 3 L.a1=0 then 0 else f.tr t),ps:=doS f.ps u 3 L.a1 0 (f.nd t)}
 else if f.pc t=6 then {f with pc:=upd f.pc t 7,ps:=doS f.ps u 2 (L.nA (f.oth t)) 0 (f.nd t)}
 else if f.pc t=7 then {f with pc:=upd f.pc t (if tellS f.ps u 1 (L.sA (f.nd t))≠0 then 1 else if f.due t x then 8 else 7),tr:=upd f.tr t (if tellS f.ps u 1 (L.sA (f.nd t))≠0 then 0 else f.tr t),ps:=doS f.ps u 1 (L.sA (f.nd t)) 0 0}
 else {f with pc:=upd f.pc t 1,tr:=upd f.tr t 0,ps:=doS f.ps u 4 (L.sA (f.nd t)) 0 2}
def FL.acqD (f:FL) (L:Lp) (t:Nat) (u x:Int):Dd:=
 if f.pc t=1 then (if tellS f.ps u 1 (L.oA (f.id t))≠0∧f.tr t+1=f.ea then ⟨6,false,false,false⟩ else Dd.no)
 else if f.pc t=2 then Dd.no
 else if f.pc t=3 then Dd.no
 else if f.pc t=4 then Dd.no
 else if f.pc t=5 then ⟨if tellS f.ps u 3 L.a1=0 then 1 else 0,true,false,false⟩
 else if f.pc t=6 then Dd.no
 else if f.pc t=7 then (if tellS f.ps u 1 (L.sA (f.nd t))≠0 then ⟨1,false,false,false⟩ else Dd.no)
 else if casT f.ps u (L.sA (f.nd t)) 0=true then ⟨2,false,false,false⟩ else ⟨1,false,false,false⟩
def FL.rel (f:FL) (L:Lp) (t:Nat) (u:Int):FL:=
 if f.pc t=1 then {f with pc:=upd f.pc t (if tellS f.ps u 1 (L.nA (f.nd t))=0 then 2 else 4),oth:=upd f.oth t (tellS f.ps u 1 (L.nA (f.nd t))),ps:=doS f.ps u 1 (L.nA (f.nd t)) 0 0}
 else if f.pc t=2 then {f with pc:=upd f.pc t (if casT f.ps u L.a1 (f.nd t)=true then 6 else 3),ps:=doS f.ps u 4 L.a1 (f.nd t) 0}
 else if f.pc t=3 then {f with pc:=upd f.pc t (if tellS f.ps u 1 (L.nA (f.nd t))=0 then 3 else 4),oth:=upd f.oth t (tellS f.ps u 1 (L.nA (f.nd t))),ps:=doS f.ps u 1 (L.nA (f.nd t)) 0 0}
 else if f.pc t=4 then {f with pc:=upd f.pc t (if casT f.ps u (L.sA (f.oth t)) 0=true then 6 else 5),ps:=doS f.ps u 4 (L.sA (f.oth t)) 0 1}
 else if f.pc t=5 then {f with pc:=upd f.pc t 1,nd:=upd f.nd t (f.oth t),ps:=doS f.ps u 2 (L.oA (f.nd t)) 0 0}
 else {f with pc:=upd f.pc t 1,tr:=upd f.tr t 0,ps:=doS f.ps u 2 (L.oA (f.nd t)) 0 0}
def FL.relD (f:FL) (t:Nat):Dd:=if f.pc t=1∨f.pc t=2∨f.pc t=3∨f.pc t=4∨f.pc t=5 then Dd.no else ⟨3,false,false,false⟩
def FL.mid (f:FL) (L:Lp) (t u x:Int):FL:=if 0≤t∧t<f.s.n then (if f.s.st t.toNat=1 then f.acq L t.toNat u x else if f.s.st t.toNat=3 then f.rel L t.toNat u else f) else f
def FL.did (f:FL) (L:Lp) (t u x:Int):Dd:=if 0≤t∧t<f.s.n then (if f.s.st t.toNat=1 then f.acqD L t.toNat u x else if f.s.st t.toNat=3 then f.relD t.toNat else Dd.no) else Dd.no
def FL.step (f:FL) (L:Lp) (t u x:Int):FL:={f.mid L t u x with s:=f.s.fin t (f.did L t u x).ev}
def FL.lock (f:FL) (t d:Int):FL:={f with s:=f.s.lock t d}
def FL.turn (f:FL) (t x:Int):FL:={f with s:=f.s.turn t x}
theorem FL.acq_s (f:FL) (L:Lp) (t:Nat) (u x:Int):(f.acq L t u x).s=f.s:=by unfold FL.acq;repeat' split<;>try rfl
theorem FL.rel_s (f:FL) (L:Lp) (t:Nat) (u:Int):(f.rel L t u).s=f.s:=by unfold FL.rel;repeat' split<;>try rfl
theorem FL.mid_s (f:FL) (L:Lp) (t u x:Int):(f.mid L t u x).s=f.s:=by
 unfold FL.mid
 repeat' split
 ·exact f.acq_s L _ u x
 ·exact f.rel_s L _ u
 all_goals rfl
end Go.Proofs.YtmnephejhkfchaaGreat.Ka
namespace Go.Proofs.YtmnephejhkfchaaGreat.Ks
open _root_.Go.Proofs.Tryz
open Go.RowKit
set_option linter.unusedVariables false
set_option maxRecDepth 100000
theorem via_info:∃ j,prog.info? 108 =some j∧j.size=1:=by
 have h:(prog.info? 108).map (·.size)=some 1:=by kernel_rfl
 exact Option.map_eq_some_iff.1 h
theorem via_seats {name:String} {f:FuncId} (hm:((prog.info? 81).bind (λi=>i.methods.find? (·.name==name))).map (λm=>(m.path,m.func))=some (#[⟨119,0,true⟩],some (f,true)))
  (D lb:Nat) (p:Addr) (w:World) (h:w.cell? ⟨lb,0,none⟩=some (.pointer (some p))):(method (D+1) 81 (.pointer (some ⟨lb,0,none⟩)) name).run prog w= .ok (f,.pointer (some p)) w:=by
 obtain ⟨m,hm,he⟩:=Option.map_eq_some_iff.1 hm
 obtain ⟨i,hi,hf⟩:=Option.bind_eq_some_iff.1 hm
 simp only [Prod.mk.injEq] at he
 obtain ⟨j,hj,hs⟩:=via_info
 unfold method
 simp [typeInfo,hi,hf,he.1,he.2,follow,underlying,underlying119,underlying108,Place.get,asAddr,fieldPlace,Result.andThen,receiverAt,loadVar,isAgg,sizeOf,hj,hs,h,Addr.add]
theorem via_lock (lb:Nat) (p:Addr) (w:World) (h:w.cell? ⟨lb,0,none⟩=some (.pointer (some p))):(method 362 81 (.pointer (some ⟨lb,0,none⟩)) "Lock").run prog w= .ok (127,.pointer (some p)) w:=via_seats (name:="Lock") (by kernel_rfl) 361 lb p w h
theorem via_unlock (lb:Nat) (p:Addr) (w:World) (h:w.cell? ⟨lb,0,none⟩=some (.pointer (some p))):(method 362 81 (.pointer (some ⟨lb,0,none⟩)) "Unlock").run prog w= .ok (131,.pointer (some p)) w:=via_seats (name:="Unlock") (by kernel_rfl) 361 lb p w h
theorem via_state (lb:Nat) (p:Addr) (w:World) (h:w.cell? ⟨lb,0,none⟩=some (.pointer (some p))):(method 362 81 (.pointer (some ⟨lb,0,none⟩)) "State").run prog w= .ok (129,.pointer (some p)) w:=via_seats (name:="State") (by kernel_rfl) 361 lb p w h
theorem via_len (lb:Nat) (p:Addr) (w:World) (h:w.cell? ⟨lb,0,none⟩=some (.pointer (some p))):(method 362 81 (.pointer (some ⟨lb,0,none⟩)) "Len").run prog w= .ok (126,.pointer (some p)) w:=via_seats (name:="Len") (by kernel_rfl) 361 lb p w h
theorem via_use (a:Addr) (w:World):(method 362 81 (.pointer (some a)) "Use").run prog w= .ok (147,.pointer (some a)) w:=by kernel_rfl
theorem via_step (a:Addr) (w:World):(method 362 81 (.pointer (some a)) "Step").run prog w= .ok (146,.pointer (some a)) w:=by kernel_rfl
end Go.Proofs.YtmnephejhkfchaaGreat.Ks
namespace Go.Proofs.YtmnephejhkfchaaGreat.Ka
open _root_.Go.Proofs.Tryz
open Go.RowKit
set_option linter.unusedVariables false
set_option maxRecDepth 100000
theorem via_info:∃ j,prog.info? 108 =some j∧j.size=1:=by
 have h:(prog.info? 108).map (·.size)=some 1:=by kernel_rfl
 exact Option.map_eq_some_iff.1 h
theorem via_seats {name:String} {f:FuncId} (hm:((prog.info? 90).bind (λi=>i.methods.find? (·.name==name))).map (λm=>(m.path,m.func))=some (#[⟨134,0,true⟩],some (f,true)))
  (D lb:Nat) (p:Addr) (w:World) (h:w.cell? ⟨lb,0,none⟩=some (.pointer (some p))):(method (D+1) 90 (.pointer (some ⟨lb,0,none⟩)) name).run prog w= .ok (f,.pointer (some p)) w:=by
 obtain ⟨m,hm,he⟩:=Option.map_eq_some_iff.1 hm
 obtain ⟨i,hi,hf⟩:=Option.bind_eq_some_iff.1 hm
 simp only [Prod.mk.injEq] at he
 obtain ⟨j,hj,hs⟩:=via_info
 unfold method
 simp [typeInfo,hi,hf,he.1,he.2,follow,underlying,underlying134,underlying108,Place.get,asAddr,fieldPlace,Result.andThen,receiverAt,loadVar,isAgg,sizeOf,hj,hs,h,Addr.add]
theorem via_lock (lb:Nat) (p:Addr) (w:World) (h:w.cell? ⟨lb,0,none⟩=some (.pointer (some p))):(method 362 90 (.pointer (some ⟨lb,0,none⟩)) "Lock").run prog w= .ok (127,.pointer (some p)) w:=via_seats (name:="Lock") (by kernel_rfl) 361 lb p w h
theorem via_unlock (lb:Nat) (p:Addr) (w:World) (h:w.cell? ⟨lb,0,none⟩=some (.pointer (some p))):(method 362 90 (.pointer (some ⟨lb,0,none⟩)) "Unlock").run prog w= .ok (131,.pointer (some p)) w:=via_seats (name:="Unlock") (by kernel_rfl) 361 lb p w h
theorem via_state (lb:Nat) (p:Addr) (w:World) (h:w.cell? ⟨lb,0,none⟩=some (.pointer (some p))):(method 362 90 (.pointer (some ⟨lb,0,none⟩)) "State").run prog w= .ok (129,.pointer (some p)) w:=via_seats (name:="State") (by kernel_rfl) 361 lb p w h
theorem via_len (lb:Nat) (p:Addr) (w:World) (h:w.cell? ⟨lb,0,none⟩=some (.pointer (some p))):(method 362 90 (.pointer (some ⟨lb,0,none⟩)) "Len").run prog w= .ok (126,.pointer (some p)) w:=via_seats (name:="Len") (by kernel_rfl) 361 lb p w h
theorem via_use (a:Addr) (w:World):(method 362 90 (.pointer (some a)) "Use").run prog w= .ok (176,.pointer (some a)) w:=by kernel_rfl
theorem via_step (a:Addr) (w:World):(method 362 90 (.pointer (some a)) "Step").run prog w= .ok (175,.pointer (some a)) w:=by kernel_rfl
end Go.Proofs.YtmnephejhkfchaaGreat.Ka
namespace Go.Proofs.YtmnephejhkfchaaGreat.Kh
open _root_.Go.Proofs.Tryz
open Go.RowKit
set_option linter.unusedVariables false
set_option maxRecDepth 100000
end Go.Proofs.YtmnephejhkfchaaGreat.Kh
namespace Go.Proofs.YtmnephejhkfchaaGreat.Kf
open _root_.Go.Proofs.Tryz
open Go.RowKit
set_option linter.unusedVariables false
set_option maxRecDepth 100000
theorem via_info:∃ j,prog.info? 108 =some j∧j.size=1:=by
 have h:(prog.info? 108).map (·.size)=some 1:=by kernel_rfl
 exact Option.map_eq_some_iff.1 h
theorem via_seats {name:String} {f:FuncId} (hm:((prog.info? 78).bind (λi=>i.methods.find? (·.name==name))).map (λm=>(m.path,m.func))=some (#[⟨114,0,true⟩],some (f,true)))
  (D lb:Nat) (p:Addr) (w:World) (h:w.cell? ⟨lb,0,none⟩=some (.pointer (some p))):(method (D+1) 78 (.pointer (some ⟨lb,0,none⟩)) name).run prog w= .ok (f,.pointer (some p)) w:=by
 obtain ⟨m,hm,he⟩:=Option.map_eq_some_iff.1 hm
 obtain ⟨i,hi,hf⟩:=Option.bind_eq_some_iff.1 hm
 simp only [Prod.mk.injEq] at he
 obtain ⟨j,hj,hs⟩:=via_info
 unfold method
 simp [typeInfo,hi,hf,he.1,he.2,follow,underlying,underlying114,underlying108,Place.get,asAddr,fieldPlace,Result.andThen,receiverAt,loadVar,isAgg,sizeOf,hj,hs,h,Addr.add]
theorem via_lock (lb:Nat) (p:Addr) (w:World) (h:w.cell? ⟨lb,0,none⟩=some (.pointer (some p))):(method 362 78 (.pointer (some ⟨lb,0,none⟩)) "Lock").run prog w= .ok (127,.pointer (some p)) w:=via_seats (name:="Lock") (by kernel_rfl) 361 lb p w h
theorem via_unlock (lb:Nat) (p:Addr) (w:World) (h:w.cell? ⟨lb,0,none⟩=some (.pointer (some p))):(method 362 78 (.pointer (some ⟨lb,0,none⟩)) "Unlock").run prog w= .ok (131,.pointer (some p)) w:=via_seats (name:="Unlock") (by kernel_rfl) 361 lb p w h
theorem via_state (lb:Nat) (p:Addr) (w:World) (h:w.cell? ⟨lb,0,none⟩=some (.pointer (some p))):(method 362 78 (.pointer (some ⟨lb,0,none⟩)) "State").run prog w= .ok (129,.pointer (some p)) w:=via_seats (name:="State") (by kernel_rfl) 361 lb p w h
theorem via_len (lb:Nat) (p:Addr) (w:World) (h:w.cell? ⟨lb,0,none⟩=some (.pointer (some p))):(method 362 78 (.pointer (some ⟨lb,0,none⟩)) "Len").run prog w= .ok (126,.pointer (some p)) w:=via_seats (name:="Len") (by kernel_rfl) 361 lb p w h
theorem via_use (a:Addr) (w:World):(method 362 78 (.pointer (some a)) "Use").run prog w= .ok (132,.pointer (some a)) w:=by kernel_rfl
theorem via_step (a:Addr) (w:World):(method 362 78 (.pointer (some a)) "Step").run prog w= .ok (130,.pointer (some a)) w:=by kernel_rfl
end Go.Proofs.YtmnephejhkfchaaGreat.Kf
namespace Go.Proofs.YtmnephejhkfchaaGreat.Kc
open _root_.Go.Proofs.Tryz
open Go.RowKit
set_option linter.unusedVariables false
set_option maxRecDepth 100000
theorem via_info:∃ j,prog.info? 108 =some j∧j.size=1:=by
 have h:(prog.info? 108).map (·.size)=some 1:=by kernel_rfl
 exact Option.map_eq_some_iff.1 h
theorem via_seats {name:String} {f:FuncId} (hm:((prog.info? 84).bind (λi=>i.methods.find? (·.name==name))).map (λm=>(m.path,m.func))=some (#[⟨123,0,true⟩],some (f,true)))
  (D lb:Nat) (p:Addr) (w:World) (h:w.cell? ⟨lb,0,none⟩=some (.pointer (some p))):(method (D+1) 84 (.pointer (some ⟨lb,0,none⟩)) name).run prog w= .ok (f,.pointer (some p)) w:=by
 obtain ⟨m,hm,he⟩:=Option.map_eq_some_iff.1 hm
 obtain ⟨i,hi,hf⟩:=Option.bind_eq_some_iff.1 hm
 simp only [Prod.mk.injEq] at he
 obtain ⟨j,hj,hs⟩:=via_info
 unfold method
 simp [typeInfo,hi,hf,he.1,he.2,follow,underlying,underlying123,underlying108,Place.get,asAddr,fieldPlace,Result.andThen,receiverAt,loadVar,isAgg,sizeOf,hj,hs,h,Addr.add]
theorem via_lock (lb:Nat) (p:Addr) (w:World) (h:w.cell? ⟨lb,0,none⟩=some (.pointer (some p))):(method 362 84 (.pointer (some ⟨lb,0,none⟩)) "Lock").run prog w= .ok (127,.pointer (some p)) w:=via_seats (name:="Lock") (by kernel_rfl) 361 lb p w h
theorem via_unlock (lb:Nat) (p:Addr) (w:World) (h:w.cell? ⟨lb,0,none⟩=some (.pointer (some p))):(method 362 84 (.pointer (some ⟨lb,0,none⟩)) "Unlock").run prog w= .ok (131,.pointer (some p)) w:=via_seats (name:="Unlock") (by kernel_rfl) 361 lb p w h
theorem via_state (lb:Nat) (p:Addr) (w:World) (h:w.cell? ⟨lb,0,none⟩=some (.pointer (some p))):(method 362 84 (.pointer (some ⟨lb,0,none⟩)) "State").run prog w= .ok (129,.pointer (some p)) w:=via_seats (name:="State") (by kernel_rfl) 361 lb p w h
theorem via_len (lb:Nat) (p:Addr) (w:World) (h:w.cell? ⟨lb,0,none⟩=some (.pointer (some p))):(method 362 84 (.pointer (some ⟨lb,0,none⟩)) "Len").run prog w= .ok (126,.pointer (some p)) w:=via_seats (name:="Len") (by kernel_rfl) 361 lb p w h
theorem via_use (a:Addr) (w:World):(method 362 84 (.pointer (some a)) "Use").run prog w= .ok (151,.pointer (some a)) w:=by kernel_rfl
theorem via_step (a:Addr) (w:World):(method 362 84 (.pointer (some a)) "Step").run prog w= .ok (150,.pointer (some a)) w:=by kernel_rfl
end Go.Proofs.YtmnephejhkfchaaGreat.Kc
namespace Go.Proofs.YtmnephejhkfchaaGreat.Km
open _root_.Go.Proofs.Tryz
open Go.RowKit
set_option linter.unusedVariables false
set_option maxRecDepth 100000
theorem via_info:∃ j,prog.info? 108 =some j∧j.size=1:=by
 have h:(prog.info? 108).map (·.size)=some 1:=by kernel_rfl
 exact Option.map_eq_some_iff.1 h
theorem via_seats {name:String} {f:FuncId} (hm:((prog.info? 87).bind (λi=>i.methods.find? (·.name==name))).map (λm=>(m.path,m.func))=some (#[⟨127,0,true⟩],some (f,true)))
  (D lb:Nat) (p:Addr) (w:World) (h:w.cell? ⟨lb,0,none⟩=some (.pointer (some p))):(method (D+1) 87 (.pointer (some ⟨lb,0,none⟩)) name).run prog w= .ok (f,.pointer (some p)) w:=by
 obtain ⟨m,hm,he⟩:=Option.map_eq_some_iff.1 hm
 obtain ⟨i,hi,hf⟩:=Option.bind_eq_some_iff.1 hm
 simp only [Prod.mk.injEq] at he
 obtain ⟨j,hj,hs⟩:=via_info
 unfold method
 simp [typeInfo,hi,hf,he.1,he.2,follow,underlying,underlying127,underlying108,Place.get,asAddr,fieldPlace,Result.andThen,receiverAt,loadVar,isAgg,sizeOf,hj,hs,h,Addr.add]
theorem via_lock (lb:Nat) (p:Addr) (w:World) (h:w.cell? ⟨lb,0,none⟩=some (.pointer (some p))):(method 362 87 (.pointer (some ⟨lb,0,none⟩)) "Lock").run prog w= .ok (127,.pointer (some p)) w:=via_seats (name:="Lock") (by kernel_rfl) 361 lb p w h
theorem via_unlock (lb:Nat) (p:Addr) (w:World) (h:w.cell? ⟨lb,0,none⟩=some (.pointer (some p))):(method 362 87 (.pointer (some ⟨lb,0,none⟩)) "Unlock").run prog w= .ok (131,.pointer (some p)) w:=via_seats (name:="Unlock") (by kernel_rfl) 361 lb p w h
theorem via_state (lb:Nat) (p:Addr) (w:World) (h:w.cell? ⟨lb,0,none⟩=some (.pointer (some p))):(method 362 87 (.pointer (some ⟨lb,0,none⟩)) "State").run prog w= .ok (129,.pointer (some p)) w:=via_seats (name:="State") (by kernel_rfl) 361 lb p w h
theorem via_len (lb:Nat) (p:Addr) (w:World) (h:w.cell? ⟨lb,0,none⟩=some (.pointer (some p))):(method 362 87 (.pointer (some ⟨lb,0,none⟩)) "Len").run prog w= .ok (126,.pointer (some p)) w:=via_seats (name:="Len") (by kernel_rfl) 361 lb p w h
theorem via_use (a:Addr) (w:World):(method 362 87 (.pointer (some a)) "Use").run prog w= .ok (161,.pointer (some a)) w:=by kernel_rfl
theorem via_step (a:Addr) (w:World):(method 362 87 (.pointer (some a)) "Step").run prog w= .ok (160,.pointer (some a)) w:=by kernel_rfl
end Go.Proofs.YtmnephejhkfchaaGreat.Km
