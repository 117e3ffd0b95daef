
import Derived.Test.YtcikfcplagelaaaGreatHomed
namespace Go.Proofs.YtcikfcplagelaaaGreat
open _root_.Go.Proofs.Tryz
open Go.RowKit
set_option linter.unusedVariables false
set_option maxRecDepth 100000
theorem via_info:∃ j,prog.info? 180 =some j∧j.size=1:=by
 have h:(prog.info? 180).map (·.size)=some 1:=by kernel_rfl
 exact Option.map_eq_some_iff.1 h
theorem via_seats {name:String} {f:FuncId} (hm:((prog.info? 149).bind (λi=>i.methods.find? (·.name==name))).map (λm=>(m.path,m.func))=some (#[⟨214,0,true⟩],some (f,true)))
  (D lb:Nat) (p:Addr) (w:World) (h:w.cell? ⟨lb,0,none⟩=some (.pointer (some p))):(method (D+1) 149 (.pointer (some ⟨lb,0,none⟩)) name).run prog w= .ok (f,.pointer (some p)) w:=by
 obtain ⟨m,hm,he⟩:=Option.map_eq_some_iff.1 hm
 obtain ⟨i,hi,hf⟩:=Option.bind_eq_some_iff.1 hm
 simp only [Prod.mk.injEq] at he
 obtain ⟨j,hj,hs⟩:=via_info
 unfold method
 simp [typeInfo,hi,hf,he.1,he.2,follow,underlying,underlying214,underlying180,Place.get,asAddr,fieldPlace,Result.andThen,receiverAt,loadVar,isAgg,sizeOf,hj,hs,h,Addr.add]
theorem via_lock (lb:Nat) (p:Addr) (w:World) (h:w.cell? ⟨lb,0,none⟩=some (.pointer (some p))):(method 446 149 (.pointer (some ⟨lb,0,none⟩)) "Lock").run prog w= .ok (189,.pointer (some p)) w:=via_seats (name:="Lock") (by kernel_rfl) 445 lb p w h
theorem via_unlock (lb:Nat) (p:Addr) (w:World) (h:w.cell? ⟨lb,0,none⟩=some (.pointer (some p))):(method 446 149 (.pointer (some ⟨lb,0,none⟩)) "Unlock").run prog w= .ok (193,.pointer (some p)) w:=via_seats (name:="Unlock") (by kernel_rfl) 445 lb p w h
theorem via_state (lb:Nat) (p:Addr) (w:World) (h:w.cell? ⟨lb,0,none⟩=some (.pointer (some p))):(method 446 149 (.pointer (some ⟨lb,0,none⟩)) "State").run prog w= .ok (191,.pointer (some p)) w:=via_seats (name:="State") (by kernel_rfl) 445 lb p w h
theorem via_len (lb:Nat) (p:Addr) (w:World) (h:w.cell? ⟨lb,0,none⟩=some (.pointer (some p))):(method 446 149 (.pointer (some ⟨lb,0,none⟩)) "Len").run prog w= .ok (188,.pointer (some p)) w:=via_seats (name:="Len") (by kernel_rfl) 445 lb p w h
theorem via_use (a:Addr) (w:World):(method 446 149 (.pointer (some a)) "Use").run prog w= .ok (271,.pointer (some a)) w:=by kernel_rfl
theorem via_step (a:Addr) (w:World):(method 446 149 (.pointer (some a)) "Step").run prog w= .ok (270,.pointer (some a)) w:=by kernel_rfl
structure Dd where
 ev:Int
 enq:Bool
 arr:Bool
 lead:Bool
def Dd.no:Dd:=⟨0,false,false,false⟩
def Dd.val (d:Dd):Value:= .agg #[.int .i64 d.ev,.bool d.enq,.bool d.arr,.bool d.lead]
end Go.Proofs.YtcikfcplagelaaaGreat
namespace Go.Proofs.YtcikfcplagelaaaGreat.Kf
open Go.RowKit
set_option linter.unusedVariables false
set_option maxRecDepth 100000
structure FL where
 s:SS
 num:Nat→Int
 dr:Nat→Bool
 ps:PSta
structure Lp where
 lb:Nat
 p:Nat
 b:Nat
 tb:Nat
 a1:Int
 a2:Int
 q:Place
 hs:List Int
def FL.acq (f:FL) (L:Lp) (t:Nat) (u:Int):FL:=if f.dr t=true then {f with ps:=doS f.ps u 1 L.a2 0 0} else {f with num:=upd f.num t (tellS f.ps u 5 L.a1),dr:=upd f.dr t true,ps:=doS f.ps u 5 L.a1 0 1}
def FL.acqD (f:FL) (L:Lp) (t:Nat) (u:Int):Dd:=if f.dr t=true then (if tellS f.ps u 1 L.a2=f.num t then ⟨1,false,false,false⟩ else Dd.no) else ⟨0,true,false,false⟩
def FL.rel (f:FL) (L:Lp) (t:Nat) (u:Int):FL:={f with num:=upd f.num t 0,dr:=upd f.dr t false,ps:=doS f.ps u 2 L.a2 0 ((f.num t+1)%4294967296)}
def FL.ask (f:FL) (L:Lp) (t:Nat) (u:Int):FL:={f with ps:=doS f.ps u 1 L.a1 0 0}
def FL.askD (f:FL) (L:Lp) (t:Nat) (u:Int):Dd:=if tellS f.ps u 1 L.a1=(f.num t+1)%4294967296 then ⟨4,false,false,false⟩ else ⟨5,false,false,false⟩
def FL.mid (f:FL) (L:Lp) (t u:Int):FL:=if 0≤t∧t<f.s.n then (if f.s.st t.toNat=1 then f.acq L t.toNat u else if f.s.st t.toNat=3 then f.rel L t.toNat u else if f.s.st t.toNat=4 then f.ask L t.toNat u else f) else f
def FL.did (f:FL) (L:Lp) (t u:Int):Dd:=if 0≤t∧t<f.s.n then (if f.s.st t.toNat=1 then f.acqD L t.toNat u else if f.s.st t.toNat=3 then ⟨3,false,false,false⟩ else if f.s.st t.toNat=4 then f.askD L t.toNat u else Dd.no) else Dd.no
def FL.step (f:FL) (L:Lp) (t u:Int):FL:={f.mid L t u with s:=f.s.fin t (f.did L t u).ev}
def FL.lock (f:FL) (t d:Int):FL:={f with s:=f.s.lock t d}
def FL.turn (f:FL) (t x:Int):FL:={f with s:=f.s.turn t x}
theorem FL.acq_s (f:FL) (L:Lp) (t:Nat) (u:Int):(f.acq L t u).s=f.s:=by unfold FL.acq;split<;>rfl
theorem FL.mid_s (f:FL) (L:Lp) (t u:Int):(f.mid L t u).s=f.s:=by
 unfold FL.mid
 repeat' split
 ·exact f.acq_s L _ u
 all_goals rfl
end Go.Proofs.YtcikfcplagelaaaGreat.Kf
namespace Go.Proofs.YtcikfcplagelaaaGreat.Kc
open Go.RowKit
set_option linter.unusedVariables false
set_option maxRecDepth 100000
structure FL where
 s:SS
 pc:Nat→Int
 node:Nat→Int
 ahd:Nat→Int
 ps:PSta
structure Lp where
 lb:Nat
 p:Nat
 b:Nat
 tb:Nat
 a1:Int
 a2:Int
 q:Place
 hs:List Int
def FL.acq (f:FL) (L:Lp) (t:Nat) (u:Int):FL:=
 if f.pc t=0 then {f with pc:=upd f.pc t 1,ps:=doS f.ps u 2 (L.a2+f.node t) 0 1}
 else if f.pc t=1 then {f with pc:=upd f.pc t 2,ahd:=upd f.ahd t (tellS f.ps u 3 L.a1),ps:=doS f.ps u 3 L.a1 0 (f.node t)}
 else {f with ps:=doS f.ps u 1 (L.a2+f.ahd t) 0 0}
def FL.acqD (f:FL) (L:Lp) (t:Nat) (u:Int):Dd:=if f.pc t=0 then Dd.no else if f.pc t=1 then ⟨0,true,false,false⟩ else if tellS f.ps u 1 (L.a2+f.ahd t)=0 then ⟨1,false,false,false⟩ else Dd.no
def FL.rel (f:FL) (L:Lp) (t:Nat) (u:Int):FL:={f with pc:=upd f.pc t 0,node:=upd f.node t (f.ahd t),ahd:=upd f.ahd t 0,ps:=doS f.ps u 2 (L.a2+f.node t) 0 0}
def FL.ask (f:FL) (L:Lp) (t:Nat) (u:Int):FL:={f with ps:=doS f.ps u 1 L.a1 0 0}
def FL.askD (f:FL) (L:Lp) (t:Nat) (u:Int):Dd:=if tellS f.ps u 1 L.a1=f.node t then ⟨4,false,false,false⟩ else ⟨5,false,false,false⟩
def FL.mid (f:FL) (L:Lp) (t u:Int):FL:=if 0≤t∧t<f.s.n then (if f.s.st t.toNat=1 then f.acq L t.toNat u else if f.s.st t.toNat=3 then f.rel L t.toNat u else if f.s.st t.toNat=4 then f.ask L t.toNat u else f) else f
def FL.did (f:FL) (L:Lp) (t u:Int):Dd:=if 0≤t∧t<f.s.n then (if f.s.st t.toNat=1 then f.acqD L t.toNat u else if f.s.st t.toNat=3 then ⟨3,false,false,false⟩ else if f.s.st t.toNat=4 then f.askD L t.toNat u else Dd.no) else Dd.no
def FL.step (f:FL) (L:Lp) (t u:Int):FL:={f.mid L t u with s:=f.s.fin t (f.did L t u).ev}
def FL.lock (f:FL) (t d:Int):FL:={f with s:=f.s.lock t d}
def FL.turn (f:FL) (t x:Int):FL:={f with s:=f.s.turn t x}
theorem FL.acq_s (f:FL) (L:Lp) (t:Nat) (u:Int):(f.acq L t u).s=f.s:=by unfold FL.acq;repeat' split<;>try rfl
theorem FL.mid_s (f:FL) (L:Lp) (t u:Int):(f.mid L t u).s=f.s:=by
 unfold FL.mid
 repeat' split
 ·exact f.acq_s L _ u
 all_goals rfl
end Go.Proofs.YtcikfcplagelaaaGreat.Kc
namespace Go.Proofs.YtcikfcplagelaaaGreat.Km
open Go.RowKit
set_option linter.unusedVariables false
set_option maxRecDepth 100000
structure FL where
 s:SS
 pc:Nat→Int
 oth:Nat→Int
 ps:PSta
structure Lp where
 lb:Nat
 p:Nat
 b:Nat
 tb:Nat
 a1:Int
 a2:Int
 q:Place
 hs:List Int
def Lp.nx (L:Lp) (t:Int):Int:=L.a2+2*t
def Lp.lk (L:Lp) (t:Int):Int:=L.a2+2*t+1
def casT (s:PSta) (u a old:Int):Bool:=okT s u a&&casB s.ws a old
def FL.acq (f:FL) (L:Lp) (t:Nat) (u:Int):FL:=
 if f.pc t=0 then {f with pc:=upd f.pc t 1,ps:=doS f.ps u 2 (L.nx t) 0 0}
 else if f.pc t=1 then {f with pc:=upd f.pc t (if tellS f.ps u 3 L.a1=0 then 0 else 2),oth:=upd f.oth t (tellS f.ps u 3 L.a1),ps:=doS f.ps u 3 L.a1 0 ((t:Int)+1)}
 else if f.pc t=2 then {f with pc:=upd f.pc t 3,ps:=doS f.ps u 2 (L.lk t) 0 1}
 else if f.pc t=3 then {f with pc:=upd f.pc t 4,ps:=doS f.ps u 2 (L.nx (f.oth t-1)) 0 ((t:Int)+1)}
 else {f with pc:=upd f.pc t (if tellS f.ps u 1 (L.lk t)=0 then 0 else 4),ps:=doS f.ps u 1 (L.lk t) 0 0}
def FL.acqD (f:FL) (L:Lp) (t:Nat) (u:Int):Dd:=
 if f.pc t=0 then Dd.no
 else if f.pc t=1 then ⟨if tellS f.ps u 3 L.a1=0 then 1 else 0,true,false,false⟩
 else if f.pc t=2 then Dd.no
 else if f.pc t=3 then Dd.no
 else if tellS f.ps u 1 (L.lk t)=0 then ⟨1,false,false,false⟩ else Dd.no
def FL.rel (f:FL) (L:Lp) (t:Nat) (u:Int):FL:=
 if f.pc t=0 then {f with pc:=upd f.pc t (if tellS f.ps u 1 (L.nx t)=0 then 1 else 3),oth:=upd f.oth t (tellS f.ps u 1 (L.nx t)),ps:=doS f.ps u 1 (L.nx t) 0 0}
 else if f.pc t=1 then {f with pc:=upd f.pc t (if casT f.ps u L.a1 ((t:Int)+1)=true then 0 else 2),ps:=doS f.ps u 4 L.a1 ((t:Int)+1) 0}
 else if f.pc t=2 then {f with pc:=upd f.pc t (if tellS f.ps u 1 (L.nx t)=0 then 2 else 3),oth:=upd f.oth t (tellS f.ps u 1 (L.nx t)),ps:=doS f.ps u 1 (L.nx t) 0 0}
 else {f with pc:=upd f.pc t 0,ps:=doS f.ps u 2 (L.lk (f.oth t-1)) 0 0}
def FL.relD (f:FL) (L:Lp) (t:Nat) (u:Int):Dd:=
 if f.pc t=0 then Dd.no
 else if f.pc t=1 then (if casT f.ps u L.a1 ((t:Int)+1)=true then ⟨3,false,false,false⟩ else Dd.no)
 else if f.pc t=2 then Dd.no
 else ⟨3,false,false,false⟩
def FL.ask (f:FL) (L:Lp) (t:Nat) (u:Int):FL:={f with ps:=doS f.ps u 1 (L.nx t) 0 0}
def FL.askD (f:FL) (L:Lp) (t:Nat) (u:Int):Dd:=if tellS f.ps u 1 (L.nx t)=0 then ⟨4,false,false,false⟩ else ⟨5,false,false,false⟩
def FL.mid (f:FL) (L:Lp) (t u:Int):FL:=if 0≤t∧t<f.s.n then (if f.s.st t.toNat=1 then f.acq L t.toNat u else if f.s.st t.toNat=3 then f.rel L t.toNat u else if f.s.st t.toNat=4 then f.ask L t.toNat u else f) else f
def FL.did (f:FL) (L:Lp) (t u:Int):Dd:=if 0≤t∧t<f.s.n then (if f.s.st t.toNat=1 then f.acqD L t.toNat u else if f.s.st t.toNat=3 then f.relD L t.toNat u else if f.s.st t.toNat=4 then f.askD L t.toNat u else Dd.no) else Dd.no
def FL.step (f:FL) (L:Lp) (t u:Int):FL:={f.mid L t u with s:=f.s.fin t (f.did L t u).ev}
def FL.lock (f:FL) (t d:Int):FL:={f with s:=f.s.lock t d}
def FL.turn (f:FL) (t x:Int):FL:={f with s:=f.s.turn t x}
theorem FL.acq_s (f:FL) (L:Lp) (t:Nat) (u:Int):(f.acq L t u).s=f.s:=by unfold FL.acq;repeat' split<;>try rfl
theorem FL.rel_s (f:FL) (L:Lp) (t:Nat) (u:Int):(f.rel L t u).s=f.s:=by unfold FL.rel;repeat' split<;>try rfl
theorem FL.mid_s (f:FL) (L:Lp) (t u:Int):(f.mid L t u).s=f.s:=by
 unfold FL.mid
 repeat' split
 ·exact f.acq_s L _ u
 ·exact f.rel_s L _ u
 all_goals rfl
end Go.Proofs.YtcikfcplagelaaaGreat.Km
namespace Go.Proofs.YtcikfcplagelaaaGreat.Ka
open Go.RowKit
set_option linter.unusedVariables false
set_option maxRecDepth 100000
structure FL where
 s:SS
 ea:Nat
 pc:Nat→Int
 nd:Nat→Int
 oth:Nat→Int
 tr:Nat→Int
 ps:PSta
structure Lp where
 lb:Nat
 p:Nat
 b:Nat
 tb:Nat
 a1:Int
 a2:Int
 q:Place
 hs:List Int
def Lp.sA (L:Lp) (i:Int):Int:=L.a2+3*(i-1)
def Lp.nA (L:Lp) (i:Int):Int:=L.a2+3*(i-1)+1
def Lp.oA (L:Lp) (i:Int):Int:=L.a2+3*(i-1)+2
def casT (s:PSta) (u a old:Int):Bool:=okT s u a&&casB s.ws a old
def FL.id (f:FL) (t:Nat):Int:=(t:Int)*f.ea+f.tr t+1
abbrev FL.due (f:FL) (t:Nat) (x:Int):Prop:=0≤f.s.dl t∧f.s.dl t≤x
def FL.acq (f:FL) (L:Lp) (t:Nat) (u x:Int):FL:=
 if f.pc t=1 then {f with pc:=upd f.pc t (if tellS f.ps u 1 (L.oA (f.id t))=0 then 2 else 1),nd:=upd f.nd t (f.id t),tr:=upd f.tr t (if tellS f.ps u 1 (L.oA (f.id t))≠0∧f.tr t+1=f.ea then 0 else f.tr t+1),ps:=doS f.ps u 1 (L.oA (f.id t)) 0 0}
 else if f.pc t=2 then {f with pc:=upd f.pc t 3,ps:=doS f.ps u 2 (L.oA (f.nd t)) 0 1}
 else if f.pc t=3 then {f with pc:=upd f.pc t 4,ps:=doS f.ps u 2 (L.sA (f.nd t)) 0 0}
 else if f.pc t=4 then {f with pc:=upd f.pc t 5,ps:=doS f.ps u 2 (L.nA (f.nd t)) 0 0}
 else if f.pc t=5 then {f with pc:=upd f.pc t (if tellS f.ps u 3 L.a1=0 then 1 else 6),oth:=upd f.oth t (tellS f.ps u 3 L.a1),tr:=upd f.tr t (if tellS f.ps u 3 L.a1=0 then 0 else f.tr t),ps:=doS f.ps u 3 L.a1 0 (f.nd t)}
 else if f.pc t=6 then {f with pc:=upd f.pc t 7,ps:=doS f.ps u 2 (L.nA (f.oth t)) 0 (f.nd t)}
 else if f.pc t=7 then {f with pc:=upd f.pc t (if tellS f.ps u 1 (L.sA (f.nd t))≠0 then 1 else if f.due t x then 8 else 7),tr:=upd f.tr t (if tellS f.ps u 1 (L.sA (f.nd t))≠0 then 0 else f.tr t),ps:=doS f.ps u 1 (L.sA (f.nd t)) 0 0}
 else {f with pc:=upd f.pc t 1,tr:=upd f.tr t 0,ps:=doS f.ps u 4 (L.sA (f.nd t)) 0 2}
def FL.acqD (f:FL) (L:Lp) (t:Nat) (u x:Int):Dd:=
 if f.pc t=1 then (if tellS f.ps u 1 (L.oA (f.id t))≠0∧f.tr t+1=f.ea then ⟨6,false,false,false⟩ else Dd.no)
 else if f.pc t=2 then Dd.no
 else if f.pc t=3 then Dd.no
 else if f.pc t=4 then Dd.no
 else if f.pc t=5 then ⟨if tellS f.ps u 3 L.a1=0 then 1 else 0,true,false,false⟩
 else if f.pc t=6 then Dd.no
 else if f.pc t=7 then (if tellS f.ps u 1 (L.sA (f.nd t))≠0 then ⟨1,false,false,false⟩ else Dd.no)
 else if casT f.ps u (L.sA (f.nd t)) 0=true then ⟨2,false,false,false⟩ else ⟨1,false,false,false⟩
def FL.rel (f:FL) (L:Lp) (t:Nat) (u:Int):FL:=
 if f.pc t=1 then {f with pc:=upd f.pc t (if tellS f.ps u 1 (L.nA (f.nd t))=0 then 2 else 4),oth:=upd f.oth t (tellS f.ps u 1 (L.nA (f.nd t))),ps:=doS f.ps u 1 (L.nA (f.nd t)) 0 0}
 else if f.pc t=2 then {f with pc:=upd f.pc t (if casT f.ps u L.a1 (f.nd t)=true then 6 else 3),ps:=doS f.ps u 4 L.a1 (f.nd t) 0}
 else if f.pc t=3 then {f with pc:=upd f.pc t (if tellS f.ps u 1 (L.nA (f.nd t))=0 then 3 else 4),oth:=upd f.oth t (tellS f.ps u 1 (L.nA (f.nd t))),ps:=doS f.ps u 1 (L.nA (f.nd t)) 0 0}
 else if f.pc t=4 then {f with pc:=upd f.pc t (if casT f.ps u (L.sA (f.oth t)) 0=true then 6 else 5),ps:=doS f.ps u 4 (L.sA (f.oth t)) 0 1}
 else if f.pc t=5 then {f with pc:=upd f.pc t 1,nd:=upd f.nd t (f.oth t),ps:=doS f.ps u 2 (L.oA (f.nd t)) 0 0}
 else {f with pc:=upd f.pc t 1,tr:=upd f.tr t 0,ps:=doS f.ps u 2 (L.oA (f.nd t)) 0 0}
def FL.relD (f:FL) (t:Nat):Dd:=if f.pc t=1∨f.pc t=2∨f.pc t=3∨f.pc t=4∨f.pc t=5 then Dd.no else ⟨3,false,false,false⟩
def FL.mid (f:FL) (L:Lp) (t u x:Int):FL:=if 0≤t∧t<f.s.n then (if f.s.st t.toNat=1 then f.acq L t.toNat u x else if f.s.st t.toNat=3 then f.rel L t.toNat u else f) else f
def FL.did (f:FL) (L:Lp) (t u x:Int):Dd:=if 0≤t∧t<f.s.n then (if f.s.st t.toNat=1 then f.acqD L t.toNat u x else if f.s.st t.toNat=3 then f.relD t.toNat else Dd.no) else Dd.no
def FL.step (f:FL) (L:Lp) (t u x:Int):FL:={f.mid L t u x with s:=f.s.fin t (f.did L t u x).ev}
def FL.lock (f:FL) (t d:Int):FL:={f with s:=f.s.lock t d}
def FL.turn (f:FL) (t x:Int):FL:={f with s:=f.s.turn t x}
theorem FL.acq_s (f:FL) (L:Lp) (t:Nat) (u x:Int):(f.acq L t u x).s=f.s:=by unfold FL.acq;repeat' split<;>try rfl
theorem FL.rel_s (f:FL) (L:Lp) (t:Nat) (u:Int):(f.rel L t u).s=f.s:=by unfold FL.rel;repeat' split<;>try rfl
theorem FL.mid_s (f:FL) (L:Lp) (t u x:Int):(f.mid L t u x).s=f.s:=by
 unfold FL.mid
 repeat' split
 ·exact f.acq_s L _ u x
 ·exact f.rel_s L _ u
 all_goals rfl
end Go.Proofs.YtcikfcplagelaaaGreat.Ka
namespace Go.Proofs.YtcikfcplagelaaaGreat.Kh
open Go.RowKit
set_option linter.unusedVariables false
set_option maxRecDepth 100000
def wd (c w s:Int):Int:=c*4+w*2+s
def wCl (v:Int):Int:=v/4
def wWt (v:Int):Int:=v/2%2
def wSp (v:Int):Int:=v%2
structure FL where
 s:SS
 cl:Nat→Int
 pc:Nat→Int
 nd:Nat→Int
 ahd:Nat→Int
 of:Nat→Int
 wv:Nat→Int
 ps:PSta
structure Lp where
 lb:Nat
 p:Nat
 b:Nat
 tb:Nat
 a1:Int
 a2:Int
 q:Place
 hs:List Int
def Lp.cA (L:Lp) (c:Int):Int:=L.a2+c
def Lp.nA (L:Lp) (i:Int):Int:=L.a2+7+i
def casT (s:PSta) (u a old:Int):Bool:=okT s u a&&casB s.ws a old
def FL.acq (f:FL) (L:Lp) (t:Nat) (u:Int):FL:=
 if f.pc t=0 then {f with pc:=upd f.pc t 1,ps:=doS f.ps u 2 (L.nA (f.nd t)) 0 (wd (f.cl t) 1 0)}
 else if f.pc t=1 then {f with pc:=upd f.pc t (if tellS f.ps u 3 (L.cA (f.cl t))=0 then 3 else 2),ahd:=upd f.ahd t (tellS f.ps u 3 (L.cA (f.cl t))),ps:=doS f.ps u 3 (L.cA (f.cl t)) 0 (f.nd t)}
 else if f.pc t=2 then {f with pc:=upd f.pc t (if wCl (tellS f.ps u 1 (L.nA (f.ahd t)))=f.cl t∧wSp (tellS f.ps u 1 (L.nA (f.ahd t)))=0 then (if wWt (tellS f.ps u 1 (L.nA (f.ahd t)))=0 then 0 else 2) else 3),ps:=doS f.ps u 1 (L.nA (f.ahd t)) 0 0}
 else if f.pc t=3 then {f with pc:=upd f.pc t 4,of:=upd f.of t (tellS f.ps u 1 (L.cA (f.cl t))),ps:=doS f.ps u 1 (L.cA (f.cl t)) 0 0}
 else if f.pc t=4 then {f with pc:=upd f.pc t 5,ahd:=upd f.ahd t (tellS f.ps u 3 L.a1),ps:=doS f.ps u 3 L.a1 0 (f.of t)}
 else if f.pc t=5 then {f with pc:=upd f.pc t 6,wv:=upd f.wv t (tellS f.ps u 1 (L.nA (f.of t))),ps:=doS f.ps u 1 (L.nA (f.of t)) 0 0}
 else if f.pc t=6 then {f with pc:=upd f.pc t (if casT f.ps u (L.nA (f.of t)) (f.wv t)=true then 7 else 5),ps:=doS f.ps u 4 (L.nA (f.of t)) (f.wv t) (wd (wCl (f.wv t)) (wWt (f.wv t)) 1)}
 else {f with pc:=upd f.pc t (if wWt (tellS f.ps u 1 (L.nA (f.ahd t)))=0 then 0 else 7),ps:=doS f.ps u 1 (L.nA (f.ahd t)) 0 0}
def FL.acqD (f:FL) (L:Lp) (t:Nat) (u:Int):Dd:=
 if f.pc t=0 then Dd.no
 else if f.pc t=1 then ⟨0,true,false,false⟩
 else if f.pc t=2 then (if (wCl (tellS f.ps u 1 (L.nA (f.ahd t)))=f.cl t∧wSp (tellS f.ps u 1 (L.nA (f.ahd t)))=0)∧wWt (tellS f.ps u 1 (L.nA (f.ahd t)))=0 then ⟨1,false,false,false⟩ else Dd.no)
 else if f.pc t=3 then Dd.no
 else if f.pc t=4 then ⟨0,false,true,false⟩
 else if f.pc t=5 then Dd.no
 else if f.pc t=6 then Dd.no
 else if wWt (tellS f.ps u 1 (L.nA (f.ahd t)))=0 then ⟨1,false,false,true⟩ else Dd.no
def FL.rel (f:FL) (L:Lp) (t:Nat) (u:Int):FL:=
 if f.pc t=0 then {f with pc:=upd f.pc t 1,wv:=upd f.wv t (tellS f.ps u 1 (L.nA (f.nd t))),ps:=doS f.ps u 1 (L.nA (f.nd t)) 0 0}
 else {f with pc:=upd f.pc t 0,nd:=upd f.nd t (if casT f.ps u (L.nA (f.nd t)) (f.wv t)=true then f.ahd t else f.nd t),ps:=doS f.ps u 4 (L.nA (f.nd t)) (f.wv t) (wd (wCl (f.wv t)) 0 (wSp (f.wv t)))}
def FL.relD (f:FL) (L:Lp) (t:Nat) (u:Int):Dd:=if f.pc t=0 then Dd.no else if casT f.ps u (L.nA (f.nd t)) (f.wv t)=true then ⟨3,false,false,false⟩ else Dd.no
def FL.mid (f:FL) (L:Lp) (t u:Int):FL:=if 0≤t∧t<f.s.n then (if f.s.st t.toNat=1 then f.acq L t.toNat u else if f.s.st t.toNat=3 then f.rel L t.toNat u else f) else f
def FL.did (f:FL) (L:Lp) (t u:Int):Dd:=if 0≤t∧t<f.s.n then (if f.s.st t.toNat=1 then f.acqD L t.toNat u else if f.s.st t.toNat=3 then f.relD L t.toNat u else Dd.no) else Dd.no
def FL.step (f:FL) (L:Lp) (t u:Int):FL:={f.mid L t u with s:=f.s.fin t (f.did L t u).ev}
def FL.lock (f:FL) (t d:Int):FL:={f with s:=f.s.lock t d}
def FL.turn (f:FL) (t x:Int):FL:={f with s:=f.s.turn t x}
theorem FL.acq_s (f:FL) (L:Lp) (t:Nat) (u:Int):(f.acq L t u).s=f.s:=by unfold FL.acq;repeat' split<;>try rfl
theorem FL.rel_s (f:FL) (L:Lp) (t:Nat) (u:Int):(f.rel L t u).s=f.s:=by unfold FL.rel;repeat' split<;>try rfl
theorem FL.mid_s (f:FL) (L:Lp) (t u:Int):(f.mid L t u).s=f.s:=by
 unfold FL.mid
 repeat' split
 ·exact f.acq_s L _ u
 ·exact f.rel_s L _ u
 all_goals rfl
end Go.Proofs.YtcikfcplagelaaaGreat.Kh
namespace Go.Proofs.YtcikfcplagelaaaGreat.Kf
open _root_.Go.Proofs.Tryz
open Go.RowKit
set_option linter.unusedVariables false
set_option maxRecDepth 100000
theorem via_info:∃ j,prog.info? 180 =some j∧j.size=1:=by
 have h:(prog.info? 180).map (·.size)=some 1:=by kernel_rfl
 exact Option.map_eq_some_iff.1 h
theorem via_seats {name:String} {f:FuncId} (hm:((prog.info? 131).bind (λi=>i.methods.find? (·.name==name))).map (λm=>(m.path,m.func))=some (#[⟨186,0,true⟩],some (f,true)))
  (D lb:Nat) (p:Addr) (w:World) (h:w.cell? ⟨lb,0,none⟩=some (.pointer (some p))):(method (D+1) 131 (.pointer (some ⟨lb,0,none⟩)) name).run prog w= .ok (f,.pointer (some p)) w:=by
 obtain ⟨m,hm,he⟩:=Option.map_eq_some_iff.1 hm
 obtain ⟨i,hi,hf⟩:=Option.bind_eq_some_iff.1 hm
 simp only [Prod.mk.injEq] at he
 obtain ⟨j,hj,hs⟩:=via_info
 unfold method
 simp [typeInfo,hi,hf,he.1,he.2,follow,underlying,underlying186,underlying180,Place.get,asAddr,fieldPlace,Result.andThen,receiverAt,loadVar,isAgg,sizeOf,hj,hs,h,Addr.add]
theorem via_lock (lb:Nat) (p:Addr) (w:World) (h:w.cell? ⟨lb,0,none⟩=some (.pointer (some p))):(method 446 131 (.pointer (some ⟨lb,0,none⟩)) "Lock").run prog w= .ok (189,.pointer (some p)) w:=via_seats (name:="Lock") (by kernel_rfl) 445 lb p w h
theorem via_unlock (lb:Nat) (p:Addr) (w:World) (h:w.cell? ⟨lb,0,none⟩=some (.pointer (some p))):(method 446 131 (.pointer (some ⟨lb,0,none⟩)) "Unlock").run prog w= .ok (193,.pointer (some p)) w:=via_seats (name:="Unlock") (by kernel_rfl) 445 lb p w h
theorem via_probe (lb:Nat) (p:Addr) (w:World) (h:w.cell? ⟨lb,0,none⟩=some (.pointer (some p))):(method 446 131 (.pointer (some ⟨lb,0,none⟩)) "Probe").run prog w= .ok (190,.pointer (some p)) w:=via_seats (name:="Probe") (by kernel_rfl) 445 lb p w h
theorem via_state (lb:Nat) (p:Addr) (w:World) (h:w.cell? ⟨lb,0,none⟩=some (.pointer (some p))):(method 446 131 (.pointer (some ⟨lb,0,none⟩)) "State").run prog w= .ok (191,.pointer (some p)) w:=via_seats (name:="State") (by kernel_rfl) 445 lb p w h
theorem via_len (lb:Nat) (p:Addr) (w:World) (h:w.cell? ⟨lb,0,none⟩=some (.pointer (some p))):(method 446 131 (.pointer (some ⟨lb,0,none⟩)) "Len").run prog w= .ok (188,.pointer (some p)) w:=via_seats (name:="Len") (by kernel_rfl) 445 lb p w h
theorem via_use (a:Addr) (w:World):(method 446 131 (.pointer (some a)) "Use").run prog w= .ok (194,.pointer (some a)) w:=by kernel_rfl
theorem via_step (a:Addr) (w:World):(method 446 131 (.pointer (some a)) "Step").run prog w= .ok (192,.pointer (some a)) w:=by kernel_rfl
theorem nil_lock (a:Addr) (w:World):(nilAhead 446 131 (.pointer (some a)) "Lock").run prog w= .ok (some false) w:=by kernel_rfl
theorem nil_unlock (a:Addr) (w:World):(nilAhead 446 131 (.pointer (some a)) "Unlock").run prog w= .ok (some false) w:=by kernel_rfl
theorem nil_probe (a:Addr) (w:World):(nilAhead 446 131 (.pointer (some a)) "Probe").run prog w= .ok (some false) w:=by kernel_rfl
theorem nil_step (a:Addr) (w:World):(nilAhead 446 131 (.pointer (some a)) "Step").run prog w= .ok (some false) w:=by kernel_rfl
end Go.Proofs.YtcikfcplagelaaaGreat.Kf
namespace Go.Proofs.YtcikfcplagelaaaGreat.Kc
open _root_.Go.Proofs.Tryz
open Go.RowKit
set_option linter.unusedVariables false
set_option maxRecDepth 100000
theorem via_info:∃ j,prog.info? 180 =some j∧j.size=1:=by
 have h:(prog.info? 180).map (·.size)=some 1:=by kernel_rfl
 exact Option.map_eq_some_iff.1 h
theorem via_seats {name:String} {f:FuncId} (hm:((prog.info? 137).bind (λi=>i.methods.find? (·.name==name))).map (λm=>(m.path,m.func))=some (#[⟨195,0,true⟩],some (f,true)))
  (D lb:Nat) (p:Addr) (w:World) (h:w.cell? ⟨lb,0,none⟩=some (.pointer (some p))):(method (D+1) 137 (.pointer (some ⟨lb,0,none⟩)) name).run prog w= .ok (f,.pointer (some p)) w:=by
 obtain ⟨m,hm,he⟩:=Option.map_eq_some_iff.1 hm
 obtain ⟨i,hi,hf⟩:=Option.bind_eq_some_iff.1 hm
 simp only [Prod.mk.injEq] at he
 obtain ⟨j,hj,hs⟩:=via_info
 unfold method
 simp [typeInfo,hi,hf,he.1,he.2,follow,underlying,underlying195,underlying180,Place.get,asAddr,fieldPlace,Result.andThen,receiverAt,loadVar,isAgg,sizeOf,hj,hs,h,Addr.add]
theorem via_lock (lb:Nat) (p:Addr) (w:World) (h:w.cell? ⟨lb,0,none⟩=some (.pointer (some p))):(method 446 137 (.pointer (some ⟨lb,0,none⟩)) "Lock").run prog w= .ok (189,.pointer (some p)) w:=via_seats (name:="Lock") (by kernel_rfl) 445 lb p w h
theorem via_unlock (lb:Nat) (p:Addr) (w:World) (h:w.cell? ⟨lb,0,none⟩=some (.pointer (some p))):(method 446 137 (.pointer (some ⟨lb,0,none⟩)) "Unlock").run prog w= .ok (193,.pointer (some p)) w:=via_seats (name:="Unlock") (by kernel_rfl) 445 lb p w h
theorem via_probe (lb:Nat) (p:Addr) (w:World) (h:w.cell? ⟨lb,0,none⟩=some (.pointer (some p))):(method 446 137 (.pointer (some ⟨lb,0,none⟩)) "Probe").run prog w= .ok (190,.pointer (some p)) w:=via_seats (name:="Probe") (by kernel_rfl) 445 lb p w h
theorem via_state (lb:Nat) (p:Addr) (w:World) (h:w.cell? ⟨lb,0,none⟩=some (.pointer (some p))):(method 446 137 (.pointer (some ⟨lb,0,none⟩)) "State").run prog w= .ok (191,.pointer (some p)) w:=via_seats (name:="State") (by kernel_rfl) 445 lb p w h
theorem via_len (lb:Nat) (p:Addr) (w:World) (h:w.cell? ⟨lb,0,none⟩=some (.pointer (some p))):(method 446 137 (.pointer (some ⟨lb,0,none⟩)) "Len").run prog w= .ok (188,.pointer (some p)) w:=via_seats (name:="Len") (by kernel_rfl) 445 lb p w h
theorem via_use (a:Addr) (w:World):(method 446 137 (.pointer (some a)) "Use").run prog w= .ok (213,.pointer (some a)) w:=by kernel_rfl
theorem via_step (a:Addr) (w:World):(method 446 137 (.pointer (some a)) "Step").run prog w= .ok (212,.pointer (some a)) w:=by kernel_rfl
theorem nil_lock (a:Addr) (w:World):(nilAhead 446 137 (.pointer (some a)) "Lock").run prog w= .ok (some false) w:=by kernel_rfl
theorem nil_unlock (a:Addr) (w:World):(nilAhead 446 137 (.pointer (some a)) "Unlock").run prog w= .ok (some false) w:=by kernel_rfl
theorem nil_probe (a:Addr) (w:World):(nilAhead 446 137 (.pointer (some a)) "Probe").run prog w= .ok (some false) w:=by kernel_rfl
theorem nil_step (a:Addr) (w:World):(nilAhead 446 137 (.pointer (some a)) "Step").run prog w= .ok (some false) w:=by kernel_rfl
end Go.Proofs.YtcikfcplagelaaaGreat.Kc
namespace Go.Proofs.YtcikfcplagelaaaGreat.Km
open _root_.Go.Proofs.Tryz
open Go.RowKit
set_option linter.unusedVariables false
set_option maxRecDepth 100000
theorem via_info:∃ j,prog.info? 180 =some j∧j.size=1:=by
 have h:(prog.info? 180).map (·.size)=some 1:=by kernel_rfl
 exact Option.map_eq_some_iff.1 h
theorem via_seats {name:String} {f:FuncId} (hm:((prog.info? 140).bind (λi=>i.methods.find? (·.name==name))).map (λm=>(m.path,m.func))=some (#[⟨199,0,true⟩],some (f,true)))
  (D lb:Nat) (p:Addr) (w:World) (h:w.cell? ⟨lb,0,none⟩=some (.pointer (some p))):(method (D+1) 140 (.pointer (some ⟨lb,0,none⟩)) name).run prog w= .ok (f,.pointer (some p)) w:=by
 obtain ⟨m,hm,he⟩:=Option.map_eq_some_iff.1 hm
 obtain ⟨i,hi,hf⟩:=Option.bind_eq_some_iff.1 hm
 simp only [Prod.mk.injEq] at he
 obtain ⟨j,hj,hs⟩:=via_info
 unfold method
 simp [typeInfo,hi,hf,he.1,he.2,follow,underlying,underlying199,underlying180,Place.get,asAddr,fieldPlace,Result.andThen,receiverAt,loadVar,isAgg,sizeOf,hj,hs,h,Addr.add]
theorem via_lock (lb:Nat) (p:Addr) (w:World) (h:w.cell? ⟨lb,0,none⟩=some (.pointer (some p))):(method 446 140 (.pointer (some ⟨lb,0,none⟩)) "Lock").run prog w= .ok (189,.pointer (some p)) w:=via_seats (name:="Lock") (by kernel_rfl) 445 lb p w h
theorem via_unlock (lb:Nat) (p:Addr) (w:World) (h:w.cell? ⟨lb,0,none⟩=some (.pointer (some p))):(method 446 140 (.pointer (some ⟨lb,0,none⟩)) "Unlock").run prog w= .ok (193,.pointer (some p)) w:=via_seats (name:="Unlock") (by kernel_rfl) 445 lb p w h
theorem via_probe (lb:Nat) (p:Addr) (w:World) (h:w.cell? ⟨lb,0,none⟩=some (.pointer (some p))):(method 446 140 (.pointer (some ⟨lb,0,none⟩)) "Probe").run prog w= .ok (190,.pointer (some p)) w:=via_seats (name:="Probe") (by kernel_rfl) 445 lb p w h
theorem via_state (lb:Nat) (p:Addr) (w:World) (h:w.cell? ⟨lb,0,none⟩=some (.pointer (some p))):(method 446 140 (.pointer (some ⟨lb,0,none⟩)) "State").run prog w= .ok (191,.pointer (some p)) w:=via_seats (name:="State") (by kernel_rfl) 445 lb p w h
theorem via_len (lb:Nat) (p:Addr) (w:World) (h:w.cell? ⟨lb,0,none⟩=some (.pointer (some p))):(method 446 140 (.pointer (some ⟨lb,0,none⟩)) "Len").run prog w= .ok (188,.pointer (some p)) w:=via_seats (name:="Len") (by kernel_rfl) 445 lb p w h
theorem via_use (a:Addr) (w:World):(method 446 140 (.pointer (some a)) "Use").run prog w= .ok (223,.pointer (some a)) w:=by kernel_rfl
theorem via_step (a:Addr) (w:World):(method 446 140 (.pointer (some a)) "Step").run prog w= .ok (222,.pointer (some a)) w:=by kernel_rfl
theorem nil_lock (a:Addr) (w:World):(nilAhead 446 140 (.pointer (some a)) "Lock").run prog w= .ok (some false) w:=by kernel_rfl
theorem nil_unlock (a:Addr) (w:World):(nilAhead 446 140 (.pointer (some a)) "Unlock").run prog w= .ok (some false) w:=by kernel_rfl
theorem nil_probe (a:Addr) (w:World):(nilAhead 446 140 (.pointer (some a)) "Probe").run prog w= .ok (some false) w:=by kernel_rfl
theorem nil_step (a:Addr) (w:World):(nilAhead 446 140 (.pointer (some a)) "Step").run prog w= .ok (some false) w:=by kernel_rfl
end Go.Proofs.YtcikfcplagelaaaGreat.Km
namespace Go.Proofs.YtcikfcplagelaaaGreat.Ks
open _root_.Go.Proofs.Tryz
open Go.RowKit
set_option linter.unusedVariables false
set_option maxRecDepth 100000
theorem via_info:∃ j,prog.info? 180 =some j∧j.size=1:=by
 have h:(prog.info? 180).map (·.size)=some 1:=by kernel_rfl
 exact Option.map_eq_some_iff.1 h
theorem via_seats {name:String} {f:FuncId} (hm:((prog.info? 134).bind (λi=>i.methods.find? (·.name==name))).map (λm=>(m.path,m.func))=some (#[⟨191,0,true⟩],some (f,true)))
  (D lb:Nat) (p:Addr) (w:World) (h:w.cell? ⟨lb,0,none⟩=some (.pointer (some p))):(method (D+1) 134 (.pointer (some ⟨lb,0,none⟩)) name).run prog w= .ok (f,.pointer (some p)) w:=by
 obtain ⟨m,hm,he⟩:=Option.map_eq_some_iff.1 hm
 obtain ⟨i,hi,hf⟩:=Option.bind_eq_some_iff.1 hm
 simp only [Prod.mk.injEq] at he
 obtain ⟨j,hj,hs⟩:=via_info
 unfold method
 simp [typeInfo,hi,hf,he.1,he.2,follow,underlying,underlying191,underlying180,Place.get,asAddr,fieldPlace,Result.andThen,receiverAt,loadVar,isAgg,sizeOf,hj,hs,h,Addr.add]
theorem via_lock (lb:Nat) (p:Addr) (w:World) (h:w.cell? ⟨lb,0,none⟩=some (.pointer (some p))):(method 446 134 (.pointer (some ⟨lb,0,none⟩)) "Lock").run prog w= .ok (189,.pointer (some p)) w:=via_seats (name:="Lock") (by kernel_rfl) 445 lb p w h
theorem via_unlock (lb:Nat) (p:Addr) (w:World) (h:w.cell? ⟨lb,0,none⟩=some (.pointer (some p))):(method 446 134 (.pointer (some ⟨lb,0,none⟩)) "Unlock").run prog w= .ok (193,.pointer (some p)) w:=via_seats (name:="Unlock") (by kernel_rfl) 445 lb p w h
theorem via_state (lb:Nat) (p:Addr) (w:World) (h:w.cell? ⟨lb,0,none⟩=some (.pointer (some p))):(method 446 134 (.pointer (some ⟨lb,0,none⟩)) "State").run prog w= .ok (191,.pointer (some p)) w:=via_seats (name:="State") (by kernel_rfl) 445 lb p w h
theorem via_len (lb:Nat) (p:Addr) (w:World) (h:w.cell? ⟨lb,0,none⟩=some (.pointer (some p))):(method 446 134 (.pointer (some ⟨lb,0,none⟩)) "Len").run prog w= .ok (188,.pointer (some p)) w:=via_seats (name:="Len") (by kernel_rfl) 445 lb p w h
theorem via_use (a:Addr) (w:World):(method 446 134 (.pointer (some a)) "Use").run prog w= .ok (209,.pointer (some a)) w:=by kernel_rfl
theorem via_step (a:Addr) (w:World):(method 446 134 (.pointer (some a)) "Step").run prog w= .ok (208,.pointer (some a)) w:=by kernel_rfl
end Go.Proofs.YtcikfcplagelaaaGreat.Ks
namespace Go.Proofs.YtcikfcplagelaaaGreat.Ka
open _root_.Go.Proofs.Tryz
open Go.RowKit
set_option linter.unusedVariables false
set_option maxRecDepth 100000
theorem via_info:∃ j,prog.info? 180 =some j∧j.size=1:=by
 have h:(prog.info? 180).map (·.size)=some 1:=by kernel_rfl
 exact Option.map_eq_some_iff.1 h
theorem via_seats {name:String} {f:FuncId} (hm:((prog.info? 143).bind (λi=>i.methods.find? (·.name==name))).map (λm=>(m.path,m.func))=some (#[⟨206,0,true⟩],some (f,true)))
  (D lb:Nat) (p:Addr) (w:World) (h:w.cell? ⟨lb,0,none⟩=some (.pointer (some p))):(method (D+1) 143 (.pointer (some ⟨lb,0,none⟩)) name).run prog w= .ok (f,.pointer (some p)) w:=by
 obtain ⟨m,hm,he⟩:=Option.map_eq_some_iff.1 hm
 obtain ⟨i,hi,hf⟩:=Option.bind_eq_some_iff.1 hm
 simp only [Prod.mk.injEq] at he
 obtain ⟨j,hj,hs⟩:=via_info
 unfold method
 simp [typeInfo,hi,hf,he.1,he.2,follow,underlying,underlying206,underlying180,Place.get,asAddr,fieldPlace,Result.andThen,receiverAt,loadVar,isAgg,sizeOf,hj,hs,h,Addr.add]
theorem via_lock (lb:Nat) (p:Addr) (w:World) (h:w.cell? ⟨lb,0,none⟩=some (.pointer (some p))):(method 446 143 (.pointer (some ⟨lb,0,none⟩)) "Lock").run prog w= .ok (189,.pointer (some p)) w:=via_seats (name:="Lock") (by kernel_rfl) 445 lb p w h
theorem via_unlock (lb:Nat) (p:Addr) (w:World) (h:w.cell? ⟨lb,0,none⟩=some (.pointer (some p))):(method 446 143 (.pointer (some ⟨lb,0,none⟩)) "Unlock").run prog w= .ok (193,.pointer (some p)) w:=via_seats (name:="Unlock") (by kernel_rfl) 445 lb p w h
theorem via_state (lb:Nat) (p:Addr) (w:World) (h:w.cell? ⟨lb,0,none⟩=some (.pointer (some p))):(method 446 143 (.pointer (some ⟨lb,0,none⟩)) "State").run prog w= .ok (191,.pointer (some p)) w:=via_seats (name:="State") (by kernel_rfl) 445 lb p w h
theorem via_len (lb:Nat) (p:Addr) (w:World) (h:w.cell? ⟨lb,0,none⟩=some (.pointer (some p))):(method 446 143 (.pointer (some ⟨lb,0,none⟩)) "Len").run prog w= .ok (188,.pointer (some p)) w:=via_seats (name:="Len") (by kernel_rfl) 445 lb p w h
theorem via_use (a:Addr) (w:World):(method 446 143 (.pointer (some a)) "Use").run prog w= .ok (238,.pointer (some a)) w:=by kernel_rfl
theorem via_step (a:Addr) (w:World):(method 446 143 (.pointer (some a)) "Step").run prog w= .ok (237,.pointer (some a)) w:=by kernel_rfl
end Go.Proofs.YtcikfcplagelaaaGreat.Ka
namespace Go.Proofs.YtcikfcplagelaaaGreat.Kh
open _root_.Go.Proofs.Tryz
open Go.RowKit
set_option linter.unusedVariables false
set_option maxRecDepth 100000
theorem via_info:∃ j,prog.info? 180 =some j∧j.size=1:=by
 have h:(prog.info? 180).map (·.size)=some 1:=by kernel_rfl
 exact Option.map_eq_some_iff.1 h
theorem via_seats {name:String} {f:FuncId} (hm:((prog.info? 146).bind (λi=>i.methods.find? (·.name==name))).map (λm=>(m.path,m.func))=some (#[⟨209,0,true⟩],some (f,true)))
  (D lb:Nat) (p:Addr) (w:World) (h:w.cell? ⟨lb,0,none⟩=some (.pointer (some p))):(method (D+1) 146 (.pointer (some ⟨lb,0,none⟩)) name).run prog w= .ok (f,.pointer (some p)) w:=by
 obtain ⟨m,hm,he⟩:=Option.map_eq_some_iff.1 hm
 obtain ⟨i,hi,hf⟩:=Option.bind_eq_some_iff.1 hm
 simp only [Prod.mk.injEq] at he
 obtain ⟨j,hj,hs⟩:=via_info
 unfold method
 simp [typeInfo,hi,hf,he.1,he.2,follow,underlying,underlying209,underlying180,Place.get,asAddr,fieldPlace,Result.andThen,receiverAt,loadVar,isAgg,sizeOf,hj,hs,h,Addr.add]
theorem via_lock (lb:Nat) (p:Addr) (w:World) (h:w.cell? ⟨lb,0,none⟩=some (.pointer (some p))):(method 446 146 (.pointer (some ⟨lb,0,none⟩)) "Lock").run prog w= .ok (189,.pointer (some p)) w:=via_seats (name:="Lock") (by kernel_rfl) 445 lb p w h
theorem via_unlock (lb:Nat) (p:Addr) (w:World) (h:w.cell? ⟨lb,0,none⟩=some (.pointer (some p))):(method 446 146 (.pointer (some ⟨lb,0,none⟩)) "Unlock").run prog w= .ok (193,.pointer (some p)) w:=via_seats (name:="Unlock") (by kernel_rfl) 445 lb p w h
theorem via_state (lb:Nat) (p:Addr) (w:World) (h:w.cell? ⟨lb,0,none⟩=some (.pointer (some p))):(method 446 146 (.pointer (some ⟨lb,0,none⟩)) "State").run prog w= .ok (191,.pointer (some p)) w:=via_seats (name:="State") (by kernel_rfl) 445 lb p w h
theorem via_len (lb:Nat) (p:Addr) (w:World) (h:w.cell? ⟨lb,0,none⟩=some (.pointer (some p))):(method 446 146 (.pointer (some ⟨lb,0,none⟩)) "Len").run prog w= .ok (188,.pointer (some p)) w:=via_seats (name:="Len") (by kernel_rfl) 445 lb p w h
theorem via_use (a:Addr) (w:World):(method 446 146 (.pointer (some a)) "Use").run prog w= .ok (256,.pointer (some a)) w:=by kernel_rfl
theorem via_step (a:Addr) (w:World):(method 446 146 (.pointer (some a)) "Step").run prog w= .ok (255,.pointer (some a)) w:=by kernel_rfl
end Go.Proofs.YtcikfcplagelaaaGreat.Kh
