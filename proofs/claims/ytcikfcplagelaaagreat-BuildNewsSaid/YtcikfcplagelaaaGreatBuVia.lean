
import Derived.Test.YtcikfcplagelaaaGreatHomed
namespace Go.Proofs.YtcikfcplagelaaaGreat
open _root_.Go.Proofs.Tryz
open Go.RowKit
set_option linter.unusedVariables false
set_option maxRecDepth 100000
theorem via_info:∃ j,prog.info? 180 =some j∧j.size=1:=by
 have h:(prog.info? 180).map (·.size)=some 1:=by kernel_rfl
 exact Option.map_eq_some_iff.1 h
theorem via_seats {name:String} {f:FuncId} (hm:((prog.info? 149).bind (λi=>i.methods.find? (·.name==name))).map (λm=>(m.path,m.func))=some (#[⟨214,0,true⟩],some (f,true)))
  (D lb:Nat) (p:Addr) (w:World) (h:w.cell? ⟨lb,0,none⟩=some (.pointer (some p))):(method (D+1) 149 (.pointer (some ⟨lb,0,none⟩)) name).run prog w= .ok (f,.pointer (some p)) w:=by
 obtain ⟨m,hm,he⟩:=Option.map_eq_some_iff.1 hm
 obtain ⟨i,hi,hf⟩:=Option.bind_eq_some_iff.1 hm
 simp only [Prod.mk.injEq] at he
 obtain ⟨j,hj,hs⟩:=via_info
 unfold method
 simp [typeInfo,hi,hf,he.1,he.2,follow,underlying,underlying214,underlying180,Place.get,asAddr,fieldPlace,Result.andThen,receiverAt,loadVar,isAgg,sizeOf,hj,hs,h,Addr.add]
theorem via_len (lb:Nat) (p:Addr) (w:World) (h:w.cell? ⟨lb,0,none⟩=some (.pointer (some p))):(method 446 149 (.pointer (some ⟨lb,0,none⟩)) "Len").run prog w= .ok (188,.pointer (some p)) w:=via_seats (name:="Len") (by kernel_rfl) 445 lb p w h
theorem via_use (a:Addr) (w:World):(method 446 149 (.pointer (some a)) "Use").run prog w= .ok (271,.pointer (some a)) w:=by kernel_rfl
def b2i (b:Bool):Int:=if b then 1 else 0
end Go.Proofs.YtcikfcplagelaaaGreat
namespace Go.Proofs.YtcikfcplagelaaaGreat.Kf
open Go.RowKit
set_option linter.unusedVariables false
set_option maxRecDepth 100000
structure FL where
 s:SS
 num:Nat→Int
 dr:Nat→Bool
 ps:PSta
structure Lp where
 lb:Nat
 p:Nat
 b:Nat
 tb:Nat
 a1:Int
 a2:Int
 q:Place
 hs:List Int
end Go.Proofs.YtcikfcplagelaaaGreat.Kf
namespace Go.Proofs.YtcikfcplagelaaaGreat.Kc
open Go.RowKit
set_option linter.unusedVariables false
set_option maxRecDepth 100000
structure FL where
 s:SS
 pc:Nat→Int
 node:Nat→Int
 ahd:Nat→Int
 ps:PSta
structure Lp where
 lb:Nat
 p:Nat
 b:Nat
 tb:Nat
 a1:Int
 a2:Int
 q:Place
 hs:List Int
end Go.Proofs.YtcikfcplagelaaaGreat.Kc
namespace Go.Proofs.YtcikfcplagelaaaGreat.Km
open Go.RowKit
set_option linter.unusedVariables false
set_option maxRecDepth 100000
structure FL where
 s:SS
 pc:Nat→Int
 oth:Nat→Int
 ps:PSta
structure Lp where
 lb:Nat
 p:Nat
 b:Nat
 tb:Nat
 a1:Int
 a2:Int
 q:Place
 hs:List Int
end Go.Proofs.YtcikfcplagelaaaGreat.Km
namespace Go.Proofs.YtcikfcplagelaaaGreat.Ka
open Go.RowKit
set_option linter.unusedVariables false
set_option maxRecDepth 100000
structure FL where
 s:SS
 ea:Nat
 pc:Nat→Int
 nd:Nat→Int
 oth:Nat→Int
 tr:Nat→Int
 ps:PSta
structure Lp where
 lb:Nat
 p:Nat
 b:Nat
 tb:Nat
 a1:Int
 a2:Int
 q:Place
 hs:List Int
end Go.Proofs.YtcikfcplagelaaaGreat.Ka
namespace Go.Proofs.YtcikfcplagelaaaGreat.Kh
open Go.RowKit
set_option linter.unusedVariables false
set_option maxRecDepth 100000
def wd (c w s:Int):Int:=c*4+w*2+s
structure FL where
 s:SS
 cl:Nat→Int
 pc:Nat→Int
 nd:Nat→Int
 ahd:Nat→Int
 of:Nat→Int
 wv:Nat→Int
 ps:PSta
structure Lp where
 lb:Nat
 p:Nat
 b:Nat
 tb:Nat
 a1:Int
 a2:Int
 q:Place
 hs:List Int
end Go.Proofs.YtcikfcplagelaaaGreat.Kh
namespace Go.Proofs.YtcikfcplagelaaaGreat.Kf
open _root_.Go.Proofs.Tryz
open Go.RowKit
set_option linter.unusedVariables false
set_option maxRecDepth 100000
theorem via_info:∃ j,prog.info? 180 =some j∧j.size=1:=by
 have h:(prog.info? 180).map (·.size)=some 1:=by kernel_rfl
 exact Option.map_eq_some_iff.1 h
theorem via_seats {name:String} {f:FuncId} (hm:((prog.info? 131).bind (λi=>i.methods.find? (·.name==name))).map (λm=>(m.path,m.func))=some (#[⟨186,0,true⟩],some (f,true)))
  (D lb:Nat) (p:Addr) (w:World) (h:w.cell? ⟨lb,0,none⟩=some (.pointer (some p))):(method (D+1) 131 (.pointer (some ⟨lb,0,none⟩)) name).run prog w= .ok (f,.pointer (some p)) w:=by
 obtain ⟨m,hm,he⟩:=Option.map_eq_some_iff.1 hm
 obtain ⟨i,hi,hf⟩:=Option.bind_eq_some_iff.1 hm
 simp only [Prod.mk.injEq] at he
 obtain ⟨j,hj,hs⟩:=via_info
 unfold method
 simp [typeInfo,hi,hf,he.1,he.2,follow,underlying,underlying186,underlying180,Place.get,asAddr,fieldPlace,Result.andThen,receiverAt,loadVar,isAgg,sizeOf,hj,hs,h,Addr.add]
theorem via_len (lb:Nat) (p:Addr) (w:World) (h:w.cell? ⟨lb,0,none⟩=some (.pointer (some p))):(method 446 131 (.pointer (some ⟨lb,0,none⟩)) "Len").run prog w= .ok (188,.pointer (some p)) w:=via_seats (name:="Len") (by kernel_rfl) 445 lb p w h
theorem via_use (a:Addr) (w:World):(method 446 131 (.pointer (some a)) "Use").run prog w= .ok (194,.pointer (some a)) w:=by kernel_rfl
end Go.Proofs.YtcikfcplagelaaaGreat.Kf
namespace Go.Proofs.YtcikfcplagelaaaGreat.Kc
open _root_.Go.Proofs.Tryz
open Go.RowKit
set_option linter.unusedVariables false
set_option maxRecDepth 100000
theorem via_info:∃ j,prog.info? 180 =some j∧j.size=1:=by
 have h:(prog.info? 180).map (·.size)=some 1:=by kernel_rfl
 exact Option.map_eq_some_iff.1 h
theorem via_seats {name:String} {f:FuncId} (hm:((prog.info? 137).bind (λi=>i.methods.find? (·.name==name))).map (λm=>(m.path,m.func))=some (#[⟨195,0,true⟩],some (f,true)))
  (D lb:Nat) (p:Addr) (w:World) (h:w.cell? ⟨lb,0,none⟩=some (.pointer (some p))):(method (D+1) 137 (.pointer (some ⟨lb,0,none⟩)) name).run prog w= .ok (f,.pointer (some p)) w:=by
 obtain ⟨m,hm,he⟩:=Option.map_eq_some_iff.1 hm
 obtain ⟨i,hi,hf⟩:=Option.bind_eq_some_iff.1 hm
 simp only [Prod.mk.injEq] at he
 obtain ⟨j,hj,hs⟩:=via_info
 unfold method
 simp [typeInfo,hi,hf,he.1,he.2,follow,underlying,underlying195,underlying180,Place.get,asAddr,fieldPlace,Result.andThen,receiverAt,loadVar,isAgg,sizeOf,hj,hs,h,Addr.add]
theorem via_len (lb:Nat) (p:Addr) (w:World) (h:w.cell? ⟨lb,0,none⟩=some (.pointer (some p))):(method 446 137 (.pointer (some ⟨lb,0,none⟩)) "Len").run prog w= .ok (188,.pointer (some p)) w:=via_seats (name:="Len") (by kernel_rfl) 445 lb p w h
theorem via_use (a:Addr) (w:World):(method 446 137 (.pointer (some a)) "Use").run prog w= .ok (213,.pointer (some a)) w:=by kernel_rfl
end Go.Proofs.YtcikfcplagelaaaGreat.Kc
namespace Go.Proofs.YtcikfcplagelaaaGreat.Km
open _root_.Go.Proofs.Tryz
open Go.RowKit
set_option linter.unusedVariables false
set_option maxRecDepth 100000
theorem via_info:∃ j,prog.info? 180 =some j∧j.size=1:=by
 have h:(prog.info? 180).map (·.size)=some 1:=by kernel_rfl
 exact Option.map_eq_some_iff.1 h
theorem via_seats {name:String} {f:FuncId} (hm:((prog.info? 140).bind (λi=>i.methods.find? (·.name==name))).map (λm=>(m.path,m.func))=some (#[⟨199,0,true⟩],some (f,true)))
  (D lb:Nat) (p:Addr) (w:World) (h:w.cell? ⟨lb,0,none⟩=some (.pointer (some p))):(method (D+1) 140 (.pointer (some ⟨lb,0,none⟩)) name).run prog w= .ok (f,.pointer (some p)) w:=by
 obtain ⟨m,hm,he⟩:=Option.map_eq_some_iff.1 hm
 obtain ⟨i,hi,hf⟩:=Option.bind_eq_some_iff.1 hm
 simp only [Prod.mk.injEq] at he
 obtain ⟨j,hj,hs⟩:=via_info
 unfold method
 simp [typeInfo,hi,hf,he.1,he.2,follow,underlying,underlying199,underlying180,Place.get,asAddr,fieldPlace,Result.andThen,receiverAt,loadVar,isAgg,sizeOf,hj,hs,h,Addr.add]
theorem via_len (lb:Nat) (p:Addr) (w:World) (h:w.cell? ⟨lb,0,none⟩=some (.pointer (some p))):(method 446 140 (.pointer (some ⟨lb,0,none⟩)) "Len").run prog w= .ok (188,.pointer (some p)) w:=via_seats (name:="Len") (by kernel_rfl) 445 lb p w h
theorem via_use (a:Addr) (w:World):(method 446 140 (.pointer (some a)) "Use").run prog w= .ok (223,.pointer (some a)) w:=by kernel_rfl
end Go.Proofs.YtcikfcplagelaaaGreat.Km
namespace Go.Proofs.YtcikfcplagelaaaGreat.Ks
open _root_.Go.Proofs.Tryz
open Go.RowKit
set_option linter.unusedVariables false
set_option maxRecDepth 100000
theorem via_info:∃ j,prog.info? 180 =some j∧j.size=1:=by
 have h:(prog.info? 180).map (·.size)=some 1:=by kernel_rfl
 exact Option.map_eq_some_iff.1 h
theorem via_seats {name:String} {f:FuncId} (hm:((prog.info? 134).bind (λi=>i.methods.find? (·.name==name))).map (λm=>(m.path,m.func))=some (#[⟨191,0,true⟩],some (f,true)))
  (D lb:Nat) (p:Addr) (w:World) (h:w.cell? ⟨lb,0,none⟩=some (.pointer (some p))):(method (D+1) 134 (.pointer (some ⟨lb,0,none⟩)) name).run prog w= .ok (f,.pointer (some p)) w:=by
 obtain ⟨m,hm,he⟩:=Option.map_eq_some_iff.1 hm
 obtain ⟨i,hi,hf⟩:=Option.bind_eq_some_iff.1 hm
 simp only [Prod.mk.injEq] at he
 obtain ⟨j,hj,hs⟩:=via_info
 unfold method
 simp [typeInfo,hi,hf,he.1,he.2,follow,underlying,underlying191,underlying180,Place.get,asAddr,fieldPlace,Result.andThen,receiverAt,loadVar,isAgg,sizeOf,hj,hs,h,Addr.add]
theorem via_len (lb:Nat) (p:Addr) (w:World) (h:w.cell? ⟨lb,0,none⟩=some (.pointer (some p))):(method 446 134 (.pointer (some ⟨lb,0,none⟩)) "Len").run prog w= .ok (188,.pointer (some p)) w:=via_seats (name:="Len") (by kernel_rfl) 445 lb p w h
theorem via_use (a:Addr) (w:World):(method 446 134 (.pointer (some a)) "Use").run prog w= .ok (209,.pointer (some a)) w:=by kernel_rfl
end Go.Proofs.YtcikfcplagelaaaGreat.Ks
namespace Go.Proofs.YtcikfcplagelaaaGreat.Ka
open _root_.Go.Proofs.Tryz
open Go.RowKit
set_option linter.unusedVariables false
set_option maxRecDepth 100000
theorem via_info:∃ j,prog.info? 180 =some j∧j.size=1:=by
 have h:(prog.info? 180).map (·.size)=some 1:=by kernel_rfl
 exact Option.map_eq_some_iff.1 h
theorem via_seats {name:String} {f:FuncId} (hm:((prog.info? 143).bind (λi=>i.methods.find? (·.name==name))).map (λm=>(m.path,m.func))=some (#[⟨206,0,true⟩],some (f,true)))
  (D lb:Nat) (p:Addr) (w:World) (h:w.cell? ⟨lb,0,none⟩=some (.pointer (some p))):(method (D+1) 143 (.pointer (some ⟨lb,0,none⟩)) name).run prog w= .ok (f,.pointer (some p)) w:=by
 obtain ⟨m,hm,he⟩:=Option.map_eq_some_iff.1 hm
 obtain ⟨i,hi,hf⟩:=Option.bind_eq_some_iff.1 hm
 simp only [Prod.mk.injEq] at he
 obtain ⟨j,hj,hs⟩:=via_info
 unfold method
 simp [typeInfo,hi,hf,he.1,he.2,follow,underlying,underlying206,underlying180,Place.get,asAddr,fieldPlace,Result.andThen,receiverAt,loadVar,isAgg,sizeOf,hj,hs,h,Addr.add]
theorem via_len (lb:Nat) (p:Addr) (w:World) (h:w.cell? ⟨lb,0,none⟩=some (.pointer (some p))):(method 446 143 (.pointer (some ⟨lb,0,none⟩)) "Len").run prog w= .ok (188,.pointer (some p)) w:=via_seats (name:="Len") (by kernel_rfl) 445 lb p w h
theorem via_use (a:Addr) (w:World):(method 446 143 (.pointer (some a)) "Use").run prog w= .ok (238,.pointer (some a)) w:=by kernel_rfl
end Go.Proofs.YtcikfcplagelaaaGreat.Ka
namespace Go.Proofs.YtcikfcplagelaaaGreat.Kh
open _root_.Go.Proofs.Tryz
open Go.RowKit
set_option linter.unusedVariables false
set_option maxRecDepth 100000
theorem via_info:∃ j,prog.info? 180 =some j∧j.size=1:=by
 have h:(prog.info? 180).map (·.size)=some 1:=by kernel_rfl
 exact Option.map_eq_some_iff.1 h
theorem via_seats {name:String} {f:FuncId} (hm:((prog.info? 146).bind (λi=>i.methods.find? (·.name==name))).map (λm=>(m.path,m.func))=some (#[⟨209,0,true⟩],some (f,true)))
  (D lb:Nat) (p:Addr) (w:World) (h:w.cell? ⟨lb,0,none⟩=some (.pointer (some p))):(method (D+1) 146 (.pointer (some ⟨lb,0,none⟩)) name).run prog w= .ok (f,.pointer (some p)) w:=by
 obtain ⟨m,hm,he⟩:=Option.map_eq_some_iff.1 hm
 obtain ⟨i,hi,hf⟩:=Option.bind_eq_some_iff.1 hm
 simp only [Prod.mk.injEq] at he
 obtain ⟨j,hj,hs⟩:=via_info
 unfold method
 simp [typeInfo,hi,hf,he.1,he.2,follow,underlying,underlying209,underlying180,Place.get,asAddr,fieldPlace,Result.andThen,receiverAt,loadVar,isAgg,sizeOf,hj,hs,h,Addr.add]
theorem via_len (lb:Nat) (p:Addr) (w:World) (h:w.cell? ⟨lb,0,none⟩=some (.pointer (some p))):(method 446 146 (.pointer (some ⟨lb,0,none⟩)) "Len").run prog w= .ok (188,.pointer (some p)) w:=via_seats (name:="Len") (by kernel_rfl) 445 lb p w h
theorem via_use (a:Addr) (w:World):(method 446 146 (.pointer (some a)) "Use").run prog w= .ok (256,.pointer (some a)) w:=by kernel_rfl
end Go.Proofs.YtcikfcplagelaaaGreat.Kh
