import Derived.Test.YtcikfcplagelaaaGreatBuS
import Derived.Test.YtcikfcplagelaaaGreatBuA
import Derived.Test.YtcikfcplagelaaaGreatBuH
import Derived.Test.YtcikfcplagelaaaGreatLockFine
namespace Go.Proofs.YtcikfcplagelaaaGreat
open _root_.Go.Proofs.Tryz
open Go.RowKit Go.BigFrame
set_option linter.unusedVariables false
set_option maxRecDepth 100000
inductive Any
 |tk (L:Kf.Lp) (f:Kf.FL)
 |sl (L:Ks.Lp) (f:Ks.FL)
 |cl (L:Kc.Lp) (f:Kc.FL)
 |mc (L:Km.Lp) (f:Km.FL)
 |ab (L:Ka.Lp) (f:Ka.FL)
 |hi (L:Kh.Lp) (f:Kh.FL)
 |co (L:Lp) (f:FL)
namespace Any
def ty:Any→Nat
 |tk _ _=>131
 |sl _ _=>134
 |cl _ _=>137
 |mc _ _=>140
 |ab _ _=>143
 |hi _ _=>146
 |co _ _=>149
def useF:Any→Nat
 |tk _ _=>194
 |sl _ _=>209
 |cl _ _=>213
 |mc _ _=>223
 |ab _ _=>238
 |hi _ _=>256
 |co _ _=>271
def lb:Any→Nat
 |tk L _=>L.lb
 |sl L _=>L.lb
 |cl L _=>L.lb
 |mc L _=>L.lb
 |ab L _=>L.lb
 |hi L _=>L.lb
 |co L _=>L.lb
def p:Any→Nat
 |tk L _=>L.p
 |sl L _=>L.p
 |cl L _=>L.p
 |mc L _=>L.p
 |ab L _=>L.p
 |hi L _=>L.p
 |co L _=>L.p
def b:Any→Nat
 |tk L _=>L.b
 |sl L _=>L.b
 |cl L _=>L.b
 |mc L _=>L.b
 |ab L _=>L.b
 |hi L _=>L.b
 |co L _=>L.b
def q:Any→Place
 |tk L _=>L.q
 |sl L _=>L.q
 |cl L _=>L.q
 |mc L _=>L.q
 |ab L _=>L.q
 |hi L _=>L.q
 |co L _=>L.q
def hs:Any→List Int
 |tk L _=>L.hs
 |sl L _=>L.hs
 |cl L _=>L.hs
 |mc L _=>L.hs
 |ab L _=>L.hs
 |hi L _=>L.hs
 |co L _=>L.hs
def s:Any→SS
 |tk _ f=>f.s
 |sl _ f=>f.s
 |cl _ f=>f.s
 |mc _ f=>f.s
 |ab _ f=>f.s
 |hi _ f=>f.s
 |co _ f=>f.s
def ps:Any→PSta
 |tk _ f=>f.ps
 |sl _ f=>f.ps
 |cl _ f=>f.ps
 |mc _ f=>f.ps
 |ab _ f=>f.ps
 |hi _ f=>f.ps
 |co _ f=>f.ps
def val (a:Any):Value:= .iface a.ty (.pointer (some ⟨a.lb,0,none⟩))
def At (w0 w:World):Any→Prop
 |tk L f=>Kf.LkS w0 w L f
 |sl L f=>Ks.LkS w0 w L f
 |cl L f=>Kc.LkS w0 w L f
 |mc L f=>Km.LkS w0 w L f
 |ab L f=>Ka.LkS w0 w L f
 |hi L f=>Kh.LkS w0 w L f
 |co L f=>LkS w0 w L f
def Low (a:Any) (k:Nat):Prop:=k<a.q.k3
section
variable {w0 w w':World} {a:Any}
theorem At.after (h:a.At w0 w) (k:Wr Nil w w'):a.At w0 w':=by
 cases a with
 |tk L f=>exact Kf.LkS.after h k
 |sl L f=>exact Ks.LkS.after h k
 |cl L f=>exact Kc.LkS.after h k
 |mc L f=>exact Km.LkS.after h k
 |ab L f=>exact Ka.LkS.after h k
 |hi L f=>exact Kh.LkS.after h k
 |co L f=>exact LkS.after h k
theorem At.wr (h:a.At w0 w):Wr Nil w0 w:=by
 cases a with
 |tk L f=>exact Kf.LkS.wr h
 |sl L f=>exact Ks.LkS.wr h
 |cl L f=>exact Kc.LkS.wr h
 |mc L f=>exact Km.LkS.wr h
 |ab L f=>exact Ka.LkS.wr h
 |hi L f=>exact Kh.LkS.wr h
 |co L f=>exact LkS.wr h
theorem At.cell0 (h:a.At w0 w):w.cell? ⟨a.lb,0,none⟩=some (.pointer (some ⟨a.p,0,none⟩)):=by
 cases a with
 |tk L f=>exact Kf.LkS.cell0 h
 |sl L f=>exact Ks.LkS.cell0 h
 |cl L f=>exact Kc.LkS.cell0 h
 |mc L f=>exact Km.LkS.cell0 h
 |ab L f=>exact Ka.LkS.cell0 h
 |hi L f=>exact Kh.LkS.cell0 h
 |co L f=>exact LkS.cell0 h
theorem At.port (h:a.At w0 w):PortAt w a.q a.hs a.ps:=by
 cases a with
 |tk L f=>exact h.lk.port
 |sl L f=>exact h.lk.port
 |cl L f=>exact h.lk.port
 |mc L f=>exact h.lk.port
 |ab L f=>exact h.lk.port
 |hi L f=>exact h.lk.port
 |co L f=>exact h.lk.lk.port
theorem At.seat (h:a.At w0 w):SeatAt w a.p a.b a.s:=by
 cases a with
 |tk L f=>exact h.lk.raw.seat
 |sl L f=>exact h.lk.raw.seat
 |cl L f=>exact h.lk.raw.seat
 |mc L f=>exact h.lk.raw.seat
 |ab L f=>exact h.lk.raw.seat
 |hi L f=>exact h.lk.raw.seat
 |co L f=>exact h.lk.lk.raw.seat
theorem any_len (h:a.At w0 w):Calls prog 188 #[.pointer (some ⟨a.p,0,none⟩)] w λe w'=>e= .returned (.int .i64 a.s.n)∧w=w':=se_len h.seat
end
end Any
namespace Any
variable {w:World} {a:Any}
theorem via_len (h:w.cell? ⟨a.lb,0,none⟩=some (.pointer (some ⟨a.p,0,none⟩))):(method 446 a.ty (.pointer (some ⟨a.lb,0,none⟩)) "Len").run prog w= .ok (188,.pointer (some ⟨a.p,0,none⟩)) w:=by
 cases a with
 |tk L f=>exact Kf.via_len L.lb ⟨L.p,0,none⟩ w h
 |sl L f=>exact Ks.via_len L.lb ⟨L.p,0,none⟩ w h
 |cl L f=>exact Kc.via_len L.lb ⟨L.p,0,none⟩ w h
 |mc L f=>exact Km.via_len L.lb ⟨L.p,0,none⟩ w h
 |ab L f=>exact Ka.via_len L.lb ⟨L.p,0,none⟩ w h
 |hi L f=>exact Kh.via_len L.lb ⟨L.p,0,none⟩ w h
 |co L f=>exact _root_.Go.Proofs.YtcikfcplagelaaaGreat.via_len L.lb ⟨L.p,0,none⟩ w h
theorem via_use (a:Any) (w:World):(method 446 a.ty (.pointer (some ⟨a.lb,0,none⟩)) "Use").run prog w= .ok (a.useF,.pointer (some ⟨a.lb,0,none⟩)) w:=by
 cases a with
 |tk L f=>exact Kf.via_use ⟨L.lb,0,none⟩ w
 |sl L f=>exact Ks.via_use ⟨L.lb,0,none⟩ w
 |cl L f=>exact Kc.via_use ⟨L.lb,0,none⟩ w
 |mc L f=>exact Km.via_use ⟨L.lb,0,none⟩ w
 |ab L f=>exact Ka.via_use ⟨L.lb,0,none⟩ w
 |hi L f=>exact Kh.via_use ⟨L.lb,0,none⟩ w
 |co L f=>exact _root_.Go.Proofs.YtcikfcplagelaaaGreat.via_use ⟨L.lb,0,none⟩ w
theorem nil_use (a:Any) (w:World):(nilAhead 446 a.ty (.pointer (some ⟨a.lb,0,none⟩)) "Use").run prog w= .ok (some false) w:=by
 cases a with
 |tk L f=>show (nilAhead 446 131 (.pointer (some ⟨L.lb,0,none⟩)) "Use").run prog w= .ok (some false) w;kernel_rfl
 |sl L f=>show (nilAhead 446 134 (.pointer (some ⟨L.lb,0,none⟩)) "Use").run prog w= .ok (some false) w;kernel_rfl
 |cl L f=>show (nilAhead 446 137 (.pointer (some ⟨L.lb,0,none⟩)) "Use").run prog w= .ok (some false) w;kernel_rfl
 |mc L f=>show (nilAhead 446 140 (.pointer (some ⟨L.lb,0,none⟩)) "Use").run prog w= .ok (some false) w;kernel_rfl
 |ab L f=>show (nilAhead 446 143 (.pointer (some ⟨L.lb,0,none⟩)) "Use").run prog w= .ok (some false) w;kernel_rfl
 |hi L f=>show (nilAhead 446 146 (.pointer (some ⟨L.lb,0,none⟩)) "Use").run prog w= .ok (some false) w;kernel_rfl
 |co L f=>show (nilAhead 446 149 (.pointer (some ⟨L.lb,0,none⟩)) "Use").run prog w= .ok (some false) w;kernel_rfl
theorem nil_len (a:Any) (w:World):(nilAhead 446 a.ty (.pointer (some ⟨a.lb,0,none⟩)) "Len").run prog w= .ok (some false) w:=by
 cases a with
 |tk L f=>show (nilAhead 446 131 (.pointer (some ⟨L.lb,0,none⟩)) "Len").run prog w= .ok (some false) w;kernel_rfl
 |sl L f=>show (nilAhead 446 134 (.pointer (some ⟨L.lb,0,none⟩)) "Len").run prog w= .ok (some false) w;kernel_rfl
 |cl L f=>show (nilAhead 446 137 (.pointer (some ⟨L.lb,0,none⟩)) "Len").run prog w= .ok (some false) w;kernel_rfl
 |mc L f=>show (nilAhead 446 140 (.pointer (some ⟨L.lb,0,none⟩)) "Len").run prog w= .ok (some false) w;kernel_rfl
 |ab L f=>show (nilAhead 446 143 (.pointer (some ⟨L.lb,0,none⟩)) "Len").run prog w= .ok (some false) w;kernel_rfl
 |hi L f=>show (nilAhead 446 146 (.pointer (some ⟨L.lb,0,none⟩)) "Len").run prog w= .ok (some false) w;kernel_rfl
 |co L f=>show (nilAhead 446 149 (.pointer (some ⟨L.lb,0,none⟩)) "Len").run prog w= .ok (some false) w;kernel_rfl
theorem useF_enter (a:Any) (args:Array Value) (w:World):(callFunc a.useF args).run prog w= .ok (.enter a.useF args) w:=by
 cases a with
 |tk L f=>show (callFunc 194 args).run prog w= .ok (.enter 194 args) w;kernel_rfl
 |sl L f=>show (callFunc 209 args).run prog w= .ok (.enter 209 args) w;kernel_rfl
 |cl L f=>show (callFunc 213 args).run prog w= .ok (.enter 213 args) w;kernel_rfl
 |mc L f=>show (callFunc 223 args).run prog w= .ok (.enter 223 args) w;kernel_rfl
 |ab L f=>show (callFunc 238 args).run prog w= .ok (.enter 238 args) w;kernel_rfl
 |hi L f=>show (callFunc 256 args).run prog w= .ok (.enter 256 args) w;kernel_rfl
 |co L f=>show (callFunc 271 args).run prog w= .ok (.enter 271 args) w;kernel_rfl
end Any
end Go.Proofs.YtcikfcplagelaaaGreat
