import Derived.Test.YtmnephejhkfchaaGreatBuF
import Derived.Test.YtmnephejhkfchaaGreatBuS
import Derived.Test.YtmnephejhkfchaaGreatBuC
import Derived.Test.YtmnephejhkfchaaGreatBuM
import Derived.Test.YtmnephejhkfchaaGreatBuA
import Derived.Test.YtmnephejhkfchaaGreatCohortAcc
namespace Go.Proofs.YtmnephejhkfchaaGreat
open _root_.Go.Proofs.Tryz
open Go.RowKit Go.BigFrame
set_option linter.unusedVariables false
set_option maxRecDepth 100000
inductive Any
 |tk (L:Kf.Lp) (f:Kf.FL)
 |sl (L:Ks.Lp) (f:Ks.FL)
 |cl (L:Kc.Lp) (f:Kc.FL)
 |mc (L:Km.Lp) (f:Km.FL)
 |ab (L:Ka.Lp) (f:Ka.FL)
namespace Any
def ty:Any→Nat
 |tk _ _=>78
 |sl _ _=>81
 |cl _ _=>84
 |mc _ _=>87
 |ab _ _=>90
def useF:Any→Nat
 |tk _ _=>132
 |sl _ _=>147
 |cl _ _=>151
 |mc _ _=>161
 |ab _ _=>176
def stepF:Any→Nat
 |tk _ _=>130
 |sl _ _=>146
 |cl _ _=>150
 |mc _ _=>160
 |ab _ _=>175
def lb:Any→Nat
 |tk L _=>L.lb
 |sl L _=>L.lb
 |cl L _=>L.lb
 |mc L _=>L.lb
 |ab L _=>L.lb
def p:Any→Nat
 |tk L _=>L.p
 |sl L _=>L.p
 |cl L _=>L.p
 |mc L _=>L.p
 |ab L _=>L.p
def b:Any→Nat
 |tk L _=>L.b
 |sl L _=>L.b
 |cl L _=>L.b
 |mc L _=>L.b
 |ab L _=>L.b
def q:Any→Place
 |tk L _=>L.q
 |sl L _=>L.q
 |cl L _=>L.q
 |mc L _=>L.q
 |ab L _=>L.q
def s:Any→SS
 |tk _ f=>f.s
 |sl _ f=>f.s
 |cl _ f=>f.s
 |mc _ f=>f.s
 |ab _ f=>f.s
def ps:Any→PSta
 |tk _ f=>f.ps
 |sl _ f=>f.ps
 |cl _ f=>f.ps
 |mc _ f=>f.ps
 |ab _ f=>f.ps
def val (a:Any):Value:= .iface a.ty (.pointer (some ⟨a.lb,0,none⟩))
def At (w0 w:World):Any→Prop
 |tk L f=>Kf.LkS w0 w L f
 |sl L f=>Ks.LkS w0 w L f
 |cl L f=>Kc.LkS w0 w L f
 |mc L f=>Km.LkS w0 w L f
 |ab L f=>Ka.LkS w0 w L f
def lock (t d:Int):Any→Any
 |tk L f=>tk L (f.lock t d)
 |sl L f=>sl L (f.lock t d)
 |cl L f=>cl L (f.lock t d)
 |mc L f=>mc L (f.lock t d)
 |ab L f=>ab L (f.lock t d)
def turn (t x:Int):Any→Any
 |tk L f=>tk L (f.turn t x)
 |sl L f=>sl L (f.turn t x)
 |cl L f=>cl L (f.turn t x)
 |mc L f=>mc L (f.turn t x)
 |ab L f=>ab L (f.turn t x)
def step (t x:Int):Any→Any
 |tk L f=>tk L (f.step L t t)
 |sl L f=>sl L (f.step L t t)
 |cl L f=>cl L (f.step L t t)
 |mc L f=>mc L (f.step L t t)
 |ab L f=>ab L (f.step L t t x)
def did (t x:Int):Any→Dd
 |tk L f=>f.did L t t
 |sl L f=>f.did L t t
 |cl L f=>f.did L t t
 |mc L f=>f.did L t t
 |ab L f=>f.did L t t x
def Low (a:Any) (k:Nat):Prop:=k<a.q.k3
def Post (w0 w:World) (a:Any) (v:Value) (e:Ending) (w':World):Prop:=e= .returned v∧a.At w0 w'∧Wr a.Low w w'
section
variable {w0 w w':World} {a:Any}
theorem At.after (h:a.At w0 w) (k:Wr Nil w w'):a.At w0 w':=by
 cases a with
 |tk L f=>exact Kf.LkS.after h k
 |sl L f=>exact Ks.LkS.after h k
 |cl L f=>exact Kc.LkS.after h k
 |mc L f=>exact Km.LkS.after h k
 |ab L f=>exact Ka.LkS.after h k
theorem At.apart {S:Nat→Prop} (h:a.At w0 w) (k:Wr S w w') (hS:∀ b,S b→a.q.k3≤b):a.At w0 w':=by
 cases a with
 |tk L f=>exact Kf.LkS.apart h k hS
 |sl L f=>exact Ks.LkS.apart h k hS
 |cl L f=>exact Kc.LkS.apart h k hS
 |mc L f=>exact Km.LkS.apart h k hS
 |ab L f=>exact Ka.LkS.apart h k hS
theorem At.wr (h:a.At w0 w):Wr Nil w0 w:=by
 cases a with
 |tk L f=>exact Kf.LkS.wr h
 |sl L f=>exact Ks.LkS.wr h
 |cl L f=>exact Kc.LkS.wr h
 |mc L f=>exact Km.LkS.wr h
 |ab L f=>exact Ka.LkS.wr h
theorem At.cell0 (h:a.At w0 w):w.cell? ⟨a.lb,0,none⟩=some (.pointer (some ⟨a.p,0,none⟩)):=by
 cases a with
 |tk L f=>exact Kf.LkS.cell0 h
 |sl L f=>exact Ks.LkS.cell0 h
 |cl L f=>exact Kc.LkS.cell0 h
 |mc L f=>exact Km.LkS.cell0 h
 |ab L f=>exact Ka.LkS.cell0 h
theorem At.seat (h:a.At w0 w):SeatAt w a.p a.b a.s:=by
 cases a with
 |tk L f=>exact h.lk.raw.seat
 |sl L f=>exact h.lk.raw.seat
 |cl L f=>exact h.lk.raw.seat
 |mc L f=>exact h.lk.raw.seat
 |ab L f=>exact h.lk.raw.seat
theorem At.top (h:a.At w0 w):a.q.k3≤w.heap.size:=by
 cases a with
 |tk L f=>exact h.lk.top
 |sl L f=>exact h.lk.top
 |cl L f=>exact h.lk.top
 |mc L f=>exact h.lk.top
 |ab L f=>exact h.lk.top
theorem any_lock (h:a.At w0 w) (t d:Int):Calls prog 127 #[.pointer (some ⟨a.p,0,none⟩),.int .i64 t,.int .i64 d] w (Post w0 w (a.lock t d) (.int .i64 (lockE a.s t d))):=by
 cases a with
 |tk L f=>exact Kf.ls_lock h t d
 |sl L f=>exact Ks.ls_lock h t d
 |cl L f=>exact Kc.ls_lock h t d
 |mc L f=>exact Km.ls_lock h t d
 |ab L f=>exact Ka.ls_lock h t d
theorem any_unlock (h:a.At w0 w) (t:Int):Calls prog 131 #[.pointer (some ⟨a.p,0,none⟩),.int .i64 t] w (Post w0 w (a.turn t 3) (.int .i64 (turnE a.s t))):=by
 cases a with
 |tk L f=>exact Kf.ls_unlock h t
 |sl L f=>exact Ks.ls_unlock h t
 |cl L f=>exact Kc.ls_unlock h t
 |mc L f=>exact Km.ls_unlock h t
 |ab L f=>exact Ka.ls_unlock h t
theorem any_step (h:a.At w0 w) (t x:Int) (hD:a.ps.D.length<4611686018427387904):Calls prog a.stepF #[.pointer (some ⟨a.lb,0,none⟩),.int .i64 t,.int .i64 t,.int .i64 x] w (Post w0 w (a.step t x) (a.did t x).val):=by
 cases a with
 |tk L f=>exact Kf.ls_step h t t x hD
 |sl L f=>exact Ks.ls_step h t t x hD
 |cl L f=>exact Kc.ls_step h t t x hD
 |mc L f=>exact Km.ls_step h t t x hD
 |ab L f=>exact Ka.ls_step h t t x hD
theorem any_state (h:a.At w0 w) (t:Int):Calls prog 129 #[.pointer (some ⟨a.p,0,none⟩),.int .i64 t] w λe w'=>e= .returned (.int .i64 (a.s.stI t))∧w=w':=se_state h.seat t
theorem any_len (h:a.At w0 w):Calls prog 126 #[.pointer (some ⟨a.p,0,none⟩)] w λe w'=>e= .returned (.int .i64 a.s.n)∧w=w':=se_len h.seat
end
theorem lock_ps (a:Any) (t d:Int):(a.lock t d).ps=a.ps:=by cases a<;>rfl
theorem turn_ps (a:Any) (t x:Int):(a.turn t x).ps=a.ps:=by cases a<;>rfl
end Any
theorem Ks.step_one (f:Ks.FL) (L:Ks.Lp) (t u:Int):OneS f.ps (f.step L t u).ps u:=by
 show OneS f.ps (f.mid L t u).ps u
 unfold Ks.FL.mid Ks.FL.acq Ks.FL.rel
 repeat' split
 all_goals first|exact .inl rfl|exact .inr ⟨_,_,_,_,rfl⟩
theorem Ka.acq_one (f:Ka.FL) (L:Ka.Lp) (t:Nat) (u x:Int):OneS f.ps (f.acq L t u x).ps u:=by
 unfold Ka.FL.acq
 by_cases p1:f.pc t=1
 ·rw [if_pos p1];exact .inr ⟨_,_,_,_,rfl⟩
 rw [if_neg p1]
 by_cases p2:f.pc t=2
 ·rw [if_pos p2];exact .inr ⟨_,_,_,_,rfl⟩
 rw [if_neg p2]
 by_cases p3:f.pc t=3
 ·rw [if_pos p3];exact .inr ⟨_,_,_,_,rfl⟩
 rw [if_neg p3]
 by_cases p4:f.pc t=4
 ·rw [if_pos p4];exact .inr ⟨_,_,_,_,rfl⟩
 rw [if_neg p4]
 by_cases p5:f.pc t=5
 ·rw [if_pos p5];exact .inr ⟨_,_,_,_,rfl⟩
 rw [if_neg p5]
 by_cases p6:f.pc t=6
 ·rw [if_pos p6];exact .inr ⟨_,_,_,_,rfl⟩
 rw [if_neg p6]
 by_cases p7:f.pc t=7
 ·rw [if_pos p7];exact .inr ⟨_,_,_,_,rfl⟩
 rw [if_neg p7]
 exact .inr ⟨_,_,_,_,rfl⟩
theorem Ka.rel_one (f:Ka.FL) (L:Ka.Lp) (t:Nat) (u:Int):OneS f.ps (f.rel L t u).ps u:=by
 unfold Ka.FL.rel
 by_cases p1:f.pc t=1
 ·rw [if_pos p1];exact .inr ⟨_,_,_,_,rfl⟩
 rw [if_neg p1]
 by_cases p2:f.pc t=2
 ·rw [if_pos p2];exact .inr ⟨_,_,_,_,rfl⟩
 rw [if_neg p2]
 by_cases p3:f.pc t=3
 ·rw [if_pos p3];exact .inr ⟨_,_,_,_,rfl⟩
 rw [if_neg p3]
 by_cases p4:f.pc t=4
 ·rw [if_pos p4];exact .inr ⟨_,_,_,_,rfl⟩
 rw [if_neg p4]
 by_cases p5:f.pc t=5
 ·rw [if_pos p5];exact .inr ⟨_,_,_,_,rfl⟩
 rw [if_neg p5]
 exact .inr ⟨_,_,_,_,rfl⟩
theorem Ka.step_one (f:Ka.FL) (L:Ka.Lp) (t u x:Int):OneS f.ps (f.step L t u x).ps u:=by
 show OneS f.ps (f.mid L t u x).ps u
 unfold Ka.FL.mid
 split
 ·split
  ·exact Ka.acq_one f L _ u x
  ·split
   ·exact Ka.rel_one f L _ u
   ·exact .inl rfl
 ·exact .inl rfl
theorem Any.step_one (a:Any) (t x:Int):OneS a.ps (a.step t x).ps t:=by
 cases a with
 |tk L f=>exact Kf.step_one f L t t
 |sl L f=>exact Ks.step_one f L t t
 |cl L f=>exact Kc.step_one f L t t
 |mc L f=>exact Km.step_one f L t t
 |ab L f=>exact Ka.step_one f L t t x
namespace Any
variable {w:World} {a:Any}
theorem via_lock (h:w.cell? ⟨a.lb,0,none⟩=some (.pointer (some ⟨a.p,0,none⟩))):(method 362 a.ty (.pointer (some ⟨a.lb,0,none⟩)) "Lock").run prog w= .ok (127,.pointer (some ⟨a.p,0,none⟩)) w:=by
 cases a with
 |tk L f=>exact Kf.via_lock L.lb ⟨L.p,0,none⟩ w h
 |sl L f=>exact Ks.via_lock L.lb ⟨L.p,0,none⟩ w h
 |cl L f=>exact Kc.via_lock L.lb ⟨L.p,0,none⟩ w h
 |mc L f=>exact Km.via_lock L.lb ⟨L.p,0,none⟩ w h
 |ab L f=>exact Ka.via_lock L.lb ⟨L.p,0,none⟩ w h
theorem via_unlock (h:w.cell? ⟨a.lb,0,none⟩=some (.pointer (some ⟨a.p,0,none⟩))):(method 362 a.ty (.pointer (some ⟨a.lb,0,none⟩)) "Unlock").run prog w= .ok (131,.pointer (some ⟨a.p,0,none⟩)) w:=by
 cases a with
 |tk L f=>exact Kf.via_unlock L.lb ⟨L.p,0,none⟩ w h
 |sl L f=>exact Ks.via_unlock L.lb ⟨L.p,0,none⟩ w h
 |cl L f=>exact Kc.via_unlock L.lb ⟨L.p,0,none⟩ w h
 |mc L f=>exact Km.via_unlock L.lb ⟨L.p,0,none⟩ w h
 |ab L f=>exact Ka.via_unlock L.lb ⟨L.p,0,none⟩ w h
theorem via_state (h:w.cell? ⟨a.lb,0,none⟩=some (.pointer (some ⟨a.p,0,none⟩))):(method 362 a.ty (.pointer (some ⟨a.lb,0,none⟩)) "State").run prog w= .ok (129,.pointer (some ⟨a.p,0,none⟩)) w:=by
 cases a with
 |tk L f=>exact Kf.via_state L.lb ⟨L.p,0,none⟩ w h
 |sl L f=>exact Ks.via_state L.lb ⟨L.p,0,none⟩ w h
 |cl L f=>exact Kc.via_state L.lb ⟨L.p,0,none⟩ w h
 |mc L f=>exact Km.via_state L.lb ⟨L.p,0,none⟩ w h
 |ab L f=>exact Ka.via_state L.lb ⟨L.p,0,none⟩ w h
theorem via_len (h:w.cell? ⟨a.lb,0,none⟩=some (.pointer (some ⟨a.p,0,none⟩))):(method 362 a.ty (.pointer (some ⟨a.lb,0,none⟩)) "Len").run prog w= .ok (126,.pointer (some ⟨a.p,0,none⟩)) w:=by
 cases a with
 |tk L f=>exact Kf.via_len L.lb ⟨L.p,0,none⟩ w h
 |sl L f=>exact Ks.via_len L.lb ⟨L.p,0,none⟩ w h
 |cl L f=>exact Kc.via_len L.lb ⟨L.p,0,none⟩ w h
 |mc L f=>exact Km.via_len L.lb ⟨L.p,0,none⟩ w h
 |ab L f=>exact Ka.via_len L.lb ⟨L.p,0,none⟩ w h
theorem via_step (a:Any) (w:World):(method 362 a.ty (.pointer (some ⟨a.lb,0,none⟩)) "Step").run prog w= .ok (a.stepF,.pointer (some ⟨a.lb,0,none⟩)) w:=by
 cases a with
 |tk L f=>exact Kf.via_step ⟨L.lb,0,none⟩ w
 |sl L f=>exact Ks.via_step ⟨L.lb,0,none⟩ w
 |cl L f=>exact Kc.via_step ⟨L.lb,0,none⟩ w
 |mc L f=>exact Km.via_step ⟨L.lb,0,none⟩ w
 |ab L f=>exact Ka.via_step ⟨L.lb,0,none⟩ w
theorem via_use (a:Any) (w:World):(method 362 a.ty (.pointer (some ⟨a.lb,0,none⟩)) "Use").run prog w= .ok (a.useF,.pointer (some ⟨a.lb,0,none⟩)) w:=by
 cases a with
 |tk L f=>exact Kf.via_use ⟨L.lb,0,none⟩ w
 |sl L f=>exact Ks.via_use ⟨L.lb,0,none⟩ w
 |cl L f=>exact Kc.via_use ⟨L.lb,0,none⟩ w
 |mc L f=>exact Km.via_use ⟨L.lb,0,none⟩ w
 |ab L f=>exact Ka.via_use ⟨L.lb,0,none⟩ w
theorem nil_lock (a:Any) (w:World):(nilAhead 362 a.ty (.pointer (some ⟨a.lb,0,none⟩)) "Lock").run prog w= .ok (some false) w:=by
 cases a with
 |tk L f=>show (nilAhead 362 78 (.pointer (some ⟨L.lb,0,none⟩)) "Lock").run prog w= .ok (some false) w;kernel_rfl
 |sl L f=>show (nilAhead 362 81 (.pointer (some ⟨L.lb,0,none⟩)) "Lock").run prog w= .ok (some false) w;kernel_rfl
 |cl L f=>show (nilAhead 362 84 (.pointer (some ⟨L.lb,0,none⟩)) "Lock").run prog w= .ok (some false) w;kernel_rfl
 |mc L f=>show (nilAhead 362 87 (.pointer (some ⟨L.lb,0,none⟩)) "Lock").run prog w= .ok (some false) w;kernel_rfl
 |ab L f=>show (nilAhead 362 90 (.pointer (some ⟨L.lb,0,none⟩)) "Lock").run prog w= .ok (some false) w;kernel_rfl
theorem nil_unlock (a:Any) (w:World):(nilAhead 362 a.ty (.pointer (some ⟨a.lb,0,none⟩)) "Unlock").run prog w= .ok (some false) w:=by
 cases a with
 |tk L f=>show (nilAhead 362 78 (.pointer (some ⟨L.lb,0,none⟩)) "Unlock").run prog w= .ok (some false) w;kernel_rfl
 |sl L f=>show (nilAhead 362 81 (.pointer (some ⟨L.lb,0,none⟩)) "Unlock").run prog w= .ok (some false) w;kernel_rfl
 |cl L f=>show (nilAhead 362 84 (.pointer (some ⟨L.lb,0,none⟩)) "Unlock").run prog w= .ok (some false) w;kernel_rfl
 |mc L f=>show (nilAhead 362 87 (.pointer (some ⟨L.lb,0,none⟩)) "Unlock").run prog w= .ok (some false) w;kernel_rfl
 |ab L f=>show (nilAhead 362 90 (.pointer (some ⟨L.lb,0,none⟩)) "Unlock").run prog w= .ok (some false) w;kernel_rfl
theorem nil_step (a:Any) (w:World):(nilAhead 362 a.ty (.pointer (some ⟨a.lb,0,none⟩)) "Step").run prog w= .ok (some false) w:=by
 cases a with
 |tk L f=>show (nilAhead 362 78 (.pointer (some ⟨L.lb,0,none⟩)) "Step").run prog w= .ok (some false) w;kernel_rfl
 |sl L f=>show (nilAhead 362 81 (.pointer (some ⟨L.lb,0,none⟩)) "Step").run prog w= .ok (some false) w;kernel_rfl
 |cl L f=>show (nilAhead 362 84 (.pointer (some ⟨L.lb,0,none⟩)) "Step").run prog w= .ok (some false) w;kernel_rfl
 |mc L f=>show (nilAhead 362 87 (.pointer (some ⟨L.lb,0,none⟩)) "Step").run prog w= .ok (some false) w;kernel_rfl
 |ab L f=>show (nilAhead 362 90 (.pointer (some ⟨L.lb,0,none⟩)) "Step").run prog w= .ok (some false) w;kernel_rfl
theorem nil_use (a:Any) (w:World):(nilAhead 362 a.ty (.pointer (some ⟨a.lb,0,none⟩)) "Use").run prog w= .ok (some false) w:=by
 cases a with
 |tk L f=>show (nilAhead 362 78 (.pointer (some ⟨L.lb,0,none⟩)) "Use").run prog w= .ok (some false) w;kernel_rfl
 |sl L f=>show (nilAhead 362 81 (.pointer (some ⟨L.lb,0,none⟩)) "Use").run prog w= .ok (some false) w;kernel_rfl
 |cl L f=>show (nilAhead 362 84 (.pointer (some ⟨L.lb,0,none⟩)) "Use").run prog w= .ok (some false) w;kernel_rfl
 |mc L f=>show (nilAhead 362 87 (.pointer (some ⟨L.lb,0,none⟩)) "Use").run prog w= .ok (some false) w;kernel_rfl
 |ab L f=>show (nilAhead 362 90 (.pointer (some ⟨L.lb,0,none⟩)) "Use").run prog w= .ok (some false) w;kernel_rfl
theorem nil_state (a:Any) (w:World):(nilAhead 362 a.ty (.pointer (some ⟨a.lb,0,none⟩)) "State").run prog w= .ok (some false) w:=by
 cases a with
 |tk L f=>show (nilAhead 362 78 (.pointer (some ⟨L.lb,0,none⟩)) "State").run prog w= .ok (some false) w;kernel_rfl
 |sl L f=>show (nilAhead 362 81 (.pointer (some ⟨L.lb,0,none⟩)) "State").run prog w= .ok (some false) w;kernel_rfl
 |cl L f=>show (nilAhead 362 84 (.pointer (some ⟨L.lb,0,none⟩)) "State").run prog w= .ok (some false) w;kernel_rfl
 |mc L f=>show (nilAhead 362 87 (.pointer (some ⟨L.lb,0,none⟩)) "State").run prog w= .ok (some false) w;kernel_rfl
 |ab L f=>show (nilAhead 362 90 (.pointer (some ⟨L.lb,0,none⟩)) "State").run prog w= .ok (some false) w;kernel_rfl
theorem nil_len (a:Any) (w:World):(nilAhead 362 a.ty (.pointer (some ⟨a.lb,0,none⟩)) "Len").run prog w= .ok (some false) w:=by
 cases a with
 |tk L f=>show (nilAhead 362 78 (.pointer (some ⟨L.lb,0,none⟩)) "Len").run prog w= .ok (some false) w;kernel_rfl
 |sl L f=>show (nilAhead 362 81 (.pointer (some ⟨L.lb,0,none⟩)) "Len").run prog w= .ok (some false) w;kernel_rfl
 |cl L f=>show (nilAhead 362 84 (.pointer (some ⟨L.lb,0,none⟩)) "Len").run prog w= .ok (some false) w;kernel_rfl
 |mc L f=>show (nilAhead 362 87 (.pointer (some ⟨L.lb,0,none⟩)) "Len").run prog w= .ok (some false) w;kernel_rfl
 |ab L f=>show (nilAhead 362 90 (.pointer (some ⟨L.lb,0,none⟩)) "Len").run prog w= .ok (some false) w;kernel_rfl
theorem stepF_enter (a:Any) (args:Array Value) (w:World):(callFunc a.stepF args).run prog w= .ok (.enter a.stepF args) w:=by
 cases a with
 |tk L f=>show (callFunc 130 args).run prog w= .ok (.enter 130 args) w;kernel_rfl
 |sl L f=>show (callFunc 146 args).run prog w= .ok (.enter 146 args) w;kernel_rfl
 |cl L f=>show (callFunc 150 args).run prog w= .ok (.enter 150 args) w;kernel_rfl
 |mc L f=>show (callFunc 160 args).run prog w= .ok (.enter 160 args) w;kernel_rfl
 |ab L f=>show (callFunc 175 args).run prog w= .ok (.enter 175 args) w;kernel_rfl
theorem useF_enter (a:Any) (args:Array Value) (w:World):(callFunc a.useF args).run prog w= .ok (.enter a.useF args) w:=by
 cases a with
 |tk L f=>show (callFunc 132 args).run prog w= .ok (.enter 132 args) w;kernel_rfl
 |sl L f=>show (callFunc 147 args).run prog w= .ok (.enter 147 args) w;kernel_rfl
 |cl L f=>show (callFunc 151 args).run prog w= .ok (.enter 151 args) w;kernel_rfl
 |mc L f=>show (callFunc 161 args).run prog w= .ok (.enter 161 args) w;kernel_rfl
 |ab L f=>show (callFunc 176 args).run prog w= .ok (.enter 176 args) w;kernel_rfl
end Any
end Go.Proofs.YtmnephejhkfchaaGreat
