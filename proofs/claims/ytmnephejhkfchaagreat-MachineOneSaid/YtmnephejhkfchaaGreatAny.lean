import Derived.Test.YtmnephejhkfchaaGreatBuS
import Derived.Test.YtmnephejhkfchaaGreatBuA
import Derived.Test.YtmnephejhkfchaaGreatBuH
import Derived.Test.YtmnephejhkfchaaGreatLockFine
namespace Go.Proofs.YtmnephejhkfchaaGreat
open _root_.Go.Proofs.Tryz
open Go.RowKit Go.BigFrame
set_option linter.unusedVariables false
set_option maxRecDepth 100000
inductive Any
 |tk (L:Kf.Lp) (f:Kf.FL)
 |sl (L:Ks.Lp) (f:Ks.FL)
 |cl (L:Kc.Lp) (f:Kc.FL)
 |mc (L:Km.Lp) (f:Km.FL)
 |ab (L:Ka.Lp) (f:Ka.FL)
 |hi (L:Kh.Lp) (f:Kh.FL)
 |co (L:Lp) (f:FL)
namespace Any
def ty:Any->Nat
 |tk _ _=>78
 |sl _ _=>81
 |cl _ _=>84
 |mc _ _=>87
 |ab _ _=>90
 |hi _ _=>93
 |co _ _=>96
def Jh:Any->Nat
 |tk _ _=>132
 |sl _ _=>147
 |cl _ _=>151
 |mc _ _=>161
 |ab _ _=>176
 |hi _ _=>194
 |co _ _=>209
def DK:Any->Nat
 |tk _ _=>130
 |sl _ _=>146
 |cl _ _=>150
 |mc _ _=>160
 |ab _ _=>175
 |hi _ _=>193
 |co _ _=>208
def lb:Any->Nat
 |tk L _=>L.lb
 |sl L _=>L.lb
 |cl L _=>L.lb
 |mc L _=>L.lb
 |ab L _=>L.lb
 |hi L _=>L.lb
 |co L _=>L.lb
def p:Any->Nat
 |tk L _=>L.p
 |sl L _=>L.p
 |cl L _=>L.p
 |mc L _=>L.p
 |ab L _=>L.p
 |hi L _=>L.p
 |co L _=>L.p
def b:Any->Nat
 |tk L _=>L.b
 |sl L _=>L.b
 |cl L _=>L.b
 |mc L _=>L.b
 |ab L _=>L.b
 |hi L _=>L.b
 |co L _=>L.b
def q:Any->Place
 |tk L _=>L.q
 |sl L _=>L.q
 |cl L _=>L.q
 |mc L _=>L.q
 |ab L _=>L.q
 |hi L _=>L.q
 |co L _=>L.q
def s:Any->SS
 |tk _ f=>f.s
 |sl _ f=>f.s
 |cl _ f=>f.s
 |mc _ f=>f.s
 |ab _ f=>f.s
 |hi _ f=>f.s
 |co _ f=>f.s
def ps:Any->AK
 |tk _ f=>f.ps
 |sl _ f=>f.ps
 |cl _ f=>f.ps
 |mc _ f=>f.ps
 |ab _ f=>f.ps
 |hi _ f=>f.ps
 |co _ f=>f.ps
def val (a:Any):Value:= .iface a.ty (.pointer (some ⟨a.lb,0,none⟩))
def At (w0 w:World):Any->Prop
 |tk L f=>Kf.LkS w0 w L f
 |sl L f=>Ks.LkS w0 w L f
 |cl L f=>Kc.LkS w0 w L f
 |mc L f=>Km.LkS w0 w L f
 |ab L f=>Ka.LkS w0 w L f
 |hi L f=>Kh.LkS w0 w L f
 |co L f=>LkS w0 w L f
def lock (t d:Int):Any->Any
 |tk L f=>tk L (f.lock t d)
 |sl L f=>sl L (f.lock t d)
 |cl L f=>cl L (f.lock t d)
 |mc L f=>mc L (f.lock t d)
 |ab L f=>ab L (f.lock t d)
 |hi L f=>hi L (f.lock t d)
 |co L f=>co L (f.lock t d)
def turn (t x:Int):Any->Any
 |tk L f=>tk L (f.turn t x)
 |sl L f=>sl L (f.turn t x)
 |cl L f=>cl L (f.turn t x)
 |mc L f=>mc L (f.turn t x)
 |ab L f=>ab L (f.turn t x)
 |hi L f=>hi L (f.turn t x)
 |co L f=>co L (f.turn t x)
def step (t x:Int):Any->Any
 |tk L f=>tk L (f.step L t t)
 |sl L f=>sl L (f.step L t t)
 |cl L f=>cl L (f.step L t t)
 |mc L f=>mc L (f.step L t t)
 |ab L f=>ab L (f.step L t t x)
 |hi L f=>hi L (f.step L t t)
 |co L f=>co L (f.step L t t)
def did (t x:Int):Any->Dd
 |tk L f=>f.did L t t
 |sl L f=>f.did L t t
 |cl L f=>f.did L t t
 |mc L f=>f.did L t t
 |ab L f=>f.did L t t x
 |hi L f=>f.did L t t
 |co L f=>f.did L t t
def Low (a:Any) (k:Nat):Prop:=k<a.q.k3
def Post (w0 w:World) (a:Any) (v:Value) (e:Ending) (w':World):Prop:=e= .returned v/\a.At w0 w'/\Wr a.Low w w'
section
variable {w0 w w':World} {a:Any}
theorem At.after (h:a.At w0 w) (k:Wr Nil w w'):a.At w0 w':=by
 cases a with
 |tk L f=>exact Kf.LkS.after h k
 |sl L f=>exact Ks.LkS.after h k
 |cl L f=>exact Kc.LkS.after h k
 |mc L f=>exact Km.LkS.after h k
 |ab L f=>exact Ka.LkS.after h k
 |hi L f=>exact Kh.LkS.after h k
 |co L f=>exact LkS.after h k
theorem At.apart {S:Nat->Prop} (h:a.At w0 w) (k:Wr S w w') (hS:∀ b,S b->a.q.k3<=b):a.At w0 w':=by
 cases a with
 |tk L f=>exact Kf.LkS.apart h k hS
 |sl L f=>exact Ks.LkS.apart h k hS
 |cl L f=>exact Kc.LkS.apart h k hS
 |mc L f=>exact Km.LkS.apart h k hS
 |ab L f=>exact Ka.LkS.apart h k hS
 |hi L f=>exact Kh.LkS.apart h k hS
 |co L f=>exact LkS.apart h k hS
theorem At.wr (h:a.At w0 w):Wr Nil w0 w:=by
 cases a with
 |tk L f=>exact Kf.LkS.wr h
 |sl L f=>exact Ks.LkS.wr h
 |cl L f=>exact Kc.LkS.wr h
 |mc L f=>exact Km.LkS.wr h
 |ab L f=>exact Ka.LkS.wr h
 |hi L f=>exact Kh.LkS.wr h
 |co L f=>exact LkS.wr h
theorem At.cell0 (h:a.At w0 w):w.cell? ⟨a.lb,0,none⟩=some (.pointer (some ⟨a.p,0,none⟩)):=by
 cases a with
 |tk L f=>exact Kf.LkS.cell0 h
 |sl L f=>exact Ks.LkS.cell0 h
 |cl L f=>exact Kc.LkS.cell0 h
 |mc L f=>exact Km.LkS.cell0 h
 |ab L f=>exact Ka.LkS.cell0 h
 |hi L f=>exact Kh.LkS.cell0 h
 |co L f=>exact LkS.cell0 h
theorem At.seat (h:a.At w0 w):SeatAt w a.p a.b a.s:=by
 cases a with
 |tk L f=>exact h.lk.raw.seat
 |sl L f=>exact h.lk.raw.seat
 |cl L f=>exact h.lk.raw.seat
 |mc L f=>exact h.lk.raw.seat
 |ab L f=>exact h.lk.raw.seat
 |hi L f=>exact h.lk.raw.seat
 |co L f=>exact h.lk.lk.raw.seat
theorem At.top (h:a.At w0 w):a.q.k3<=w.heap.size:=by
 cases a with
 |tk L f=>exact h.lk.top
 |sl L f=>exact h.lk.top
 |cl L f=>exact h.lk.top
 |mc L f=>exact h.lk.top
 |ab L f=>exact h.lk.top
 |hi L f=>exact h.lk.top
 |co L f=>exact h.lk.lk.top
theorem Rk (h:a.At w0 w) (t d:Int):Calls prog 127 #[.pointer (some ⟨a.p,0,none⟩),.int .i64 t,.int .i64 d] w (Post w0 w (a.lock t d) (.int .i64 (BZ a.s t d))):=by
 cases a with
 |tk L f=>exact Kf.Cr h t d
 |sl L f=>exact Ks.Cr h t d
 |cl L f=>exact Kc.Cr h t d
 |mc L f=>exact Km.Cr h t d
 |ab L f=>exact Ka.Cr h t d
 |hi L f=>exact Kh.Cr h t d
 |co L f=>exact Cr h t d
theorem NG (h:a.At w0 w) (t:Int):Calls prog 131 #[.pointer (some ⟨a.p,0,none⟩),.int .i64 t] w (Post w0 w (a.turn t 3) (.int .i64 (BR a.s t))):=by
 cases a with
 |tk L f=>exact Kf.Bt h t
 |sl L f=>exact Ks.Bt h t
 |cl L f=>exact Kc.Bt h t
 |mc L f=>exact Km.Bt h t
 |ab L f=>exact Ka.Bt h t
 |hi L f=>exact Kh.Bt h t
 |co L f=>exact Bt h t
theorem Rl (h:a.At w0 w) (t x:Int) (hD:a.ps.D.length<4611686018427387904):Calls prog a.DK #[.pointer (some ⟨a.lb,0,none⟩),.int .i64 t,.int .i64 t,.int .i64 x] w (Post w0 w (a.step t x) (a.did t x).val):=by
 cases a with
 |tk L f=>exact Kf.Cs h t t x hD
 |sl L f=>exact Ks.Cs h t t x hD
 |cl L f=>exact Kc.Cs h t t x hD
 |mc L f=>exact Km.Cs h t t x hD
 |ab L f=>exact Ka.Cs h t t x hD
 |hi L f=>exact Kh.Cs h t t x hD
 |co L f=>exact Cs h t t x hD
theorem Jw (h:a.At w0 w) (t:Int):Calls prog 129 #[.pointer (some ⟨a.p,0,none⟩),.int .i64 t] w λe w'=>e= .returned (.int .i64 (a.s.FD t))/\w=w':=De h.seat t
theorem OW (h:a.At w0 w):Calls prog 126 #[.pointer (some ⟨a.p,0,none⟩)] w λe w'=>e= .returned (.int .i64 a.s.n)/\w=w':=YP h.seat
end
theorem Iq (a:Any) (t d:Int):(a.lock t d).ps=a.ps:=by cases a<;>rfl
theorem PW (a:Any) (t x:Int):(a.turn t x).ps=a.ps:=by cases a<;>rfl
end Any
theorem Ks.BM (f:Ks.FL) (L:Ks.Lp) (t u:Int):Ex f.ps (f.step L t u).ps u:=by
 show Ex f.ps (f.mid L t u).ps u;unfold Ks.FL.mid Ks.FL.acq Ks.FL.rel
 repeat' split
 all_goals first|exact .inl rfl|exact .inr ⟨_,_,_,_,rfl⟩
theorem Ka.UW (f:Ka.FL) (L:Ka.Lp) (t:Nat) (u x:Int):Ex f.ps (f.acq L t u x).ps u:=by
 unfold Ka.FL.acq;by_cases p1:f.pc t=1
 ·rw [Qj p1];exact .inr ⟨_,_,_,_,rfl⟩
 rw [Qq p1];by_cases p2:f.pc t=2
 ·rw [Qj p2];exact .inr ⟨_,_,_,_,rfl⟩
 rw [Qq p2];by_cases p3:f.pc t=3
 ·rw [Qj p3];exact .inr ⟨_,_,_,_,rfl⟩
 rw [Qq p3];by_cases p4:f.pc t=4
 ·rw [Qj p4];exact .inr ⟨_,_,_,_,rfl⟩
 rw [Qq p4];by_cases p5:f.pc t=5
 ·rw [Qj p5];exact .inr ⟨_,_,_,_,rfl⟩
 rw [Qq p5];by_cases p6:f.pc t=6
 ·rw [Qj p6];exact .inr ⟨_,_,_,_,rfl⟩
 rw [Qq p6];by_cases p7:f.pc t=7
 ·rw [Qj p7];exact .inr ⟨_,_,_,_,rfl⟩
 rw [Qq p7];exact .inr ⟨_,_,_,_,rfl⟩
theorem Ka.WQ (f:Ka.FL) (L:Ka.Lp) (t:Nat) (u:Int):Ex f.ps (f.rel L t u).ps u:=by
 unfold Ka.FL.rel;by_cases p1:f.pc t=1
 ·rw [Qj p1];exact .inr ⟨_,_,_,_,rfl⟩
 rw [Qq p1];by_cases p2:f.pc t=2
 ·rw [Qj p2];exact .inr ⟨_,_,_,_,rfl⟩
 rw [Qq p2];by_cases p3:f.pc t=3
 ·rw [Qj p3];exact .inr ⟨_,_,_,_,rfl⟩
 rw [Qq p3];by_cases p4:f.pc t=4
 ·rw [Qj p4];exact .inr ⟨_,_,_,_,rfl⟩
 rw [Qq p4];by_cases p5:f.pc t=5
 ·rw [Qj p5];exact .inr ⟨_,_,_,_,rfl⟩
 rw [Qq p5];exact .inr ⟨_,_,_,_,rfl⟩
theorem Ka.BM (f:Ka.FL) (L:Ka.Lp) (t u x:Int):Ex f.ps (f.step L t u x).ps u:=by
 show Ex f.ps (f.mid L t u x).ps u;unfold Ka.FL.mid;split
 ·split
  ·exact Ka.UW f L _ u x
  ·split
   ·exact Ka.WQ f L _ u
   ·exact .inl rfl
 ·exact .inl rfl
theorem Kh.BM (f:Kh.FL) (L:Kh.Lp) (t u:Int):Ex f.ps (f.step L t u).ps u:=by
 show Ex f.ps (f.mid L t u).ps u;unfold Kh.FL.mid Kh.FL.acq Kh.FL.rel
 repeat' split
 all_goals first|exact .inl rfl|exact .inr ⟨_,_,_,_,rfl⟩
theorem Any.BM (a:Any) (t x:Int):Ex a.ps (a.step t x).ps t:=by
 cases a with
 |tk L f=>exact Kf.BM f L t t
 |sl L f=>exact Ks.BM f L t t
 |cl L f=>exact Kc.BM f L t t
 |mc L f=>exact Km.BM f L t t
 |ab L f=>exact Ka.BM f L t t x
 |hi L f=>exact Kh.BM f L t t
 |co L f=>exact f.BM L t t
namespace Any
variable {w:World} {a:Any}
theorem BN (h:w.cell? ⟨a.lb,0,none⟩=some (.pointer (some ⟨a.p,0,none⟩))):(method 362 a.ty (.pointer (some ⟨a.lb,0,none⟩)) "Lock").run prog w= .ok (127,.pointer (some ⟨a.p,0,none⟩)) w:=by
 cases a with
 |tk L f=>exact Kf.BN L.lb ⟨L.p,0,none⟩ w h
 |sl L f=>exact Ks.BN L.lb ⟨L.p,0,none⟩ w h
 |cl L f=>exact Kc.BN L.lb ⟨L.p,0,none⟩ w h
 |mc L f=>exact Km.BN L.lb ⟨L.p,0,none⟩ w h
 |ab L f=>exact Ka.BN L.lb ⟨L.p,0,none⟩ w h
 |hi L f=>exact Kh.BN L.lb ⟨L.p,0,none⟩ w h
 |co L f=>exact _root_.Go.Proofs.YtmnephejhkfchaaGreat.BN L.lb ⟨L.p,0,none⟩ w h
theorem Ar (h:w.cell? ⟨a.lb,0,none⟩=some (.pointer (some ⟨a.p,0,none⟩))):(method 362 a.ty (.pointer (some ⟨a.lb,0,none⟩)) "Unlock").run prog w= .ok (131,.pointer (some ⟨a.p,0,none⟩)) w:=by
 cases a with
 |tk L f=>exact Kf.Ar L.lb ⟨L.p,0,none⟩ w h
 |sl L f=>exact Ks.Ar L.lb ⟨L.p,0,none⟩ w h
 |cl L f=>exact Kc.Ar L.lb ⟨L.p,0,none⟩ w h
 |mc L f=>exact Km.Ar L.lb ⟨L.p,0,none⟩ w h
 |ab L f=>exact Ka.Ar L.lb ⟨L.p,0,none⟩ w h
 |hi L f=>exact Kh.Ar L.lb ⟨L.p,0,none⟩ w h
 |co L f=>exact _root_.Go.Proofs.YtmnephejhkfchaaGreat.Ar L.lb ⟨L.p,0,none⟩ w h
theorem Bc (h:w.cell? ⟨a.lb,0,none⟩=some (.pointer (some ⟨a.p,0,none⟩))):(method 362 a.ty (.pointer (some ⟨a.lb,0,none⟩)) "State").run prog w= .ok (129,.pointer (some ⟨a.p,0,none⟩)) w:=by
 cases a with
 |tk L f=>exact Kf.Bc L.lb ⟨L.p,0,none⟩ w h
 |sl L f=>exact Ks.Bc L.lb ⟨L.p,0,none⟩ w h
 |cl L f=>exact Kc.Bc L.lb ⟨L.p,0,none⟩ w h
 |mc L f=>exact Km.Bc L.lb ⟨L.p,0,none⟩ w h
 |ab L f=>exact Ka.Bc L.lb ⟨L.p,0,none⟩ w h
 |hi L f=>exact Kh.Bc L.lb ⟨L.p,0,none⟩ w h
 |co L f=>exact _root_.Go.Proofs.YtmnephejhkfchaaGreat.Bc L.lb ⟨L.p,0,none⟩ w h
theorem CC (h:w.cell? ⟨a.lb,0,none⟩=some (.pointer (some ⟨a.p,0,none⟩))):(method 362 a.ty (.pointer (some ⟨a.lb,0,none⟩)) "Len").run prog w= .ok (126,.pointer (some ⟨a.p,0,none⟩)) w:=by
 cases a with
 |tk L f=>exact Kf.CC L.lb ⟨L.p,0,none⟩ w h
 |sl L f=>exact Ks.CC L.lb ⟨L.p,0,none⟩ w h
 |cl L f=>exact Kc.CC L.lb ⟨L.p,0,none⟩ w h
 |mc L f=>exact Km.CC L.lb ⟨L.p,0,none⟩ w h
 |ab L f=>exact Ka.CC L.lb ⟨L.p,0,none⟩ w h
 |hi L f=>exact Kh.CC L.lb ⟨L.p,0,none⟩ w h
 |co L f=>exact _root_.Go.Proofs.YtmnephejhkfchaaGreat.CC L.lb ⟨L.p,0,none⟩ w h
theorem BG (a:Any) (w:World):(method 362 a.ty (.pointer (some ⟨a.lb,0,none⟩)) "Step").run prog w= .ok (a.DK,.pointer (some ⟨a.lb,0,none⟩)) w:=by
 cases a with
 |tk L f=>exact Kf.BG ⟨L.lb,0,none⟩ w
 |sl L f=>exact Ks.BG ⟨L.lb,0,none⟩ w
 |cl L f=>exact Kc.BG ⟨L.lb,0,none⟩ w
 |mc L f=>exact Km.BG ⟨L.lb,0,none⟩ w
 |ab L f=>exact Ka.BG ⟨L.lb,0,none⟩ w
 |hi L f=>exact Kh.BG ⟨L.lb,0,none⟩ w
 |co L f=>exact _root_.Go.Proofs.YtmnephejhkfchaaGreat.BG ⟨L.lb,0,none⟩ w
theorem Bh (a:Any) (w:World):(method 362 a.ty (.pointer (some ⟨a.lb,0,none⟩)) "Use").run prog w= .ok (a.Jh,.pointer (some ⟨a.lb,0,none⟩)) w:=by
 cases a with
 |tk L f=>exact Kf.Bh ⟨L.lb,0,none⟩ w
 |sl L f=>exact Ks.Bh ⟨L.lb,0,none⟩ w
 |cl L f=>exact Kc.Bh ⟨L.lb,0,none⟩ w
 |mc L f=>exact Km.Bh ⟨L.lb,0,none⟩ w
 |ab L f=>exact Ka.Bh ⟨L.lb,0,none⟩ w
 |hi L f=>exact Kh.Bh ⟨L.lb,0,none⟩ w
 |co L f=>exact _root_.Go.Proofs.YtmnephejhkfchaaGreat.Bh ⟨L.lb,0,none⟩ w
theorem D2 (a:Any) (w:World):(nilAhead 362 a.ty (.pointer (some ⟨a.lb,0,none⟩)) "Lock").run prog w= .ok (some false) w:=by
 cases a with
 |tk L f=>show (nilAhead 362 78 (.pointer (some ⟨L.lb,0,none⟩)) "Lock").run prog w= .ok (some false) w;kernel_rfl
 |sl L f=>show (nilAhead 362 81 (.pointer (some ⟨L.lb,0,none⟩)) "Lock").run prog w= .ok (some false) w;kernel_rfl
 |cl L f=>show (nilAhead 362 84 (.pointer (some ⟨L.lb,0,none⟩)) "Lock").run prog w= .ok (some false) w;kernel_rfl
 |mc L f=>show (nilAhead 362 87 (.pointer (some ⟨L.lb,0,none⟩)) "Lock").run prog w= .ok (some false) w;kernel_rfl
 |ab L f=>show (nilAhead 362 90 (.pointer (some ⟨L.lb,0,none⟩)) "Lock").run prog w= .ok (some false) w;kernel_rfl
 |hi L f=>show (nilAhead 362 93 (.pointer (some ⟨L.lb,0,none⟩)) "Lock").run prog w= .ok (some false) w;kernel_rfl
 |co L f=>show (nilAhead 362 96 (.pointer (some ⟨L.lb,0,none⟩)) "Lock").run prog w= .ok (some false) w;kernel_rfl
theorem C_ (a:Any) (w:World):(nilAhead 362 a.ty (.pointer (some ⟨a.lb,0,none⟩)) "Unlock").run prog w= .ok (some false) w:=by
 cases a with
 |tk L f=>show (nilAhead 362 78 (.pointer (some ⟨L.lb,0,none⟩)) "Unlock").run prog w= .ok (some false) w;kernel_rfl
 |sl L f=>show (nilAhead 362 81 (.pointer (some ⟨L.lb,0,none⟩)) "Unlock").run prog w= .ok (some false) w;kernel_rfl
 |cl L f=>show (nilAhead 362 84 (.pointer (some ⟨L.lb,0,none⟩)) "Unlock").run prog w= .ok (some false) w;kernel_rfl
 |mc L f=>show (nilAhead 362 87 (.pointer (some ⟨L.lb,0,none⟩)) "Unlock").run prog w= .ok (some false) w;kernel_rfl
 |ab L f=>show (nilAhead 362 90 (.pointer (some ⟨L.lb,0,none⟩)) "Unlock").run prog w= .ok (some false) w;kernel_rfl
 |hi L f=>show (nilAhead 362 93 (.pointer (some ⟨L.lb,0,none⟩)) "Unlock").run prog w= .ok (some false) w;kernel_rfl
 |co L f=>show (nilAhead 362 96 (.pointer (some ⟨L.lb,0,none⟩)) "Unlock").run prog w= .ok (some false) w;kernel_rfl
theorem Ce (a:Any) (w:World):(nilAhead 362 a.ty (.pointer (some ⟨a.lb,0,none⟩)) "Step").run prog w= .ok (some false) w:=by
 cases a with
 |tk L f=>show (nilAhead 362 78 (.pointer (some ⟨L.lb,0,none⟩)) "Step").run prog w= .ok (some false) w;kernel_rfl
 |sl L f=>show (nilAhead 362 81 (.pointer (some ⟨L.lb,0,none⟩)) "Step").run prog w= .ok (some false) w;kernel_rfl
 |cl L f=>show (nilAhead 362 84 (.pointer (some ⟨L.lb,0,none⟩)) "Step").run prog w= .ok (some false) w;kernel_rfl
 |mc L f=>show (nilAhead 362 87 (.pointer (some ⟨L.lb,0,none⟩)) "Step").run prog w= .ok (some false) w;kernel_rfl
 |ab L f=>show (nilAhead 362 90 (.pointer (some ⟨L.lb,0,none⟩)) "Step").run prog w= .ok (some false) w;kernel_rfl
 |hi L f=>show (nilAhead 362 93 (.pointer (some ⟨L.lb,0,none⟩)) "Step").run prog w= .ok (some false) w;kernel_rfl
 |co L f=>show (nilAhead 362 96 (.pointer (some ⟨L.lb,0,none⟩)) "Step").run prog w= .ok (some false) w;kernel_rfl
theorem W3 (a:Any) (w:World):(nilAhead 362 a.ty (.pointer (some ⟨a.lb,0,none⟩)) "Use").run prog w= .ok (some false) w:=by
 cases a with
 |tk L f=>show (nilAhead 362 78 (.pointer (some ⟨L.lb,0,none⟩)) "Use").run prog w= .ok (some false) w;kernel_rfl
 |sl L f=>show (nilAhead 362 81 (.pointer (some ⟨L.lb,0,none⟩)) "Use").run prog w= .ok (some false) w;kernel_rfl
 |cl L f=>show (nilAhead 362 84 (.pointer (some ⟨L.lb,0,none⟩)) "Use").run prog w= .ok (some false) w;kernel_rfl
 |mc L f=>show (nilAhead 362 87 (.pointer (some ⟨L.lb,0,none⟩)) "Use").run prog w= .ok (some false) w;kernel_rfl
 |ab L f=>show (nilAhead 362 90 (.pointer (some ⟨L.lb,0,none⟩)) "Use").run prog w= .ok (some false) w;kernel_rfl
 |hi L f=>show (nilAhead 362 93 (.pointer (some ⟨L.lb,0,none⟩)) "Use").run prog w= .ok (some false) w;kernel_rfl
 |co L f=>show (nilAhead 362 96 (.pointer (some ⟨L.lb,0,none⟩)) "Use").run prog w= .ok (some false) w;kernel_rfl
theorem KB (a:Any) (w:World):(nilAhead 362 a.ty (.pointer (some ⟨a.lb,0,none⟩)) "State").run prog w= .ok (some false) w:=by
 cases a with
 |tk L f=>show (nilAhead 362 78 (.pointer (some ⟨L.lb,0,none⟩)) "State").run prog w= .ok (some false) w;kernel_rfl
 |sl L f=>show (nilAhead 362 81 (.pointer (some ⟨L.lb,0,none⟩)) "State").run prog w= .ok (some false) w;kernel_rfl
 |cl L f=>show (nilAhead 362 84 (.pointer (some ⟨L.lb,0,none⟩)) "State").run prog w= .ok (some false) w;kernel_rfl
 |mc L f=>show (nilAhead 362 87 (.pointer (some ⟨L.lb,0,none⟩)) "State").run prog w= .ok (some false) w;kernel_rfl
 |ab L f=>show (nilAhead 362 90 (.pointer (some ⟨L.lb,0,none⟩)) "State").run prog w= .ok (some false) w;kernel_rfl
 |hi L f=>show (nilAhead 362 93 (.pointer (some ⟨L.lb,0,none⟩)) "State").run prog w= .ok (some false) w;kernel_rfl
 |co L f=>show (nilAhead 362 96 (.pointer (some ⟨L.lb,0,none⟩)) "State").run prog w= .ok (some false) w;kernel_rfl
theorem PA (a:Any) (w:World):(nilAhead 362 a.ty (.pointer (some ⟨a.lb,0,none⟩)) "Len").run prog w= .ok (some false) w:=by
 cases a with
 |tk L f=>show (nilAhead 362 78 (.pointer (some ⟨L.lb,0,none⟩)) "Len").run prog w= .ok (some false) w;kernel_rfl
 |sl L f=>show (nilAhead 362 81 (.pointer (some ⟨L.lb,0,none⟩)) "Len").run prog w= .ok (some false) w;kernel_rfl
 |cl L f=>show (nilAhead 362 84 (.pointer (some ⟨L.lb,0,none⟩)) "Len").run prog w= .ok (some false) w;kernel_rfl
 |mc L f=>show (nilAhead 362 87 (.pointer (some ⟨L.lb,0,none⟩)) "Len").run prog w= .ok (some false) w;kernel_rfl
 |ab L f=>show (nilAhead 362 90 (.pointer (some ⟨L.lb,0,none⟩)) "Len").run prog w= .ok (some false) w;kernel_rfl
 |hi L f=>show (nilAhead 362 93 (.pointer (some ⟨L.lb,0,none⟩)) "Len").run prog w= .ok (some false) w;kernel_rfl
 |co L f=>show (nilAhead 362 96 (.pointer (some ⟨L.lb,0,none⟩)) "Len").run prog w= .ok (some false) w;kernel_rfl
theorem Mu (a:Any) (args:Array Value) (w:World):(callFunc a.DK args).run prog w= .ok (.enter a.DK args) w:=by
 cases a with
 |tk L f=>show (callFunc 130 args).run prog w= .ok (.enter 130 args) w;kernel_rfl
 |sl L f=>show (callFunc 146 args).run prog w= .ok (.enter 146 args) w;kernel_rfl
 |cl L f=>show (callFunc 150 args).run prog w= .ok (.enter 150 args) w;kernel_rfl
 |mc L f=>show (callFunc 160 args).run prog w= .ok (.enter 160 args) w;kernel_rfl
 |ab L f=>show (callFunc 175 args).run prog w= .ok (.enter 175 args) w;kernel_rfl
 |hi L f=>show (callFunc 193 args).run prog w= .ok (.enter 193 args) w;kernel_rfl
 |co L f=>show (callFunc 208 args).run prog w= .ok (.enter 208 args) w;kernel_rfl
theorem OJ (a:Any) (args:Array Value) (w:World):(callFunc a.Jh args).run prog w= .ok (.enter a.Jh args) w:=by
 cases a with
 |tk L f=>show (callFunc 132 args).run prog w= .ok (.enter 132 args) w;kernel_rfl
 |sl L f=>show (callFunc 147 args).run prog w= .ok (.enter 147 args) w;kernel_rfl
 |cl L f=>show (callFunc 151 args).run prog w= .ok (.enter 151 args) w;kernel_rfl
 |mc L f=>show (callFunc 161 args).run prog w= .ok (.enter 161 args) w;kernel_rfl
 |ab L f=>show (callFunc 176 args).run prog w= .ok (.enter 176 args) w;kernel_rfl
 |hi L f=>show (callFunc 194 args).run prog w= .ok (.enter 194 args) w;kernel_rfl
 |co L f=>show (callFunc 209 args).run prog w= .ok (.enter 209 args) w;kernel_rfl
end Any
end Go.Proofs.YtmnephejhkfchaaGreat
