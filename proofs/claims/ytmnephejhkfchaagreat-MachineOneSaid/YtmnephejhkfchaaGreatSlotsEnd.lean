
import Derived.Test.YtmnephejhkfchaaGreatBuVia
import Derived.Test.YtmnephejhkfchaaGreatPack
namespace Go.Proofs.YtmnephejhkfchaaGreat.Ks
open _root_.Go.Proofs.Tryz
open Go.RowKit
set_option linter.unusedVariables false
set_option maxRecDepth 100000
structure FL where
 s:SS
 sz:Nat
 pc:Nat->Int
 own:Nat->Int
 ps:AK
structure Lp where
 lb:Nat
 p:Nat
 b:Nat
 tb:Nat
 a1:Int
 a2:Int
 q:Place
 hs:List Int
def FL.acq (f:FL) (L:Lp) (t:Nat) (u:Int):FL:=
 if f.pc t=0 then {f with pc:=upd f.pc t 1,own:=upd f.own t (A6 f.ps u 5 L.a1%f.sz),ps:=A5 f.ps u 5 L.a1 0 1}
 else if f.pc t=1 then (if A6 f.ps u 1 (L.a2+f.own t)=0 then {f with ps:=A5 f.ps u 1 (L.a2+f.own t) 0 0} else {f with pc:=upd f.pc t 2,ps:=A5 f.ps u 1 (L.a2+f.own t) 0 0})
 else {f with ps:=A5 f.ps u 2 (L.a2+f.own t) 0 0}
def FL.A7 (f:FL) (L:Lp) (t:Nat) (u:Int):Dd:=if f.pc t=0 then ⟨0,true,false,false⟩ else if f.pc t=1 then Dd.no else ⟨1,false,false,false⟩
def FL.rel (f:FL) (L:Lp) (t:Nat) (u:Int):FL:={f with pc:=upd f.pc t 0,own:=upd f.own t 0,ps:=A5 f.ps u 2 (L.a2+(f.own t+1)%f.sz) 0 1}
def FL.mid (f:FL) (L:Lp) (t u:Int):FL:=if 0<=t/\t<f.s.n then (if f.s.st t.toNat=1 then f.acq L t.toNat u else if f.s.st t.toNat=3 then f.rel L t.toNat u else f) else f
def FL.did (f:FL) (L:Lp) (t u:Int):Dd:=if 0<=t/\t<f.s.n then (if f.s.st t.toNat=1 then f.A7 L t.toNat u else if f.s.st t.toNat=3 then ⟨3,false,false,false⟩ else Dd.no) else Dd.no
def FL.step (f:FL) (L:Lp) (t u:Int):FL:={f.mid L t u with s:=f.s.fin t (f.did L t u).ev}
def FL.lock (f:FL) (t d:Int):FL:={f with s:=f.s.lock t d}
def FL.turn (f:FL) (t x:Int):FL:={f with s:=f.s.turn t x}
theorem FL.F3 (f:FL) (L:Lp) (t:Nat) (u:Int):(f.acq L t u).s=f.s:=by unfold FL.acq;repeat' split<;>try rfl
theorem FL.CO (f:FL) (L:Lp) (t u:Int):(f.mid L t u).s=f.s:=zz5b
def Ct (pc own:Nat->Int) (t:Nat):List Value:=[.int .i64 (pc t),.int .i64 (own t)]
theorem Ah (pc own:Nat->Int):∀ x,(Ct pc own x).length=2:=λ_=>rfl
def BS (n:Nat) (pc own:Nat->Int):List Value:=(List.range n).flatMap (Ct pc own)
theorem BB (n:Nat) (pc own:Nat->Int) {k:Nat} (hk:k<n) {j:Nat} (hj:j<2):(BS n pc own)[k*2+j]? =(Ct pc own k)[j]? :=Cb (Ah pc own) _ (by rw [List.getElem?_range hk]) hj
def _root_.Go.Proofs.YtmnephejhkfchaaGreat.SS.ZL (s:SS):Prop:=s.Af=false/\∀ k,s.st k≠4
def _root_.Go.Proofs.YtmnephejhkfchaaGreat.SS.Yt (s s':SS):Prop:=s'.n=s.n/\(s.ZL->s'.ZL)
theorem _root_.Go.Proofs.YtmnephejhkfchaaGreat.SS.Lm {s:SS} (h:s.ZL) (k:Nat) (x d:Int) (hx:x≠4):(s.set k x d).ZL:=zz4x
theorem _root_.Go.Proofs.YtmnephejhkfchaaGreat.SS.Vi (s:SS) (t d:Int):s.Yt (s.lock t d):=by
 refine ⟨s.Bz t d,λh=> ?_⟩;unfold SS.lock;split
 ·exact SS.Lm h _ _ _ (by decide)
 ·exact h
theorem _root_.Go.Proofs.YtmnephejhkfchaaGreat.SS.We (s:SS) (t x:Int) (hx:x≠4):s.Yt (s.turn t x):=by
 refine ⟨s.Bu t x,λh=> ?_⟩;unfold SS.turn;split
 ·exact SS.Lm h _ _ _ hx
 ·exact h
theorem _root_.Go.Proofs.YtmnephejhkfchaaGreat.SS.L_ (s:SS) (t ev:Int):s.Yt (s.fin t ev):=by
 refine ⟨s.Bv t ev,λh=> ?_⟩;unfold SS.fin;split
 ·rename_i y e
  refine SS.Lm h _ _ _ ?_;exact zz4i
 ·exact h
structure FlRaw (w:World) (L:Lp) (pv:Value) (s:SS) (sz:Nat) (pc own:Nat->Int):Prop where
 obj:w.heap[L.lb]? =some (.cells #[.pointer (some ⟨L.p,0,none⟩),pv,.int .i64 L.a1,.int .i64 L.a2,.int .i64 (sz:Nat),.slice (some ⟨L.tb,0,none⟩) s.n s.n] 119 (0,0))
 seat:SeatAt w L.p L.b s
 tick:w.heap[L.tb]? =some (.cells (BS s.n pc own).toArray 240 (0,0))
 ne:L.lb≠L.b/\L.lb≠L.tb/\L.p≠L.tb/\L.b≠L.tb/\L.lb≠L.p
 BP:∀ k,(pc k=0\/pc k=1\/pc k=2)/\0<=own k/\own k<sz
 Fa:Bj sz=true
 CM:0<=L.a2/\L.a2<=2000000
 np:s.ZL
namespace FlRaw
variable {w w':World} {L:Lp} {pv:Value} {s:SS} {sz:Nat} {pc own:Nat->Int}
theorem wrote {S:Nat->Prop} (h:FlRaw w L pv s sz pc own) (k:Wr S w w') (h1:¬ S L.lb) (h2:¬ S L.p) (h3:¬ S L.b) (h4:¬ S L.tb):FlRaw w' L pv s sz pc own:=
 ⟨(k.block _ (A2 h.obj) h1).trans h.obj,h.seat.wrote k h2 h3,(k.block _ (A2 h.tick) h4).trans h.tick,h.ne,h.BP,h.Fa,h.CM,h.np⟩
theorem after (h:FlRaw w L pv s sz pc own) (k:Wr Nil w w'):FlRaw w' L pv s sz pc own:=h.wrote k id id id id
theorem seats {s':SS} (h:FlRaw w L pv s sz pc own) (hS:SeatAt w' L.p L.b s') (hk:s.Yt s') (k:Wr (One L.b) w w'):FlRaw w' L pv s' sz pc own:=by
 have hn:=hk.1;refine ⟨?_,hS,?_,h.ne,h.BP,h.Fa,h.CM,hk.2 h.np⟩
 ·exact zz3o
 ·exact zz3b
theorem cell0 (h:FlRaw w L pv s sz pc own):w.cell? ⟨L.lb,0,none⟩=some (.pointer (some ⟨L.p,0,none⟩)):=by rw [A1 h.obj];rfl
theorem cell1 (h:FlRaw w L pv s sz pc own):w.cell? ⟨L.lb,1,none⟩=some pv:=by rw [A1 h.obj];rfl
theorem AY (h:FlRaw w L pv s sz pc own):w.cell? ⟨L.lb,2,none⟩=some (.int .i64 L.a1):=by rw [A1 h.obj];rfl
theorem AV (h:FlRaw w L pv s sz pc own):w.cell? ⟨L.lb,3,none⟩=some (.int .i64 L.a2):=by rw [A1 h.obj];rfl
theorem Av (h:FlRaw w L pv s sz pc own):w.cell? ⟨L.lb,4,none⟩=some (.int .i64 (sz:Nat)):=by rw [A1 h.obj];rfl
theorem Ob (h:FlRaw w L pv s sz pc own):w.cell? ⟨L.lb,5,none⟩=some (.slice (some ⟨L.tb,0,none⟩) s.n s.n):=by rw [A1 h.obj];rfl
theorem frozen (h:FlRaw w L pv s sz pc own) (k:Nat):w.frozen? ⟨L.lb,k,none⟩=false:=A4 h.obj k
theorem Dw (h:FlRaw w L pv s sz pc own) {k:Nat} (hk:k<s.n):w.cell? ⟨L.tb,k*2,none⟩=some (.int .i64 (pc k)):=by
 rw [A1 h.tick,List.getElem?_toArray];exact BB s.n pc own hk (j:=0) (by decide)
theorem EB (h:FlRaw w L pv s sz pc own) {k:Nat} (hk:k<s.n):w.cell? ⟨L.tb,k*2+1,none⟩=some (.int .i64 (own k)):=by
 rw [A1 h.tick,List.getElem?_toArray];exact BB s.n pc own hk (j:=1) (by decide)
theorem BO (h:FlRaw w L pv s sz pc own) (k:Nat):w.frozen? ⟨L.tb,k,none⟩=false:=A4 h.tick k
theorem IW (h:FlRaw w L pv s sz pc own) {k:Nat} (hk:k<s.n) (x:Int) (hx:x=0\/x=1\/x=2):
  FlRaw (w.setCell ⟨L.tb,k*2,none⟩ (.int .i64 x)) L pv s sz (upd pc k x) own/\Wr (One L.tb) w (w.setCell ⟨L.tb,k*2,none⟩ (.int .i64 x)):=by
 have hW:Wr (One L.tb) w (w.setCell ⟨L.tb,k*2,none⟩ (.int .i64 x)):=(Wr.refl _ w).setCell _ _ λ_=>rfl;refine ⟨⟨(hW.block _ (A2 h.obj) h.ne.2.1).trans h.obj,h.seat.wrote hW h.ne.2.2.1 h.ne.2.2.2.1,?_,h.ne,λj=> ?_,h.Fa,h.CM,h.np⟩,hW⟩
 ·rw [A3 h.tick,List.setIfInBounds_toArray]
  congr 3
  refine Bi (Ah pc own) (Ah _ _) _ k 0 (by decide) _ λi t ht l hl=> ?_;obtain ⟨_,rfl⟩:i<s.n/\t=i:=zzx;exact zz7n
 ·exact zz5p
theorem Mz (h:FlRaw w L pv s sz pc own) {k:Nat} (hk:k<s.n) (y:Int) (hy:0<=y/\y<sz):
  FlRaw (w.setCell ⟨L.tb,k*2+1,none⟩ (.int .i64 y)) L pv s sz pc (upd own k y)/\Wr (One L.tb) w (w.setCell ⟨L.tb,k*2+1,none⟩ (.int .i64 y)):=by
 have hW:Wr (One L.tb) w (w.setCell ⟨L.tb,k*2+1,none⟩ (.int .i64 y)):=(Wr.refl _ w).setCell _ _ λ_=>rfl;refine ⟨⟨(hW.block _ (A2 h.obj) h.ne.2.1).trans h.obj,h.seat.wrote hW h.ne.2.2.1 h.ne.2.2.2.1,?_,h.ne,λj=> ?_,h.Fa,h.CM,h.np⟩,hW⟩
 rotate_left
 ·by_cases e:j=k
  ·subst e;rw [upd_same];exact ⟨(h.BP j).1,hy⟩
  ·rw [A0 _ _ e];exact h.BP j
 rw [A3 h.tick,List.setIfInBounds_toArray]
 congr 3
 refine Bi (Ah pc own) (Ah _ _) _ k 1 (by decide) _ λi t ht l hl=> ?_;obtain ⟨_,rfl⟩:i<s.n/\t=i:=zzx;exact zz7o
theorem Jg (h:FlRaw w L pv s sz pc own) {k:Nat} (hk:k<s.n) (x y:Int) (hx:x=0\/x=1\/x=2) (hy:0<=y/\y<sz):
  FlRaw ((w.setCell ⟨L.tb,k*2,none⟩ (.int .i64 x)).setCell ⟨L.tb,k*2+1,none⟩ (.int .i64 y)) L pv s sz (upd pc k x) (upd own k y)/\Wr (One L.tb) w ((w.setCell ⟨L.tb,k*2,none⟩ (.int .i64 x)).setCell ⟨L.tb,k*2+1,none⟩ (.int .i64 y)):=by
 obtain ⟨h1,Gk⟩:=h.IW hk x hx;obtain ⟨h2,Ba⟩:=h1.Mz hk y hy;exact ⟨h2,Gk.trans Ba λ_ _ x=>x⟩
theorem use (h:FlRaw w L pv s sz pc own) (v:Value):FlRaw (w.setCell ⟨L.lb,1,none⟩ v) L v s sz pc own:=by
 have hW:Wr (One L.lb) w (w.setCell ⟨L.lb,1,none⟩ v):=(Wr.refl _ w).setCell _ _ λ_=>rfl;refine ⟨?_,h.seat.wrote hW (λe=>h.ne.2.2.2.2 e.symm) (λe=>h.ne.1 e.symm),(hW.block _ (A2 h.tick) (λe=>h.ne.2.1 e.symm)).trans h.tick,h.ne,h.BP,h.Fa,h.CM,h.np⟩;rw [A3 h.obj];rfl
theorem place (h:FlRaw w L pv s sz pc own) (q:Place) (hs:List Int):FlRaw w {L with q:=q,hs:=hs} pv s sz pc own:=⟨h.obj,h.seat,h.tick,h.ne,h.BP,h.Fa,h.CM,h.np⟩
theorem O8 (h:FlRaw w L pv s sz pc own):sz=1\/sz=2\/sz=4\/sz=8\/sz=16\/sz=32\/sz=64:=by
 have:=h.Fa;unfold Bj at this;have:=of_decide_eq_true this;omega
end FlRaw
abbrev Ey (w:World) (L:Lp) (pv:Value) (f:FL):Prop:=FlRaw w L pv f.s f.sz f.pc f.own
structure LkAt (w:World) (L:Lp) (f:FL):Prop where
 raw:FlRaw w L (.pointer (some ⟨L.q.p,0,none⟩)) f.s f.sz f.pc f.own
 port:PortAt w L.q L.hs f.ps
 far:L.lb<L.q.k0/\L.p<L.q.k0/\L.b<L.q.k0/\L.tb<L.q.k0
 top:L.q.k3<=w.heap.size
def LF (L:Lp) (k:Nat):Prop:=k=L.b\/k=L.tb\/Bk L.q.k0 L.q.k3 k
namespace LkAt
variable {w w':World} {L:Lp} {f:FL}
theorem wrote {S:Nat->Prop} (h:LkAt w L f) (k:Wr S w w') (h1:¬ S L.lb) (h2:¬ S L.p) (h3:¬ S L.b) (h4:¬ S L.tb) (h5:∀ b,L.q.k0<=b->b<L.q.k3->¬ S b):LkAt w' L f:=
 ⟨h.raw.wrote k h1 h2 h3 h4,h.port.wrote k h5,h.far,Nat.le_trans h.top k.size⟩
theorem after (h:LkAt w L f) (k:Wr Nil w w'):LkAt w' L f:=h.wrote k id id id id λ_ _ _=>id
theorem seats {s':SS} (h:LkAt w L f) (hS:SeatAt w' L.p L.b s') (hn:f.s.Yt s') (k:Wr (One L.b) w w'):LkAt w' L {f with s:=s'}:=
 ⟨h.raw.seats hS hn k,h.port.wrote k λb b1 _ e=>by have:=h.far.2.2.1;cases e;omega,h.far,Nat.le_trans h.top k.size⟩
theorem Ac {ps':AK} (h:LkAt w L f) (hP:PortAt w' L.q L.hs ps') (k:Wr (Bk L.q.k0 L.q.k3) w w'):LkAt w' L {f with ps:=ps'}:=
 ⟨h.raw.wrote k (λe=>by have:=h.far.1;unfold Bk at e;omega) (λe=>by have:=h.far.2.1;unfold Bk at e;omega) (λe=>by have:=h.far.2.2.1;unfold Bk at e;omega) (λe=>by have:=h.far.2.2.2;unfold Bk at e;omega),hP,h.far,Nat.le_trans h.top k.size⟩
theorem My (h:LkAt w L f) {k:Nat} (hk:k<f.s.n) (x y:Int) (hx:x=0\/x=1\/x=2) (hy:0<=y/\y<f.sz):
  LkAt ((w.setCell ⟨L.tb,k*2,none⟩ (.int .i64 x)).setCell ⟨L.tb,k*2+1,none⟩ (.int .i64 y)) L {f with pc:=upd f.pc k x,own:=upd f.own k y}/\Wr (One L.tb) w ((w.setCell ⟨L.tb,k*2,none⟩ (.int .i64 x)).setCell ⟨L.tb,k*2+1,none⟩ (.int .i64 y)):=by
 obtain ⟨h1,hW⟩:=h.raw.Jg hk x y hx hy;exact zz2v
theorem Mx (h:LkAt w L f) {k:Nat} (hk:k<f.s.n) (x:Int) (hx:x=0\/x=1\/x=2):
  LkAt (w.setCell ⟨L.tb,k*2,none⟩ (.int .i64 x)) L {f with pc:=upd f.pc k x}/\Wr (One L.tb) w (w.setCell ⟨L.tb,k*2,none⟩ (.int .i64 x)):=by
 obtain ⟨h1,hW⟩:=h.raw.IW hk x hx;exact zz2v
theorem wf (h:LkAt w L f) (j:Int):0<=BK f.ps.ws j/\BK f.ps.ws j<4294967296:=h.port.mem.Ea j
theorem tell (h:LkAt w L f) (t K a:Int):0<=A6 f.ps t K a/\A6 f.ps t K a<4294967296:=zz2c
end LkAt
def AP (w:World) (L:Lp) (f:FL) (v:Value) (e:Ending) (w':World):Prop:=e= .returned v/\LkAt w' L f/\Wr (LF L) w w'
theorem CH {w w':World} {L:Lp} (k:Wr (One L.b) w w'):Wr (LF L) w w':=k.mono λ_ _ e=> .inl e
theorem BH {w w':World} {L:Lp} (k:Wr (One L.tb) w w'):Wr (LF L) w w':=k.mono λ_ _ e=> .inr (.inl e)
theorem B_ {w w':World} {L:Lp} (k:Wr (Bk L.q.k0 L.q.k3) w w'):Wr (LF L) w w':=k.mono λ_ _ e=> .inr (.inr e)
theorem LkAt.Cz {w:World} {L:Lp} {f:FL} (h:LkAt w L f) {k:Nat} (hk:LF L k):k<w.heap.size:=zz24
def Eh (d:Dd):Array Value:= #[.int .i64 d.ev,.bool d.BW,.bool d.arr,.bool d.lead]
structure Fr (w:World) (B:Nat) (Y:World) (L:Lp) (f:FL):Prop where
 lk:LkAt Y L f
 wr:Wr (LF L) w Y
 res:Y.heap[B]? =some (.cells (Eh Dd.no) 102 (0,0))
 new:w.heap.size<=B
namespace Fr
variable {w X Y:World} {L:Lp} {f f':FL} {B:Nat}
theorem start (h:LkAt w L f):Fr w w.heap.size (w.alloc (.cells #[.int .i64 0,.bool false,.bool false,.bool false] 102)) L f:=
 ⟨h.after ((Wr.refl _ w).alloc _),(Wr.refl _ w).alloc _,Go.Deep.blk_alloc_new w _,Nat.le_refl _⟩
theorem after (h:Fr w B X L f) (k:Wr Nil X Y):Fr w B Y L f:=⟨h.lk.after k,h.wr.trans k λ_ _ e=>e.elim,(k.block _ (A2 h.res) id).trans h.res,h.new⟩
theorem drew (h:Fr w B X L f):Fr w B X.drew L f:=h.after ((Wr.refl _ X).drew)
theorem call {f0:FL} (h0:LkAt w L f') (h:Fr w B X L f) (hl:LkAt Y L f0) (k:Wr (LF L) X Y):Fr w B Y L f0:=
 ⟨hl,h.wr.trans k λ_ _ e=>e,(k.block _ (A2 h.res) (λe=>by have:=h0.Cz e;have:=h.new;omega)).trans h.res,h.new⟩
theorem cell (h:Fr w B X L f):X.cell? ⟨B,0,none⟩=some (.int .i64 0)/\X.cell? ⟨B,1,none⟩=some (.bool false)/\X.cell? ⟨B,2,none⟩=some (.bool false)/\X.cell? ⟨B,3,none⟩=some (.bool false):=zz1z
theorem Am (h:Fr w B X L f):X.frozen? ⟨B,0,none⟩=false/\X.frozen? ⟨B,1,none⟩=false/\X.frozen? ⟨B,2,none⟩=false/\X.frozen? ⟨B,3,none⟩=false:=
 ⟨A4 h.res 0,A4 h.res 1,A4 h.res 2,A4 h.res 3⟩
end Fr
theorem AO {Y:World} {B:Nat} {t:TypeId} {cs:Array Value} (h:Y.heap[B]? =some (.cells cs t (0,0))) (h4:cs.size=4) (x0 x1 x2 x3:Value):
  ((((Y.setCell ⟨B,0,none⟩ x0).setCell ⟨B,1,none⟩ x1).setCell ⟨B,2,none⟩ x2).setCell ⟨B,3,none⟩ x3).heap[B]? =some (.cells #[x0,x1,x2,x3] t (0,0)):=zz1b
theorem C0 (Y:World) (B:Nat) (x0 x1 x2 x3:Value):Wr (One B) Y ((((Y.setCell ⟨B,0,none⟩ x0).setCell ⟨B,1,none⟩ x1).setCell ⟨B,2,none⟩ x2).setCell ⟨B,3,none⟩ x3):=
 ((((Wr.refl (One B) Y).setCell ⟨B,0,none⟩ x0 λ_=>rfl).setCell ⟨B,1,none⟩ x1 λ_=>rfl).setCell ⟨B,2,none⟩ x2 λ_=>rfl).setCell ⟨B,3,none⟩ x3 λ_=>rfl
theorem Fr.told {w Y:World} {L:Lp} {f f0:FL} {B:Nat} (h0:LkAt w L f0) (h:Fr w B Y L f) (d:Dd):
  AP w L f d.val (.returned d.val) ((((Y.setCell ⟨B,0,none⟩ (.int .i64 d.ev)).setCell ⟨B,1,none⟩ (.bool d.BW)).setCell ⟨B,2,none⟩ (.bool d.arr)).setCell ⟨B,3,none⟩ (.bool d.lead)):=zzh
theorem AB:(prog.info? 102).map (·.size)=some 4:=by kernel_rfl
set_option maxHeartbeats 8000000
open Go.RowKit Go.BigFrame
theorem Cu {w:World} {L:Lp} {pv:Value} {s:SS} {sz:Nat} {pc own:Nat->Int} (h:FlRaw w L pv s sz pc own) (a:Addr):
  Calls prog 147 #[.pointer (some ⟨L.lb,0,none⟩),.pointer (some a)] w λe w'=>e= .returned (.tuple #[])/\w'=w.setCell ⟨L.lb,1,none⟩ (.pointer (some a)):=zz1t
theorem LkAt.bd {w:World} {L:Lp} {f:FL} (h:LkAt w L f) (k:Nat):0<=f.own k/\f.own k<f.sz/\1<=f.sz/\f.sz<=64/\0<=L.a2/\L.a2<=2000000:=by
 have:=h.raw.BP k;have:=h.raw.CM;have:=h.raw.O8;omega
theorem GJ {a o:Int} (h0:0<=a) (h1:a<=2000000) (h2:0<=o) (h3:o<64):IntKind.i64.wrap (a+o)=a+o:=by rw [IntKind.wrap_i64];omega
theorem P9 {x:Int} {n:Nat} (h1:1<=n):0<=x%(n:Int)/\x%(n:Int)<n:=⟨Int.emod_nonneg x (by omega),Int.emod_lt_of_pos x (by omega)⟩
theorem ED {w:World} {L:Lp} {f:FL} (h:LkAt w L f) (k:Nat) (hk:k<f.s.n) (u:Int) (hd:f.pc k=0) (hD:f.ps.D.length<4611686018427387904):
  Calls prog 148 #[.pointer (some ⟨L.lb,0,none⟩),.int .i64 (k:Int),.int .i64 u] w (AP w L (f.acq L k u) (f.A7 L k u).val):=by
 have e1:f.acq L k u={f with pc:=upd f.pc k 1,own:=upd f.own k (A6 f.ps u 5 L.a1%f.sz),ps:=A5 f.ps u 5 L.a1 0 1}:=by unfold FL.acq;rw [Qj hd]
 have e2:f.A7 L k u=⟨0,true,false,false⟩:=by unfold FL.A7;rw [Qj hd]
 rw [e1,e2];clear e1 e2;obtain ⟨_,_,s1,s2,_⟩:=h.bd k;have hT0:=h.tell u 5 L.a1;have cS:=λW=>Jc (A6 f.ps u 5 L.a1) f.sz hT0.1 hT0.2 h.raw.Fa W;have hm:=P9 (x:=A6 f.ps u 5 L.a1) s1;have hF:=Fr.start h;obtain ⟨Z,hZ⟩:∃ Z,Z=w.alloc (.cells #[.int .i64 0,.bool false,.bool false,.bool false] 102):=⟨_,rfl⟩
 rw [<-hZ] at hF;have c1:=hF.lk.raw.cell1;have c5:=hF.lk.raw.Ob;have Cy:(k:Int)<f.s.n:=by omega
 have DL:=h.raw.seat.n2;have c2:=hF.lk.raw.AY;have t0:=hF.lk.raw.Dw hk;rw [hd] at t0;have cA:=Mh hF.drew.lk.port u L.a1 1 (by omega) (by omega) hD;have HE:=Qw (Qz h (Qz hk (Qz hF hm)));clear h hF hm hT0;rw [hZ] at t0 c5
 go_in
 go_wp2;rw [<-hZ];clear hZ t0 c5;go_region_held3 (λw'=>w'.cell? ⟨L.lb,1,none⟩=some (.pointer (some ⟨L.q.p,0,none⟩))/\w'.cell? ⟨L.lb,2,none⟩=some (.int .i64 L.a1)) (first|exact ⟨c1,c2⟩|exact ⟨d1,d2⟩) (first|((with_reducible refine cA.mono ?_);intro e w2 hq;unfold AE at hq;obtain ⟨rfl,hP,hW⟩:=hq;have hA:=HE.out.2.2.1.drew.lk.Ac hP hW;have d1:=hA.raw.cell1;have d2:=hA.raw.AY;have d4:=hA.raw.Av;have y0:=hA.raw.Dw HE.out.2.1;have y1:=hA.raw.EB HE.out.2.1;have y2:=hA.raw.BO (k*2);have y3:=hA.raw.BO (k*2+1);have hT:=hA.My HE.out.2.1 1 (A6 f.ps u 5 L.a1%f.sz) (.inr (.inl rfl)) HE.out.2.2.2;have Im:=Fr.call HE.out.1 HE.out.2.2.1.drew hA (B_ hW);have AJ:=Fr.call HE.out.1 Im hT.1 (BH hT.2);obtain ⟨v0,v1,v2,v3⟩:=AJ.cell;obtain ⟨x0,x1,x2,x3⟩:=AJ.Am;have HT:=Qw AJ;clear hA Im AJ hT hP hW))
 go_wp2_with (first|((with_reducible refine (cS _).mono ?_);rintro e w3 ⟨rfl,rfl⟩))
 exact zz11
theorem DT {w:World} {L:Lp} {f:FL} (h:LkAt w L f) (k:Nat) (hk:k<f.s.n) (u:Int) (hd:f.pc k=1) (hD:f.ps.D.length<4611686018427387904):
  Calls prog 148 #[.pointer (some ⟨L.lb,0,none⟩),.int .i64 (k:Int),.int .i64 u] w (AP w L (f.acq L k u) (f.A7 L k u).val):=by
 have e1:f.acq L k u=if A6 f.ps u 1 (L.a2+f.own k)=0 then {f with ps:=A5 f.ps u 1 (L.a2+f.own k) 0 0} else {f with pc:=upd f.pc k 2,ps:=A5 f.ps u 1 (L.a2+f.own k) 0 0}:=by unfold FL.acq;rw [Qq (by omega),Qj hd]
 have e2:f.A7 L k u=Dd.no:=by unfold FL.A7;rw [Qq (by omega),Qj hd]
 rw [e1,e2];clear e1 e2;obtain ⟨o0,o1,s1,s2,a0,a9⟩:=h.bd k;have kK:=GJ a0 a9 o0 (show f.own k<64 by omega);have hF:=Fr.start h;obtain ⟨Z,hZ⟩:∃ Z,Z=w.alloc (.cells #[.int .i64 0,.bool false,.bool false,.bool false] 102):=⟨_,rfl⟩
 rw [<-hZ] at hF;have c1:=hF.lk.raw.cell1;have c5:=hF.lk.raw.Ob;have Cy:(k:Int)<f.s.n:=by omega
 have DL:=h.raw.seat.n2;have c3:=hF.lk.raw.AV;have t0:=hF.lk.raw.Dw hk;have t1:=hF.lk.raw.EB hk;rw [hd] at t0;have cA:=Al hF.drew.lk.port u (L.a2+f.own k) hD;have HE:=Qw (Qz h (Qz hk hF));clear h hF o0 o1 s1 s2 a0 a9;rw [hZ] at t0 c5;obtain ⟨v,hv⟩:∃ v,v=A6 f.ps u 1 (L.a2+f.own k):=⟨_,rfl⟩
 obtain ⟨g,hg⟩:∃ g,g=A5 f.ps u 1 (L.a2+f.own k) 0 0:=⟨_,rfl⟩
 rw [<-hv,<-hg] at cA ⊢;clear hv hg;by_cases hx:v=0
 ·rw [Qj hx]
  have b1:(v != 0)=decide (¬ v=0):=by simp [bne,BEq.beq]
  rw [decide_eq_false (not_not_intro hx)] at b1;clear hx
  go_in
  go_wp2;rw [<-hZ];clear hZ t0 c5;go_region_held3 (λw'=>w'.cell? ⟨L.lb,1,none⟩=some (.pointer (some ⟨L.q.p,0,none⟩))/\w'.cell? ⟨L.lb,3,none⟩=some (.int .i64 L.a2)/\w'.cell? ⟨L.tb,k*2+1,none⟩=some (.int .i64 (f.own k))) (first|exact ⟨c1,c3,t1⟩|exact ⟨d1,d3,y1⟩) (first|((with_reducible refine cA.mono ?_);intro e w2 hq;unfold AE at hq;obtain ⟨rfl,hP,hW⟩:=hq;have hA:=HE.out.2.2.drew.lk.Ac hP hW;have d1:=hA.raw.cell1;have d3:=hA.raw.AV;have y0:=hA.raw.Dw HE.out.2.1;have y1:=hA.raw.EB HE.out.2.1;have y2:=hA.raw.BO (k*2);have AJ:=Fr.call HE.out.1 HE.out.2.2.drew hA (B_ hW);obtain ⟨v0,v1,v2,v3⟩:=AJ.cell;obtain ⟨x0,x1,x2,x3⟩:=AJ.Am;have HT:=Qw AJ;clear hA AJ hP hW))
  go_wp2;exact zz0
 ·rw [Qq hx]
  have b1:(v != 0)=decide (¬ v=0):=by simp [bne,BEq.beq]
  rw [decide_eq_true hx] at b1;clear hx
  go_in
  go_wp2;rw [<-hZ];clear hZ t0 c5;go_region_held3 (λw'=>w'.cell? ⟨L.lb,1,none⟩=some (.pointer (some ⟨L.q.p,0,none⟩))/\w'.cell? ⟨L.lb,3,none⟩=some (.int .i64 L.a2)/\w'.cell? ⟨L.tb,k*2+1,none⟩=some (.int .i64 (f.own k))) (first|exact ⟨c1,c3,t1⟩|exact ⟨d1,d3,y1⟩) (first|((with_reducible refine cA.mono ?_);intro e w2 hq;unfold AE at hq;obtain ⟨rfl,hP,hW⟩:=hq;have hA:=HE.out.2.2.drew.lk.Ac hP hW;have d1:=hA.raw.cell1;have d3:=hA.raw.AV;have y0:=hA.raw.Dw HE.out.2.1;have y1:=hA.raw.EB HE.out.2.1;have y2:=hA.raw.BO (k*2);have AJ:=Fr.call HE.out.1 HE.out.2.2.drew hA (B_ hW);have hT:=hA.Mx HE.out.2.1 2 (.inr (.inr rfl));have Az:=Fr.call HE.out.1 AJ hT.1 (BH hT.2);obtain ⟨v4,v5,v6,v7⟩:=Az.cell;obtain ⟨x4,x5,x6,x7⟩:=Az.Am;have HT:=Qw Az;clear hA AJ Az hT hP hW))
  go_wp2;exact zz0
theorem EE {w:World} {L:Lp} {f:FL} (h:LkAt w L f) (k:Nat) (hk:k<f.s.n) (u:Int) (hd:f.pc k=2) (hD:f.ps.D.length<4611686018427387904):
  Calls prog 148 #[.pointer (some ⟨L.lb,0,none⟩),.int .i64 (k:Int),.int .i64 u] w (AP w L (f.acq L k u) (f.A7 L k u).val):=by
 have e1:f.acq L k u={f with ps:=A5 f.ps u 2 (L.a2+f.own k) 0 0}:=by unfold FL.acq;rw [Qq (by omega),Qq (by omega)]
 have e2:f.A7 L k u=⟨1,false,false,false⟩:=by unfold FL.A7;rw [Qq (by omega),Qq (by omega)]
 rw [e1,e2];clear e1 e2;obtain ⟨o0,o1,s1,s2,a0,a9⟩:=h.bd k;have kK:=GJ a0 a9 o0 (show f.own k<64 by omega);have hF:=Fr.start h;obtain ⟨Z,hZ⟩:∃ Z,Z=w.alloc (.cells #[.int .i64 0,.bool false,.bool false,.bool false] 102):=⟨_,rfl⟩
 rw [<-hZ] at hF;have c1:=hF.lk.raw.cell1;have c5:=hF.lk.raw.Ob;have Cy:(k:Int)<f.s.n:=by omega
 have DL:=h.raw.seat.n2;have c3:=hF.lk.raw.AV;have t0:=hF.lk.raw.Dw hk;have t1:=hF.lk.raw.EB hk;rw [hd] at t0;have cA:=B0 hF.drew.lk.port u (L.a2+f.own k) 0 (by omega) (by omega) hD;have HE:=Qw (Qz h (Qz hk hF));clear h hF o0 o1 s1 s2 a0 a9;rw [hZ] at t0 c5
 go_in
 go_wp2;rw [<-hZ];clear hZ t0 c5;go_region_held3 (λw'=>w'.cell? ⟨L.lb,1,none⟩=some (.pointer (some ⟨L.q.p,0,none⟩))/\w'.cell? ⟨L.lb,3,none⟩=some (.int .i64 L.a2)/\w'.cell? ⟨L.tb,k*2+1,none⟩=some (.int .i64 (f.own k))) (first|exact ⟨c1,c3,t1⟩|exact ⟨d1,d3,y1⟩) (first|((with_reducible refine cA.mono ?_);intro e w2 hq;unfold AE at hq;obtain ⟨rfl,hP,hW⟩:=hq;have hA:=HE.out.2.2.drew.lk.Ac hP hW;have d1:=hA.raw.cell1;have d3:=hA.raw.AV;have y1:=hA.raw.EB HE.out.2.1;have AJ:=Fr.call HE.out.1 HE.out.2.2.drew hA (B_ hW);obtain ⟨v0,v1,v2,v3⟩:=AJ.cell;obtain ⟨x0,x1,x2,x3⟩:=AJ.Am;have HT:=Qw AJ;clear hA AJ hP hW))
 go_wp2;exact zzg
theorem ET {w:World} {L:Lp} {f:FL} (h:LkAt w L f) (k:Nat) (hk:k<f.s.n) (u:Int) (hD:f.ps.D.length<4611686018427387904):
  Calls prog 148 #[.pointer (some ⟨L.lb,0,none⟩),.int .i64 (k:Int),.int .i64 u] w (AP w L (f.acq L k u) (f.A7 L k u).val):=zz53
theorem EU {w:World} {L:Lp} {f:FL} (h:LkAt w L f) (k:Nat) (hk:k<f.s.n) (u:Int) (hD:f.ps.D.length<4611686018427387904):
  Calls prog 149 #[.pointer (some ⟨L.lb,0,none⟩),.int .i64 (k:Int),.int .i64 u] w (AP w L (f.rel L k u) (Dd.val ⟨3,false,false,false⟩)):=by
 unfold FL.rel;obtain ⟨o0,o1,s1,s2,a0,a9⟩:=h.bd k;have mg:f.own k<64:=by omega
 have hm:=P9 (x:=f.own k+1) s1;have cS:=λW=>O_ (f.own k+1) f.sz (by omega) (by omega) h.raw.Fa W;obtain ⟨m,hm0⟩:∃ m,m=(f.own k+1)%(f.sz:Int):=⟨_,rfl⟩
 rw [<-hm0] at cS hm ⊢;have kK:=GJ a0 a9 hm.1 (show m<64 by omega);have nj:IntKind.u32.wrap (f.own k)=f.own k:=by show f.own k%4294967296=f.own k;omega
 have nk:IntKind.u32.wrap (f.own k+1)=f.own k+1:=by show (f.own k+1)%4294967296=f.own k+1;omega
 have hF:=Fr.start h;obtain ⟨Z,hZ⟩:∃ Z,Z=w.alloc (.cells #[.int .i64 0,.bool false,.bool false,.bool false] 102):=⟨_,rfl⟩
 rw [<-hZ] at hF;have c1:=hF.lk.raw.cell1;have c5:=hF.lk.raw.Ob;have Cy:(k:Int)<f.s.n:=by omega
 have DL:=h.raw.seat.n2;have c3:=hF.lk.raw.AV;have c4:=hF.lk.raw.Av;have t1:=hF.lk.raw.EB hk;have HE:=Qw (Qz h (Qz hk (Qz hF (show (0:Int)<=0/\(0:Int)<f.sz by omega))));clear h hF hm0 hm mg o0 o1 s1 s2 a0 a9;rw [hZ] at c5
 go_in
 go_wp2;rw [<-hZ];clear hZ c5;go_big_quiet ((go_at_call 72;(with_reducible exact Calls.quiet_of_same (cS _))))
 generalize hY:Z.drewN _=Y;have Zk:Fr w w.heap.size Y L f:=by rw [<-hY];exact HE.out.2.2.1.after ((Wr.refl _ _).drewN _)
 have e1:=Zk.lk.raw.cell1;have e3:=Zk.lk.raw.AV;have cA:=B0 Zk.drew.lk.port u (L.a2+m) 1 (by omega) (by omega) hD;have HY:=Qw Zk;clear Zk hY c1 c3 c4 t1 cS;go_wp2;go_region_held3 (λw'=>w'.cell? ⟨L.lb,1,none⟩=some (.pointer (some ⟨L.q.p,0,none⟩))/\w'.cell? ⟨L.lb,3,none⟩=some (.int .i64 L.a2)) (first|exact ⟨e1,e3⟩|exact ⟨d1,d3⟩) (first|((with_reducible refine cA.mono ?_);intro e w2 hq;unfold AE at hq;obtain ⟨rfl,hP,hW⟩:=hq;have hA:=HY.out.drew.lk.Ac hP hW;have d1:=hA.raw.cell1;have d3:=hA.raw.AV;have y0:=hA.raw.Dw HE.out.2.1;have y1:=hA.raw.EB HE.out.2.1;have y2:=hA.raw.BO (k*2);have y3:=hA.raw.BO (k*2+1);have AJ:=Fr.call HE.out.1 HY.out.drew hA (B_ hW);have hT:=hA.My HE.out.2.1 0 0 (.inl rfl) HE.out.2.2.2;have Az:=Fr.call HE.out.1 AJ hT.1 (BH hT.2);obtain ⟨v0,v1,v2,v3⟩:=Az.cell;obtain ⟨x0,x1,x2,x3⟩:=Az.Am;have HT:=Qw Az;clear hA AJ Az hT hP hW))
 go_wp2;exact zzc
open _root_.Go.Proofs.Tryz Go.Deep
structure Fd (w:World) (B:Nat) (X:World) (L:Lp) (f:FL) (C:Nat) (d:Dd):Prop where
 fr:Fr w B X L f
 did:X.heap[C]? =some (.cells (Eh d) 102 (0,0))
 far:w.heap.size<=C
 ne:C≠B
theorem Fd.cell {w X:World} {B C:Nat} {L:Lp} {f:FL} {d:Dd} (h:Fd w B X L f C d):X.cell? ⟨C,0,none⟩=some (.int .i64 d.ev)/\X.cell? ⟨C,1,none⟩=some (.bool d.BW)/\X.cell? ⟨C,2,none⟩=some (.bool d.arr)/\X.cell? ⟨C,3,none⟩=some (.bool d.lead):=zz1y
theorem Fd.Am {w X:World} {B C:Nat} {L:Lp} {f:FL} {d:Dd} (h:Fd w B X L f C d):X.frozen? ⟨C,0,none⟩=false/\X.frozen? ⟨C,1,none⟩=false/\X.frozen? ⟨C,2,none⟩=false/\X.frozen? ⟨C,3,none⟩=false:=
 ⟨A4 h.did 0,A4 h.did 1,A4 h.did 2,A4 h.did 3⟩
theorem Fd.call {w X Y:World} {B C:Nat} {L:Lp} {f g f0:FL} {d:Dd} (h0:LkAt w L f0) (h:Fd w B X L f C d) (hl:LkAt Y L g) (k:Wr (LF L) X Y):Fd w B Y L g C d:=
 ⟨Fr.call h0 h.fr hl k,(k.block C (A2 h.did) (λe=>by have:=h0.Cz e;have:=h.far;omega)).trans h.did,h.far,h.ne⟩
theorem Fd.keep {w X:World} {B C:Nat} {L:Lp} {f f0:FL} {d:Dd} (h0:LkAt w L f0) (h:Fd w B X L f C d) (d':Dd):
  Fd w B ((((X.setCell ⟨C,0,none⟩ (.int .i64 d'.ev)).setCell ⟨C,1,none⟩ (.bool d'.BW)).setCell ⟨C,2,none⟩ (.bool d'.arr)).setCell ⟨C,3,none⟩ (.bool d'.lead)) L f C d':=zzd
theorem Fd.ends {w X Y:World} {B C:Nat} {L:Lp} {f g:FL} {d:Dd} (h0:LkAt w L f) (h:Fd w B X L g C d) {s':SS} (hS:SeatAt Y L.p L.b s') (hn:g.s.Yt s') (k:Wr (One L.b) X Y):Fd w B Y L {g with s:=s'} C d:=
 h.call h0 (h.fr.lk.seats hS hn k) (CH k)
theorem C5 {w:World} {L:Lp} {f:FL} (h:LkAt w L f) (cs:Array Value):
  Fd w (w.heap.size+1) (((w.alloc (.cells cs 229)).alloc (.cells #[.int .i64 0,.bool false,.bool false,.bool false] 102)).alloc (.cells #[.int .i64 0,.bool false,.bool false,.bool false] 102)) L f (w.heap.size+1+1) Dd.no/\
  (((w.alloc (.cells cs 229)).alloc (.cells #[.int .i64 0,.bool false,.bool false,.bool false] 102)).alloc (.cells #[.int .i64 0,.bool false,.bool false,.bool false] 102)).heap[w.heap.size]? =some (.cells cs 229 (0,0)):=zz3
theorem Cq {w:World} {L:Lp} {f:FL} (h:LkAt w L f) (t u:Int) (hD:f.ps.D.length<4611686018427387904):
  Calls prog 136 #[.pointer (some ⟨L.p,0,none⟩),.int .i64 t,.int .i64 u,.agg #[Value.func (.func 148) #[.pointer (some ⟨L.lb,0,none⟩)] #[],Value.func (.func 149) #[.pointer (some ⟨L.lb,0,none⟩)] #[],Value.nilFunc]] w (AP w L (f.step L t u) (f.did L t u).val):=by
 obtain ⟨hF,hB⟩:=C5 h #[Value.func (.func 148) #[.pointer (some ⟨L.lb,0,none⟩)] #[],Value.func (.func 149) #[.pointer (some ⟨L.lb,0,none⟩)] #[],Value.nilFunc];obtain ⟨Z,hZ⟩:∃ Z,Z=((w.alloc (.cells #[Value.func (.func 148) #[.pointer (some ⟨L.lb,0,none⟩)] #[],Value.func (.func 149) #[.pointer (some ⟨L.lb,0,none⟩)] #[],Value.nilFunc] 229)).alloc (.cells #[.int .i64 0,.bool false,.bool false,.bool false] 102)).alloc (.cells #[.int .i64 0,.bool false,.bool false,.bool false] 102):=⟨_,rfl⟩
 rw [<-hZ] at hF hB;have b0:Z.cell? ⟨w.heap.size,0,none⟩=some (Value.func (.func 148) #[.pointer (some ⟨L.lb,0,none⟩)] #[]):=(A1 hB 0).trans rfl;have b1:Z.cell? ⟨w.heap.size,1,none⟩=some (Value.func (.func 149) #[.pointer (some ⟨L.lb,0,none⟩)] #[]):=(A1 hB 1).trans rfl;have b2:Z.cell? ⟨w.heap.size,2,none⟩=some (Value.nilFunc):=(A1 hB 2).trans rfl;have cS:=De hF.fr.lk.raw.seat t;obtain ⟨v0,v1,v2,v3⟩:=hF.fr.cell;obtain ⟨x0,x1,x2,x3⟩:=hF.fr.Am;obtain ⟨p0,p1,p2,p3⟩:=hF.cell;have hn:=h.raw.seat.n2;by_cases ht:0<=t/\t<f.s.n
 ·obtain ⟨k,rfl⟩:=Qx ht.1
  have hk:k<f.s.n:=by omega
  have eS:f.s.FD (k:Int)=f.s.st k:=by unfold SS.FD;rw [Qj ht,Int.toNat_natCast]
  rw [eS] at cS;by_cases h1:f.s.st k=1
  ·have e1:f.mid L k u=f.acq L k u:=by unfold FL.mid;rw [Qj ht,Int.toNat_natCast,Qj h1]
   have e2:f.did L k u=f.A7 L k u:=by unfold FL.did;rw [Qj ht,Int.toNat_natCast,Qj h1]
   have es:=f.CO L k u;unfold FL.step;rw [e1] at es;rw [e1,e2];rw [h1] at cS;have cA:=ET hF.fr.lk k hk u hD;generalize f.acq L k u=g at*;generalize f.A7 L k u=d at*;have HE:=Qw (Qz h (Qz hF es));have HZ:=Qw hZ;clear h hF eS e1 e2 hB es hZ h1;generalize f.s.n=n at*
   go_in
   go_wp2_with (first
    |(go_at_call 129;rw [<-HZ.out];(with_reducible refine cS.mono ?_);rintro e w' ⟨rfl,rfl⟩)
    |((with_reducible refine cA.mono ?_);intro e w2 hq;unfold AP at hq;obtain ⟨rfl,hA,hW⟩:=hq;dsimp only [Dd.val];have AJ:=HE.out.2.1.call HE.out.1 hA hW;obtain ⟨p0,p1,p2,p3⟩:=AJ.cell;obtain ⟨y0,y1,y2,y3⟩:=AJ.Am;have hK:=AJ.keep HE.out.1 d;have cE:=Bb hK.fr.lk.raw.seat (k:Int) d.ev;have HK:=Qw hK;clear hA AJ hK hW)
    |((with_reducible refine cE.mono ?_);intro e w3 hq;unfold Ag at hq;obtain ⟨rfl,hS,hW⟩:=hq;have hY:=HK.out.ends HE.out.1 hS (SS.L_ _ _ _) hW;obtain ⟨e0,e1,e2,e3⟩:=hY.cell;obtain ⟨v0,v1,v2,v3⟩:=hY.fr.cell;obtain ⟨x0,x1,x2,x3⟩:=hY.fr.Am;have HT:=Qw hY;clear hY hS hW))
   rw [<-HE.out.2.2];refine bodyPost_ret (v:=Dd.val d) (results_cell_row rfl _ _ (w.heap.size+1) 102 _ (0,0) _ rfl (AO HT.out.fr.res rfl _ _ _ _) underlying102 rfl AB) rfl (HT.out.fr.told HE.out.1 d)
  by_cases h3:f.s.st k=3
  ·have e1:f.mid L k u=f.rel L k u:=by unfold FL.mid;rw [Qj ht,Int.toNat_natCast,Qq h1,Qj h3]
   have e2:f.did L k u=⟨3,false,false,false⟩:=by unfold FL.did;rw [Qj ht,Int.toNat_natCast,Qq h1,Qj h3]
   have es:=f.CO L k u;unfold FL.step;rw [e1] at es;rw [e1,e2];rw [h3] at cS;have cA:=EU hF.fr.lk k hk u hD;generalize f.rel L k u=g at*;have HE:=Qw (Qz h (Qz hF es));have HZ:=Qw hZ;clear h hF eS e1 e2 hB es hZ h1 h3;generalize f.s.n=n at*
   go_in
   go_wp2_with (first
    |(go_at_call 129;rw [<-HZ.out];(with_reducible refine cS.mono ?_);rintro e w' ⟨rfl,rfl⟩)
    |((with_reducible refine cA.mono ?_);intro e w2 hq;unfold AP at hq;obtain ⟨rfl,hA,hW⟩:=hq;dsimp only [Dd.val];have AJ:=HE.out.2.1.call HE.out.1 hA hW;obtain ⟨p0,p1,p2,p3⟩:=AJ.cell;obtain ⟨y0,y1,y2,y3⟩:=AJ.Am;have hK:=AJ.keep HE.out.1 ⟨3,false,false,false⟩;have cE:=Bb hK.fr.lk.raw.seat (k:Int) 3;have HK:=Qw hK;clear hA AJ hK hW)
    |((with_reducible refine cE.mono ?_);intro e w3 hq;unfold Ag at hq;obtain ⟨rfl,hS,hW⟩:=hq;have hY:=HK.out.ends HE.out.1 hS (SS.L_ _ _ _) hW;obtain ⟨e0,e1,e2,e3⟩:=hY.cell;obtain ⟨v0,v1,v2,v3⟩:=hY.fr.cell;obtain ⟨x0,x1,x2,x3⟩:=hY.fr.Am;have HT:=Qw hY;clear hY hS hW))
   exact zz7h
  have h4:¬ f.s.st k=4:=h.raw.np.2 k;have e1:f.mid L k u=f:=by unfold FL.mid;rw [Qj ht,Int.toNat_natCast,Qq h1,Qq h3]
  have e2:f.did L k u=Dd.no:=by unfold FL.did;rw [Qj ht,Int.toNat_natCast,Qq h1,Qq h3]
  have hK:=hF;have cE:=Bb hK.fr.lk.raw.seat (k:Int) Dd.no.ev;have HE:=Qw (Qz h hF);have HK:=Qw hK;have HZ:=Qw hZ;unfold FL.step;rw [e1,e2];clear h hF hK eS e1 e2 hB hZ b0 b1 b2;generalize f.s.st k=x at*;generalize f.s.n=n at*;exact zz7c
 ·have eS:f.s.FD t=0:=Qq ht
  rw [eS] at cS;have e1:f.mid L t u=f:=by unfold FL.mid;rw [Qq ht]
  have e2:f.did L t u=Dd.no:=by unfold FL.did;rw [Qq ht]
  have hK:=hF;have cE:=Bb hK.fr.lk.raw.seat t Dd.no.ev;have HE:=Qw (Qz h hF);have HK:=Qw hK;have HZ:=Qw hZ;unfold FL.step;rw [e1,e2];clear h hF hK eS e1 e2 hB hZ b0 b1 b2 ht;exact zz7c
theorem CB {w:World} {L:Lp} {f:FL} (h:LkAt w L f) (t u x:Int) (hD:f.ps.D.length<4611686018427387904):
  Calls prog 146 #[.pointer (some ⟨L.lb,0,none⟩),.int .i64 t,.int .i64 u,.int .i64 x] w (AP w L (f.step L t u) (f.did L t u).val):=zz6
end Go.Proofs.YtmnephejhkfchaaGreat.Ks
