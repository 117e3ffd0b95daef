
import Derived.Test.YtmnephejhkfchaaGreatBuVia
namespace Go.Proofs.YtmnephejhkfchaaGreat.Kc
open _root_.Go.Proofs.Tryz
open Go.RowKit
set_option linter.unusedVariables false
set_option maxRecDepth 100000
def Ct (pc node AL:Nat->Int) (t:Nat):List Value:=[.int .i64 (pc t),.int .u32 (node t),.int .u32 (AL t)]
theorem Ah (pc node AL:Nat->Int):∀ x,(Ct pc node AL x).length=3:=λ_=>rfl
def BS (n:Nat) (pc node AL:Nat->Int):List Value:=(List.range n).flatMap (Ct pc node AL)
theorem BB (n:Nat) (pc node AL:Nat->Int) {k:Nat} (hk:k<n) {j:Nat} (hj:j<3):(BS n pc node AL)[k*3+j]? =(Ct pc node AL k)[j]? :=Cb (Ah pc node AL) _ (by rw [List.getElem?_range hk]) hj
theorem D3 {n i t:Nat} (ht:(List.range n)[i]? =some t):i<n/\t=i:=zz7e
theorem Hd (n:Nat) (pc node AL:Nat->Int) (k:Nat) (x:Int):(BS n pc node AL).set (k*3) (.int .i64 x)=BS n (upd pc k x) node AL:=by
 refine Bi (Ah pc node AL) (Ah _ _ _) _ k 0 (by decide) _ λi t ht l hl=> ?_;obtain ⟨_,rfl⟩:=D3 ht;have:l=0\/l=1\/l=2:=by omega
 rcases this with rfl|rfl|rfl
 ·exact zz1j
 ·exact zz1m
 ·exact zz1m
theorem He (n:Nat) (pc node AL:Nat->Int) (k:Nat) (x:Int):(BS n pc node AL).set (k*3+1) (.int .u32 x)=BS n pc (upd node k x) AL:=by
 refine Bi (Ah pc node AL) (Ah _ _ _) _ k 1 (by decide) _ λi t ht l hl=> ?_;obtain ⟨_,rfl⟩:=D3 ht;have:l=0\/l=1\/l=2:=by omega
 rcases this with rfl|rfl|rfl
 ·exact zz1m
 ·exact zz1j
 ·exact zz1m
theorem U7 (n:Nat) (pc node AL:Nat->Int) (k:Nat) (x:Int):(BS n pc node AL).set (k*3+2) (.int .u32 x)=BS n pc node (upd AL k x):=by
 refine Bi (Ah pc node AL) (Ah _ _ _) _ k 2 (by decide) _ λi t ht l hl=> ?_;obtain ⟨_,rfl⟩:=D3 ht;have:l=0\/l=1\/l=2:=by omega
 rcases this with rfl|rfl|rfl
 ·exact zz1m
 ·exact zz1m
 ·exact zz1j
structure FlRaw (w:World) (L:Lp) (pv:Value) (s:SS) (pc node AL:Nat->Int):Prop where
 obj:w.heap[L.lb]? =some (.cells #[.pointer (some ⟨L.p,0,none⟩),pv,.int .i64 L.a1,.int .i64 L.a2,.slice (some ⟨L.tb,0,none⟩) s.n s.n] 123 (0,0))
 seat:SeatAt w L.p L.b s
 tick:w.heap[L.tb]? =some (.cells (BS s.n pc node AL).toArray 160 (0,0))
 ne:L.lb≠L.b/\L.lb≠L.tb/\L.p≠L.tb/\L.b≠L.tb/\L.lb≠L.p
 BP:∀ k,(pc k=0\/pc k=1\/pc k=2)/\(0<=node k/\node k<4294967296)/\0<=AL k/\AL k<4294967296
 CM:0<=L.a2/\L.a2<=2000000
namespace FlRaw
variable {w w':World} {L:Lp} {pv:Value} {s:SS} {pc node AL:Nat->Int}
theorem wrote {S:Nat->Prop} (h:FlRaw w L pv s pc node AL) (k:Wr S w w') (h1:¬ S L.lb) (h2:¬ S L.p) (h3:¬ S L.b) (h4:¬ S L.tb):FlRaw w' L pv s pc node AL:=
 ⟨(k.block _ (A2 h.obj) h1).trans h.obj,h.seat.wrote k h2 h3,(k.block _ (A2 h.tick) h4).trans h.tick,h.ne,h.BP,h.CM⟩
theorem after (h:FlRaw w L pv s pc node AL) (k:Wr Nil w w'):FlRaw w' L pv s pc node AL:=h.wrote k id id id id
theorem seats {s':SS} (h:FlRaw w L pv s pc node AL) (hS:SeatAt w' L.p L.b s') (hn:s'.n=s.n) (k:Wr (One L.b) w w'):FlRaw w' L pv s' pc node AL:=by
 refine ⟨?_,hS,?_,h.ne,h.BP,h.CM⟩
 ·exact zz3o
 ·exact zz3b
theorem cell0 (h:FlRaw w L pv s pc node AL):w.cell? ⟨L.lb,0,none⟩=some (.pointer (some ⟨L.p,0,none⟩)):=by rw [A1 h.obj];rfl
theorem cell1 (h:FlRaw w L pv s pc node AL):w.cell? ⟨L.lb,1,none⟩=some pv:=by rw [A1 h.obj];rfl
theorem AY (h:FlRaw w L pv s pc node AL):w.cell? ⟨L.lb,2,none⟩=some (.int .i64 L.a1):=by rw [A1 h.obj];rfl
theorem AV (h:FlRaw w L pv s pc node AL):w.cell? ⟨L.lb,3,none⟩=some (.int .i64 L.a2):=by rw [A1 h.obj];rfl
theorem Av (h:FlRaw w L pv s pc node AL):w.cell? ⟨L.lb,4,none⟩=some (.slice (some ⟨L.tb,0,none⟩) s.n s.n):=by rw [A1 h.obj];rfl
theorem frozen (h:FlRaw w L pv s pc node AL) (k:Nat):w.frozen? ⟨L.lb,k,none⟩=false:=A4 h.obj k
theorem Dw (h:FlRaw w L pv s pc node AL) {k:Nat} (hk:k<s.n):w.cell? ⟨L.tb,k*3,none⟩=some (.int .i64 (pc k)):=by
 rw [A1 h.tick,List.getElem?_toArray];exact BB s.n pc node AL hk (j:=0) (by decide)
theorem EB (h:FlRaw w L pv s pc node AL) {k:Nat} (hk:k<s.n):w.cell? ⟨L.tb,k*3+1,none⟩=some (.int .u32 (node k)):=by
 rw [A1 h.tick,List.getElem?_toArray];exact BB s.n pc node AL hk (j:=1) (by decide)
theorem XN (h:FlRaw w L pv s pc node AL) {k:Nat} (hk:k<s.n):w.cell? ⟨L.tb,k*3+2,none⟩=some (.int .u32 (AL k)):=by
 rw [A1 h.tick,List.getElem?_toArray];exact BB s.n pc node AL hk (j:=2) (by decide)
theorem BO (h:FlRaw w L pv s pc node AL) (k:Nat):w.frozen? ⟨L.tb,k,none⟩=false:=A4 h.tick k
theorem Yb (h:FlRaw w L pv s pc node AL) (j:Nat) (v:Value) {FY Eb Jq:Nat->Int} (hs:(BS s.n pc node AL).set j v=BS s.n FY Eb Jq) (hr:∀ k,(FY k=0\/FY k=1\/FY k=2)/\(0<=Eb k/\Eb k<4294967296)/\0<=Jq k/\Jq k<4294967296):
  FlRaw (w.setCell ⟨L.tb,j,none⟩ v) L pv s FY Eb Jq/\Wr (One L.tb) w (w.setCell ⟨L.tb,j,none⟩ v):=by
 have hW:Wr (One L.tb) w (w.setCell ⟨L.tb,j,none⟩ v):=(Wr.refl _ w).setCell _ _ λ_=>rfl;refine ⟨⟨(hW.block _ (A2 h.obj) h.ne.2.1).trans h.obj,h.seat.wrote hW h.ne.2.2.1 h.ne.2.2.2.1,?_,h.ne,hr,h.CM⟩,hW⟩;rw [A3 h.tick,List.setIfInBounds_toArray,hs]
theorem IW (h:FlRaw w L pv s pc node AL) (k:Nat) (x:Int) (hx:x=0\/x=1\/x=2):
  FlRaw (w.setCell ⟨L.tb,k*3,none⟩ (.int .i64 x)) L pv s (upd pc k x) node AL/\Wr (One L.tb) w (w.setCell ⟨L.tb,k*3,none⟩ (.int .i64 x)):=
 h.Yb _ _ (Hd _ _ _ _ k x) λj=>zz5p
theorem Mz (h:FlRaw w L pv s pc node AL) (k:Nat) (x:Int) (hx:0<=x/\x<4294967296):
  FlRaw (w.setCell ⟨L.tb,k*3+1,none⟩ (.int .u32 x)) L pv s pc (upd node k x) AL/\Wr (One L.tb) w (w.setCell ⟨L.tb,k*3+1,none⟩ (.int .u32 x)):=
 h.Yb _ _ (He _ _ _ _ k x) λj=>by
  by_cases e:j=k
  ·subst e;rw [upd_same];exact ⟨(h.BP j).1,hx,(h.BP j).2.2⟩
  ·rw [A0 _ _ e];exact h.BP j
theorem Jg (h:FlRaw w L pv s pc node AL) (k:Nat) (x:Int) (hx:0<=x/\x<4294967296):
  FlRaw (w.setCell ⟨L.tb,k*3+2,none⟩ (.int .u32 x)) L pv s pc node (upd AL k x)/\Wr (One L.tb) w (w.setCell ⟨L.tb,k*3+2,none⟩ (.int .u32 x)):=
 h.Yb _ _ (U7 _ _ _ _ k x) λj=>by
  by_cases e:j=k
  ·subst e;rw [upd_same];exact ⟨(h.BP j).1,(h.BP j).2.1,hx⟩
  ·rw [A0 _ _ e];exact h.BP j
theorem use (h:FlRaw w L pv s pc node AL) (v:Value):FlRaw (w.setCell ⟨L.lb,1,none⟩ v) L v s pc node AL:=by
 have hW:Wr (One L.lb) w (w.setCell ⟨L.lb,1,none⟩ v):=(Wr.refl _ w).setCell _ _ λ_=>rfl;refine ⟨?_,h.seat.wrote hW (λe=>h.ne.2.2.2.2 e.symm) (λe=>h.ne.1 e.symm),(hW.block _ (A2 h.tick) (λe=>h.ne.2.1 e.symm)).trans h.tick,h.ne,h.BP,h.CM⟩;rw [A3 h.obj];rfl
theorem place (h:FlRaw w L pv s pc node AL) (q:Place) (hs:List Int):FlRaw w {L with q:=q,hs:=hs} pv s pc node AL:=⟨h.obj,h.seat,h.tick,h.ne,h.BP,h.CM⟩
end FlRaw
abbrev Ey (w:World) (L:Lp) (pv:Value) (f:FL):Prop:=FlRaw w L pv f.s f.pc f.node f.AL
structure LkAt (w:World) (L:Lp) (f:FL):Prop where
 raw:FlRaw w L (.pointer (some ⟨L.q.p,0,none⟩)) f.s f.pc f.node f.AL
 port:PortAt w L.q L.hs f.ps
 far:L.lb<L.q.k0/\L.p<L.q.k0/\L.b<L.q.k0/\L.tb<L.q.k0
 top:L.q.k3<=w.heap.size
def LF (L:Lp) (k:Nat):Prop:=k=L.b\/k=L.tb\/Bk L.q.k0 L.q.k3 k
namespace LkAt
variable {w w':World} {L:Lp} {f:FL}
theorem wrote {S:Nat->Prop} (h:LkAt w L f) (k:Wr S w w') (h1:¬ S L.lb) (h2:¬ S L.p) (h3:¬ S L.b) (h4:¬ S L.tb) (h5:∀ b,L.q.k0<=b->b<L.q.k3->¬ S b):LkAt w' L f:=
 ⟨h.raw.wrote k h1 h2 h3 h4,h.port.wrote k h5,h.far,Nat.le_trans h.top k.size⟩
theorem after (h:LkAt w L f) (k:Wr Nil w w'):LkAt w' L f:=h.wrote k id id id id λ_ _ _=>id
theorem seats {s':SS} (h:LkAt w L f) (hS:SeatAt w' L.p L.b s') (hn:s'.n=f.s.n) (k:Wr (One L.b) w w'):LkAt w' L {f with s:=s'}:=
 ⟨h.raw.seats hS hn k,h.port.wrote k λb b1 _ e=>by have:=h.far.2.2.1;cases e;omega,h.far,Nat.le_trans h.top k.size⟩
theorem Ac {ps':AK} (h:LkAt w L f) (hP:PortAt w' L.q L.hs ps') (k:Wr (Bk L.q.k0 L.q.k3) w w'):LkAt w' L {f with ps:=ps'}:=
 ⟨h.raw.wrote k (λe=>by have:=h.far.1;unfold Bk at e;omega) (λe=>by have:=h.far.2.1;unfold Bk at e;omega) (λe=>by have:=h.far.2.2.1;unfold Bk at e;omega) (λe=>by have:=h.far.2.2.2;unfold Bk at e;omega),hP,h.far,Nat.le_trans h.top k.size⟩
theorem turns (h:LkAt w L f) {FY Eb Jq:Nat->Int} (k:FlRaw w' L (.pointer (some ⟨L.q.p,0,none⟩)) f.s FY Eb Jq/\Wr (One L.tb) w w'):
  LkAt w' L {f with pc:=FY,node:=Eb,AL:=Jq}/\Wr (One L.tb) w w':=
 ⟨⟨k.1,h.port.wrote k.2 λb b1 _ e=>by have:=h.far.2.2.2;cases e;omega,h.far,Nat.le_trans h.top k.2.size⟩,k.2⟩
theorem Mx (h:LkAt w L f) (k:Nat) (x:Int) (hx:x=0\/x=1\/x=2):
  LkAt (w.setCell ⟨L.tb,k*3,none⟩ (.int .i64 x)) L {f with pc:=upd f.pc k x}/\Wr (One L.tb) w (w.setCell ⟨L.tb,k*3,none⟩ (.int .i64 x)):=h.turns (h.raw.IW k x hx)
theorem YZ (h:LkAt w L f) (k:Nat) (x y:Int) (hx:x=0\/x=1\/x=2) (hy:0<=y/\y<4294967296):
  LkAt ((w.setCell ⟨L.tb,k*3+2,none⟩ (.int .u32 y)).setCell ⟨L.tb,k*3,none⟩ (.int .i64 x)) L {f with pc:=upd f.pc k x,AL:=upd f.AL k y}/\Wr (One L.tb) w ((w.setCell ⟨L.tb,k*3+2,none⟩ (.int .u32 y)).setCell ⟨L.tb,k*3,none⟩ (.int .i64 x)):=by
 obtain ⟨h1,k1⟩:=h.raw.Jg k y hy;obtain ⟨h2,k2⟩:=h1.IW k x hx;exact h.turns ⟨h2,k1.trans k2 λ_ _ e=>e⟩
theorem dU (h:LkAt w L f) (k:Nat) (x y z:Int) (hx:x=0\/x=1\/x=2) (hy:0<=y/\y<4294967296) (hz:0<=z/\z<4294967296):
  LkAt (((w.setCell ⟨L.tb,k*3,none⟩ (.int .i64 x)).setCell ⟨L.tb,k*3+1,none⟩ (.int .u32 y)).setCell ⟨L.tb,k*3+2,none⟩ (.int .u32 z)) L {f with pc:=upd f.pc k x,node:=upd f.node k y,AL:=upd f.AL k z}/\Wr (One L.tb) w (((w.setCell ⟨L.tb,k*3,none⟩ (.int .i64 x)).setCell ⟨L.tb,k*3+1,none⟩ (.int .u32 y)).setCell ⟨L.tb,k*3+2,none⟩ (.int .u32 z)):=by
 obtain ⟨h1,k1⟩:=h.raw.IW k x hx;obtain ⟨h2,k2⟩:=h1.Mz k y hy;obtain ⟨h3,k3⟩:=h2.Jg k z hz;exact h.turns ⟨h3,(k1.trans k2 λ_ _ e=>e).trans k3 λ_ _ e=>e⟩
theorem wf (h:LkAt w L f) (j:Int):0<=BK f.ps.ws j/\BK f.ps.ws j<4294967296:=h.port.mem.Ea j
theorem tell (h:LkAt w L f) (t K a:Int):0<=A6 f.ps t K a/\A6 f.ps t K a<4294967296:=zz2c
end LkAt
def AP (w:World) (L:Lp) (f:FL) (v:Value) (e:Ending) (w':World):Prop:=e= .returned v/\LkAt w' L f/\Wr (LF L) w w'
theorem CH {w w':World} {L:Lp} (k:Wr (One L.b) w w'):Wr (LF L) w w':=k.mono λ_ _ e=> .inl e
theorem BH {w w':World} {L:Lp} (k:Wr (One L.tb) w w'):Wr (LF L) w w':=k.mono λ_ _ e=> .inr (.inl e)
theorem B_ {w w':World} {L:Lp} (k:Wr (Bk L.q.k0 L.q.k3) w w'):Wr (LF L) w w':=k.mono λ_ _ e=> .inr (.inr e)
theorem LkAt.Cz {w:World} {L:Lp} {f:FL} (h:LkAt w L f) {k:Nat} (hk:LF L k):k<w.heap.size:=zz24
def Eh (d:Dd):Array Value:= #[.int .i64 d.ev,.bool d.BW,.bool d.arr,.bool d.lead]
structure Fr (w:World) (B:Nat) (Y:World) (L:Lp) (f:FL):Prop where
 lk:LkAt Y L f
 wr:Wr (LF L) w Y
 res:Y.heap[B]? =some (.cells (Eh Dd.no) 102 (0,0))
 new:w.heap.size<=B
namespace Fr
variable {w X Y:World} {L:Lp} {f f':FL} {B:Nat}
theorem start (h:LkAt w L f):Fr w w.heap.size (w.alloc (.cells #[.int .i64 0,.bool false,.bool false,.bool false] 102)) L f:=
 ⟨h.after ((Wr.refl _ w).alloc _),(Wr.refl _ w).alloc _,Go.Deep.blk_alloc_new w _,Nat.le_refl _⟩
theorem after (h:Fr w B X L f) (k:Wr Nil X Y):Fr w B Y L f:=⟨h.lk.after k,h.wr.trans k λ_ _ e=>e.elim,(k.block _ (A2 h.res) id).trans h.res,h.new⟩
theorem drew (h:Fr w B X L f):Fr w B X.drew L f:=h.after ((Wr.refl _ X).drew)
theorem call {f0:FL} (h0:LkAt w L f') (h:Fr w B X L f) (hl:LkAt Y L f0) (k:Wr (LF L) X Y):Fr w B Y L f0:=
 ⟨hl,h.wr.trans k λ_ _ e=>e,(k.block _ (A2 h.res) (λe=>by have:=h0.Cz e;have:=h.new;omega)).trans h.res,h.new⟩
theorem cell (h:Fr w B X L f):X.cell? ⟨B,0,none⟩=some (.int .i64 0)/\X.cell? ⟨B,1,none⟩=some (.bool false)/\X.cell? ⟨B,2,none⟩=some (.bool false)/\X.cell? ⟨B,3,none⟩=some (.bool false):=zz1z
theorem Am (h:Fr w B X L f):X.frozen? ⟨B,0,none⟩=false/\X.frozen? ⟨B,1,none⟩=false/\X.frozen? ⟨B,2,none⟩=false/\X.frozen? ⟨B,3,none⟩=false:=
 ⟨A4 h.res 0,A4 h.res 1,A4 h.res 2,A4 h.res 3⟩
end Fr
theorem AO {Y:World} {B:Nat} {t:TypeId} {cs:Array Value} (h:Y.heap[B]? =some (.cells cs t (0,0))) (h4:cs.size=4) (x0 x1 x2 x3:Value):
  ((((Y.setCell ⟨B,0,none⟩ x0).setCell ⟨B,1,none⟩ x1).setCell ⟨B,2,none⟩ x2).setCell ⟨B,3,none⟩ x3).heap[B]? =some (.cells #[x0,x1,x2,x3] t (0,0)):=zz1b
theorem C0 (Y:World) (B:Nat) (x0 x1 x2 x3:Value):Wr (One B) Y ((((Y.setCell ⟨B,0,none⟩ x0).setCell ⟨B,1,none⟩ x1).setCell ⟨B,2,none⟩ x2).setCell ⟨B,3,none⟩ x3):=
 ((((Wr.refl (One B) Y).setCell ⟨B,0,none⟩ x0 λ_=>rfl).setCell ⟨B,1,none⟩ x1 λ_=>rfl).setCell ⟨B,2,none⟩ x2 λ_=>rfl).setCell ⟨B,3,none⟩ x3 λ_=>rfl
theorem Fr.told {w Y:World} {L:Lp} {f f0:FL} {B:Nat} (h0:LkAt w L f0) (h:Fr w B Y L f) (d:Dd):
  AP w L f d.val (.returned d.val) ((((Y.setCell ⟨B,0,none⟩ (.int .i64 d.ev)).setCell ⟨B,1,none⟩ (.bool d.BW)).setCell ⟨B,2,none⟩ (.bool d.arr)).setCell ⟨B,3,none⟩ (.bool d.lead)):=zzh
theorem AB:(prog.info? 102).map (·.size)=some 4:=by kernel_rfl
set_option maxHeartbeats 8000000
open Go.RowKit Go.BigFrame
theorem Cu {w:World} {L:Lp} {pv:Value} {s:SS} {pc node AL:Nat->Int} (h:FlRaw w L pv s pc node AL) (a:Addr):
  Calls prog 151 #[.pointer (some ⟨L.lb,0,none⟩),.pointer (some a)] w λe w'=>e= .returned (.tuple #[])/\w'=w.setCell ⟨L.lb,1,none⟩ (.pointer (some a)):=zz1t
theorem LkAt.bd {w:World} {L:Lp} {f:FL} (h:LkAt w L f) (k:Nat):(0<=f.node k/\f.node k<4294967296)/\(0<=f.AL k/\f.AL k<4294967296)/\0<=L.a2/\L.a2<=2000000:=by
 have:=h.raw.BP k;have:=h.raw.CM;omega
theorem RO {a x:Int} (h0:0<=a) (h1:a<=2000000) (h2:0<=x) (h3:x<4294967296):IntKind.i64.wrap (a+x)=a+x/\IntKind.i64.wrap x=x:=by rw [IntKind.wrap_i64,IntKind.wrap_i64];omega
theorem LH {w:World} {L:Lp} {f:FL} (h:LkAt w L f) (x:Int) (hx:0<=x/\x<4294967296):
  Calls prog 155 #[.pointer (some ⟨L.lb,0,none⟩),.int .u32 x] w λe w'=>e= .returned (.int .i64 (L.a2+x))/\w=w':=by
 have c3:=h.raw.AV;obtain ⟨_,_,a0,a1⟩:=h.bd 0;obtain ⟨w1,w2⟩:=RO a0 a1 hx.1 hx.2;clear h;exact zzo
theorem ED {w:World} {L:Lp} {f:FL} (h:LkAt w L f) (k:Nat) (hk:k<f.s.n) (u:Int) (hd:f.pc k=0) (hD:f.ps.D.length<4611686018427387904):
  Calls prog 152 #[.pointer (some ⟨L.lb,0,none⟩),.int .i64 (k:Int),.int .i64 u] w (AP w L (f.acq L k u) (f.A7 L k u).val):=by
 have e1:f.acq L k u={f with pc:=upd f.pc k 1,ps:=A5 f.ps u 2 (L.a2+f.node k) 0 1}:=by unfold FL.acq;rw [Qj hd]
 have e2:f.A7 L k u=Dd.no:=by unfold FL.A7;rw [Qj hd]
 rw [e1,e2];clear e1 e2;obtain ⟨bn,ba,a0,a1⟩:=h.bd k;have hF:=Fr.start h;obtain ⟨Z,hZ⟩:∃ Z,Z=w.alloc (.cells #[.int .i64 0,.bool false,.bool false,.bool false] 102):=⟨_,rfl⟩
 rw [<-hZ] at hF;have c1:=hF.lk.raw.cell1;have c4:=hF.lk.raw.Av;have t0:=hF.lk.raw.Dw hk;have t1:=hF.lk.raw.EB hk;rw [hd] at t0;have cG:=LH hF.drew.lk (f.node k) bn;have cA:=B0 hF.drew.lk.port u (L.a2+f.node k) 1 (by omega) (by omega) hD;have HE:=Qw (Qz h (Qz hk hF));have Cy:(k:Int)<f.s.n:=by omega
 have DL:=h.raw.seat.n2;clear h hF bn ba a0 a1;rw [hZ] at t0 c4
 go_in
 go_wp2;rw [<-hZ];clear hZ t0 c4;go_region_held3 (λw'=>w'.cell? ⟨L.lb,1,none⟩=some (.pointer (some ⟨L.q.p,0,none⟩))/\w'.cell? ⟨L.tb,k*3+1,none⟩=some (.int .u32 (f.node k))) (first|exact ⟨c1,t1⟩|exact ⟨d1,y1⟩) (first|((with_reducible refine cG.mono ?_);rintro e w' ⟨rfl,rfl⟩)|((with_reducible refine cA.mono ?_);intro e w2 hq;unfold AE at hq;obtain ⟨rfl,hP,hW⟩:=hq;have hA:=HE.out.2.2.drew.lk.Ac hP hW;have d1:=hA.raw.cell1;have d2:=hA.raw.AY;have d4:=hA.raw.Av;have y0:=hA.raw.Dw HE.out.2.1;have y1:=hA.raw.EB HE.out.2.1;have y2:=hA.raw.XN HE.out.2.1;have z0:=hA.raw.BO (k*3);have z1:=hA.raw.BO (k*3+1);have z2:=hA.raw.BO (k*3+2);have AJ:=Fr.call HE.out.1 HE.out.2.2.drew hA (B_ hW);have hT:=hA.Mx k 1 (.inr (.inl rfl));have Az:=Fr.call HE.out.1 AJ hT.1 (BH hT.2);obtain ⟨v0,v1,v2,v3⟩:=Az.cell;obtain ⟨x0,x1,x2,x3⟩:=Az.Am;have HT:=Qw Az;clear hA AJ Az hP hW))
 go_wp2;exact zz0
theorem DT {w:World} {L:Lp} {f:FL} (h:LkAt w L f) (k:Nat) (hk:k<f.s.n) (u:Int) (hd:f.pc k=1) (hD:f.ps.D.length<4611686018427387904):
  Calls prog 152 #[.pointer (some ⟨L.lb,0,none⟩),.int .i64 (k:Int),.int .i64 u] w (AP w L (f.acq L k u) (f.A7 L k u).val):=by
 have e1:f.acq L k u={f with pc:=upd f.pc k 2,AL:=upd f.AL k (A6 f.ps u 3 L.a1),ps:=A5 f.ps u 3 L.a1 0 (f.node k)}:=by unfold FL.acq;rw [Qq (by omega),Qj hd]
 have e2:f.A7 L k u=⟨0,true,false,false⟩:=by unfold FL.A7;rw [Qq (by omega),Qj hd]
 rw [e1,e2];clear e1 e2;obtain ⟨bn,ba,a0,a1⟩:=h.bd k;have hT0:=h.tell u 3 L.a1;have hF:=Fr.start h;obtain ⟨Z,hZ⟩:∃ Z,Z=w.alloc (.cells #[.int .i64 0,.bool false,.bool false,.bool false] 102):=⟨_,rfl⟩
 rw [<-hZ] at hF;have c1:=hF.lk.raw.cell1;have c2:=hF.lk.raw.AY;have c4:=hF.lk.raw.Av;have t0:=hF.lk.raw.Dw hk;have t1:=hF.lk.raw.EB hk;rw [hd] at t0;have cA:=FA hF.drew.lk.port u L.a1 (f.node k) bn.1 bn.2 hD;have EK:=Qw hT0;have HE:=Qw (Qz h (Qz hk hF));have Cy:(k:Int)<f.s.n:=by omega
 have DL:=h.raw.seat.n2;clear h hF bn ba a0 a1 hT0;rw [hZ] at t0 c4
 go_in
 go_wp2;rw [<-hZ];clear hZ t0 c4;go_region_held3 (λw'=>w'.cell? ⟨L.lb,1,none⟩=some (.pointer (some ⟨L.q.p,0,none⟩))/\w'.cell? ⟨L.lb,2,none⟩=some (.int .i64 L.a1)/\w'.cell? ⟨L.tb,k*3+1,none⟩=some (.int .u32 (f.node k))) (first|exact ⟨c1,c2,t1⟩|exact ⟨d1,d2,y1⟩|exact ⟨q1,q2,r1⟩) (first|((with_reducible refine cA.mono ?_);intro e w2 hq;unfold AE at hq;obtain ⟨rfl,hP,hW⟩:=hq;have hA:=HE.out.2.2.drew.lk.Ac hP hW;have d1:=hA.raw.cell1;have d2:=hA.raw.AY;have d4:=hA.raw.Av;have y0:=hA.raw.Dw HE.out.2.1;have y1:=hA.raw.EB HE.out.2.1;have y2:=hA.raw.XN HE.out.2.1;have z0:=hA.raw.BO (k*3);have z1:=hA.raw.BO (k*3+1);have z2:=hA.raw.BO (k*3+2);have AJ:=Fr.call HE.out.1 HE.out.2.2.drew hA (B_ hW);have hB:=hA.turns (hA.raw.Jg k (A6 f.ps u 3 L.a1) EK.out);have q1:=hB.1.raw.cell1;have q2:=hB.1.raw.AY;have r1:=hB.1.raw.EB HE.out.2.1;have r0:=hB.1.raw.Dw HE.out.2.1;have s0:=hB.1.raw.BO (k*3);have hT:=hA.YZ k 2 (A6 f.ps u 3 L.a1) (.inr (.inr rfl)) EK.out;have Az:=Fr.call HE.out.1 AJ hT.1 (BH hT.2);clear hB;obtain ⟨v0,v1,v2,v3⟩:=Az.cell;obtain ⟨x0,x1,x2,x3⟩:=Az.Am;have HT:=Qw Az;clear hA AJ Az hP hW))
 go_wp2;exact zz11
theorem EE {w:World} {L:Lp} {f:FL} (h:LkAt w L f) (k:Nat) (hk:k<f.s.n) (u:Int) (hd:f.pc k=2) (hD:f.ps.D.length<4611686018427387904):
  Calls prog 152 #[.pointer (some ⟨L.lb,0,none⟩),.int .i64 (k:Int),.int .i64 u] w (AP w L (f.acq L k u) (f.A7 L k u).val):=by
 have e1:f.acq L k u={f with ps:=A5 f.ps u 1 (L.a2+f.AL k) 0 0}:=by unfold FL.acq;rw [Qq (by omega),Qq (by omega)]
 have e2:f.A7 L k u=if A6 f.ps u 1 (L.a2+f.AL k)=0 then ⟨1,false,false,false⟩ else Dd.no:=by unfold FL.A7;rw [Qq (by omega),Qq (by omega)]
 rw [e1,e2];clear e1 e2;obtain ⟨bn,ba,a0,a1⟩:=h.bd k;have hF:=Fr.start h;obtain ⟨Z,hZ⟩:∃ Z,Z=w.alloc (.cells #[.int .i64 0,.bool false,.bool false,.bool false] 102):=⟨_,rfl⟩
 rw [<-hZ] at hF;have c1:=hF.lk.raw.cell1;have c4:=hF.lk.raw.Av;have t0:=hF.lk.raw.Dw hk;have t2:=hF.lk.raw.XN hk;rw [hd] at t0;have cG:=LH hF.drew.lk (f.AL k) ba;have cA:=Al hF.drew.lk.port u (L.a2+f.AL k) hD;obtain ⟨v,hv⟩:∃ v,v=A6 f.ps u 1 (L.a2+f.AL k):=⟨_,rfl⟩
 rw [<-hv] at cA ⊢;have HE:=Qw (Qz h (Qz hk hF));have Cy:(k:Int)<f.s.n:=by omega
 have DL:=h.raw.seat.n2;clear h hF bn ba a0 a1 hv;rw [hZ] at t0 c4;by_cases hx:v=0
 ·rw [Qj hx]
  subst hx
  go_in
  go_wp2;rw [<-hZ];clear hZ t0 c4;go_region_held3 (λw'=>w'.cell? ⟨L.lb,1,none⟩=some (.pointer (some ⟨L.q.p,0,none⟩))/\w'.cell? ⟨L.tb,k*3+2,none⟩=some (.int .u32 (f.AL k))) (first|exact ⟨c1,t2⟩|exact ⟨d1,y2⟩) (first|((with_reducible refine cG.mono ?_);rintro e w' ⟨rfl,rfl⟩)|((with_reducible refine cA.mono ?_);intro e w2 hq;unfold AE at hq;obtain ⟨rfl,hP,hW⟩:=hq;have hA:=HE.out.2.2.drew.lk.Ac hP hW;have d1:=hA.raw.cell1;have d2:=hA.raw.AY;have d4:=hA.raw.Av;have y0:=hA.raw.Dw HE.out.2.1;have y1:=hA.raw.EB HE.out.2.1;have y2:=hA.raw.XN HE.out.2.1;have z0:=hA.raw.BO (k*3);have z1:=hA.raw.BO (k*3+1);have z2:=hA.raw.BO (k*3+2);have AJ:=Fr.call HE.out.1 HE.out.2.2.drew hA (B_ hW);obtain ⟨v0,v1,v2,v3⟩:=AJ.cell;obtain ⟨x0,x1,x2,x3⟩:=AJ.Am;have HT:=Qw AJ;clear hA AJ hP hW))
  go_wp2;exact zzg
 ·rw [Qq hx]
  have b1:(v==0)=false:=beq_false_of_ne hx;clear hx
  go_in
  go_wp2;rw [<-hZ];clear hZ t0 c4;go_region_held3 (λw'=>w'.cell? ⟨L.lb,1,none⟩=some (.pointer (some ⟨L.q.p,0,none⟩))/\w'.cell? ⟨L.tb,k*3+2,none⟩=some (.int .u32 (f.AL k))) (first|exact ⟨c1,t2⟩|exact ⟨d1,y2⟩) (first|((with_reducible refine cG.mono ?_);rintro e w' ⟨rfl,rfl⟩)|((with_reducible refine cA.mono ?_);intro e w2 hq;unfold AE at hq;obtain ⟨rfl,hP,hW⟩:=hq;have hA:=HE.out.2.2.drew.lk.Ac hP hW;have d1:=hA.raw.cell1;have d2:=hA.raw.AY;have d4:=hA.raw.Av;have y0:=hA.raw.Dw HE.out.2.1;have y1:=hA.raw.EB HE.out.2.1;have y2:=hA.raw.XN HE.out.2.1;have z0:=hA.raw.BO (k*3);have z1:=hA.raw.BO (k*3+1);have z2:=hA.raw.BO (k*3+2);have AJ:=Fr.call HE.out.1 HE.out.2.2.drew hA (B_ hW);obtain ⟨v0,v1,v2,v3⟩:=AJ.cell;obtain ⟨x0,x1,x2,x3⟩:=AJ.Am;have HT:=Qw AJ;clear hA AJ hP hW))
  go_wp2;exact zz0
theorem ET {w:World} {L:Lp} {f:FL} (h:LkAt w L f) (k:Nat) (hk:k<f.s.n) (u:Int) (hD:f.ps.D.length<4611686018427387904):
  Calls prog 152 #[.pointer (some ⟨L.lb,0,none⟩),.int .i64 (k:Int),.int .i64 u] w (AP w L (f.acq L k u) (f.A7 L k u).val):=zz53
theorem EU {w:World} {L:Lp} {f:FL} (h:LkAt w L f) (k:Nat) (hk:k<f.s.n) (u:Int) (hD:f.ps.D.length<4611686018427387904):
  Calls prog 153 #[.pointer (some ⟨L.lb,0,none⟩),.int .i64 (k:Int),.int .i64 u] w (AP w L (f.rel L k u) (Dd.val ⟨3,false,false,false⟩)):=by
 unfold FL.rel;obtain ⟨bn,ba,a0,a1⟩:=h.bd k;have hF:=Fr.start h;obtain ⟨Z,hZ⟩:∃ Z,Z=w.alloc (.cells #[.int .i64 0,.bool false,.bool false,.bool false] 102):=⟨_,rfl⟩
 rw [<-hZ] at hF;have c1:=hF.lk.raw.cell1;have c4:=hF.lk.raw.Av;have t1:=hF.lk.raw.EB hk;have cG:=LH hF.drew.lk (f.node k) bn;have cA:=B0 hF.drew.lk.port u (L.a2+f.node k) 0 (by omega) (by omega) hD;have HB:=Qw ba;have HE:=Qw (Qz h (Qz hk hF));have Cy:(k:Int)<f.s.n:=by omega
 have DL:=h.raw.seat.n2;clear h hF bn ba a0 a1;rw [hZ] at c4
 go_in
 go_wp2;rw [<-hZ];clear hZ c4;go_region_held3 (λw'=>w'.cell? ⟨L.lb,1,none⟩=some (.pointer (some ⟨L.q.p,0,none⟩))/\w'.cell? ⟨L.tb,k*3+1,none⟩=some (.int .u32 (f.node k))) (first|exact ⟨c1,t1⟩|exact ⟨d1,y1⟩) (first|((with_reducible refine cG.mono ?_);rintro e w' ⟨rfl,rfl⟩)|((with_reducible refine cA.mono ?_);intro e w2 hq;unfold AE at hq;obtain ⟨rfl,hP,hW⟩:=hq;have hA:=HE.out.2.2.drew.lk.Ac hP hW;have d1:=hA.raw.cell1;have d2:=hA.raw.AY;have d4:=hA.raw.Av;have y0:=hA.raw.Dw HE.out.2.1;have y1:=hA.raw.EB HE.out.2.1;have y2:=hA.raw.XN HE.out.2.1;have z0:=hA.raw.BO (k*3);have z1:=hA.raw.BO (k*3+1);have z2:=hA.raw.BO (k*3+2);have AJ:=Fr.call HE.out.1 HE.out.2.2.drew hA (B_ hW);have hT:=hA.dU k 0 (f.AL k) 0 (.inl rfl) HB.out (by decide);have Az:=Fr.call HE.out.1 AJ hT.1 (BH hT.2);obtain ⟨v0,v1,v2,v3⟩:=Az.cell;obtain ⟨x0,x1,x2,x3⟩:=Az.Am;have HT:=Qw Az;clear hA AJ Az hP hW))
 go_wp2;exact zzc
theorem J7 {w:World} {L:Lp} {f:FL} (h:LkAt w L f) (k:Nat) (hk:k<f.s.n) (u:Int) (hD:f.ps.D.length<4611686018427387904):
  Calls prog 154 #[.pointer (some ⟨L.lb,0,none⟩),.int .i64 (k:Int),.int .i64 u] w (AP w L (f.ask L k u) (f.CW L k u).val):=by
 unfold FL.ask FL.CW;obtain ⟨bn,ba,a0,a1⟩:=h.bd k;have hF:=Fr.start h;obtain ⟨Z,hZ⟩:∃ Z,Z=w.alloc (.cells #[.int .i64 0,.bool false,.bool false,.bool false] 102):=⟨_,rfl⟩
 rw [<-hZ] at hF;have c1:=hF.lk.raw.cell1;have c2:=hF.lk.raw.AY;have c4:=hF.lk.raw.Av;have t1:=hF.lk.raw.EB hk;have cA:=Al hF.drew.lk.port u L.a1 hD;obtain ⟨v,hv⟩:∃ v,v=A6 f.ps u 1 L.a1:=⟨_,rfl⟩
 rw [<-hv] at cA ⊢;have HE:=Qw (Qz h (Qz hk hF));have Cy:(k:Int)<f.s.n:=by omega
 have DL:=h.raw.seat.n2;clear h hF bn ba a0 a1 hv;by_cases hx:v=f.node k
 ·rw [Qj hx]
  have b1:(v != f.node k)=false:=by rw [hx];simp
  clear hx
  go_in
  go_wp2;rw [<-hZ];clear hZ;go_region_held3 (λw'=>w'.cell? ⟨L.lb,1,none⟩=some (.pointer (some ⟨L.q.p,0,none⟩))/\w'.cell? ⟨L.lb,2,none⟩=some (.int .i64 L.a1)/\w'.cell? ⟨L.lb,4,none⟩=some (.slice (some ⟨L.tb,0,none⟩) f.s.n f.s.n)/\w'.cell? ⟨L.tb,k*3+1,none⟩=some (.int .u32 (f.node k))) (first|exact ⟨c1,c2,c4,t1⟩|exact ⟨d1,d2,d4,y1⟩) (first|((with_reducible refine cA.mono ?_);intro e w2 hq;unfold AE at hq;obtain ⟨rfl,hP,hW⟩:=hq;have hA:=HE.out.2.2.drew.lk.Ac hP hW;have d1:=hA.raw.cell1;have d2:=hA.raw.AY;have d4:=hA.raw.Av;have y0:=hA.raw.Dw HE.out.2.1;have y1:=hA.raw.EB HE.out.2.1;have y2:=hA.raw.XN HE.out.2.1;have z0:=hA.raw.BO (k*3);have z1:=hA.raw.BO (k*3+1);have z2:=hA.raw.BO (k*3+2);have AJ:=Fr.call HE.out.1 HE.out.2.2.drew hA (B_ hW);obtain ⟨v0,v1,v2,v3⟩:=AJ.cell;obtain ⟨x0,x1,x2,x3⟩:=AJ.Am;have HT:=Qw AJ;clear hA AJ hP hW))
  exact zz2y
 ·rw [Qq hx]
  have b1:(v != f.node k)=true:=by simpa [bne,BEq.beq] using hx
  clear hx
  go_in
  go_wp2;rw [<-hZ];clear hZ;go_region_held3 (λw'=>w'.cell? ⟨L.lb,1,none⟩=some (.pointer (some ⟨L.q.p,0,none⟩))/\w'.cell? ⟨L.lb,2,none⟩=some (.int .i64 L.a1)/\w'.cell? ⟨L.lb,4,none⟩=some (.slice (some ⟨L.tb,0,none⟩) f.s.n f.s.n)/\w'.cell? ⟨L.tb,k*3+1,none⟩=some (.int .u32 (f.node k))) (first|exact ⟨c1,c2,c4,t1⟩|exact ⟨d1,d2,d4,y1⟩) (first|((with_reducible refine cA.mono ?_);intro e w2 hq;unfold AE at hq;obtain ⟨rfl,hP,hW⟩:=hq;have hA:=HE.out.2.2.drew.lk.Ac hP hW;have d1:=hA.raw.cell1;have d2:=hA.raw.AY;have d4:=hA.raw.Av;have y0:=hA.raw.Dw HE.out.2.1;have y1:=hA.raw.EB HE.out.2.1;have y2:=hA.raw.XN HE.out.2.1;have z0:=hA.raw.BO (k*3);have z1:=hA.raw.BO (k*3+1);have z2:=hA.raw.BO (k*3+2);have AJ:=Fr.call HE.out.1 HE.out.2.2.drew hA (B_ hW);obtain ⟨v0,v1,v2,v3⟩:=AJ.cell;obtain ⟨x0,x1,x2,x3⟩:=AJ.Am;have HT:=Qw AJ;clear hA AJ hP hW))
  exact zz2z
open _root_.Go.Proofs.Tryz Go.Deep
structure Fd (w:World) (B:Nat) (X:World) (L:Lp) (f:FL) (C:Nat) (d:Dd):Prop where
 fr:Fr w B X L f
 did:X.heap[C]? =some (.cells (Eh d) 102 (0,0))
 far:w.heap.size<=C
 ne:C≠B
theorem Fd.cell {w X:World} {B C:Nat} {L:Lp} {f:FL} {d:Dd} (h:Fd w B X L f C d):X.cell? ⟨C,0,none⟩=some (.int .i64 d.ev)/\X.cell? ⟨C,1,none⟩=some (.bool d.BW)/\X.cell? ⟨C,2,none⟩=some (.bool d.arr)/\X.cell? ⟨C,3,none⟩=some (.bool d.lead):=zz1y
theorem Fd.Am {w X:World} {B C:Nat} {L:Lp} {f:FL} {d:Dd} (h:Fd w B X L f C d):X.frozen? ⟨C,0,none⟩=false/\X.frozen? ⟨C,1,none⟩=false/\X.frozen? ⟨C,2,none⟩=false/\X.frozen? ⟨C,3,none⟩=false:=
 ⟨A4 h.did 0,A4 h.did 1,A4 h.did 2,A4 h.did 3⟩
theorem Fd.call {w X Y:World} {B C:Nat} {L:Lp} {f g f0:FL} {d:Dd} (h0:LkAt w L f0) (h:Fd w B X L f C d) (hl:LkAt Y L g) (k:Wr (LF L) X Y):Fd w B Y L g C d:=
 ⟨Fr.call h0 h.fr hl k,(k.block C (A2 h.did) (λe=>by have:=h0.Cz e;have:=h.far;omega)).trans h.did,h.far,h.ne⟩
theorem Fd.keep {w X:World} {B C:Nat} {L:Lp} {f f0:FL} {d:Dd} (h0:LkAt w L f0) (h:Fd w B X L f C d) (d':Dd):
  Fd w B ((((X.setCell ⟨C,0,none⟩ (.int .i64 d'.ev)).setCell ⟨C,1,none⟩ (.bool d'.BW)).setCell ⟨C,2,none⟩ (.bool d'.arr)).setCell ⟨C,3,none⟩ (.bool d'.lead)) L f C d':=zzd
theorem Fd.ends {w X Y:World} {B C:Nat} {L:Lp} {f g:FL} {d:Dd} (h0:LkAt w L f) (h:Fd w B X L g C d) {s':SS} (hS:SeatAt Y L.p L.b s') (hn:s'.n=g.s.n) (k:Wr (One L.b) X Y):Fd w B Y L {g with s:=s'} C d:=
 h.call h0 (h.fr.lk.seats hS hn k) (CH k)
theorem C5 {w:World} {L:Lp} {f:FL} (h:LkAt w L f) (cs:Array Value):
  Fd w (w.heap.size+1) (((w.alloc (.cells cs 229)).alloc (.cells #[.int .i64 0,.bool false,.bool false,.bool false] 102)).alloc (.cells #[.int .i64 0,.bool false,.bool false,.bool false] 102)) L f (w.heap.size+1+1) Dd.no/\
  (((w.alloc (.cells cs 229)).alloc (.cells #[.int .i64 0,.bool false,.bool false,.bool false] 102)).alloc (.cells #[.int .i64 0,.bool false,.bool false,.bool false] 102)).heap[w.heap.size]? =some (.cells cs 229 (0,0)):=zz3
theorem Cq {w:World} {L:Lp} {f:FL} (h:LkAt w L f) (t u:Int) (hD:f.ps.D.length<4611686018427387904):
  Calls prog 136 #[.pointer (some ⟨L.p,0,none⟩),.int .i64 t,.int .i64 u,.agg #[Value.func (.func 152) #[.pointer (some ⟨L.lb,0,none⟩)] #[],Value.func (.func 153) #[.pointer (some ⟨L.lb,0,none⟩)] #[],Value.func (.func 154) #[.pointer (some ⟨L.lb,0,none⟩)] #[]]] w (AP w L (f.step L t u) (f.did L t u).val):=by
 obtain ⟨hF,hB⟩:=C5 h #[Value.func (.func 152) #[.pointer (some ⟨L.lb,0,none⟩)] #[],Value.func (.func 153) #[.pointer (some ⟨L.lb,0,none⟩)] #[],Value.func (.func 154) #[.pointer (some ⟨L.lb,0,none⟩)] #[]];obtain ⟨Z,hZ⟩:∃ Z,Z=((w.alloc (.cells #[Value.func (.func 152) #[.pointer (some ⟨L.lb,0,none⟩)] #[],Value.func (.func 153) #[.pointer (some ⟨L.lb,0,none⟩)] #[],Value.func (.func 154) #[.pointer (some ⟨L.lb,0,none⟩)] #[]] 229)).alloc (.cells #[.int .i64 0,.bool false,.bool false,.bool false] 102)).alloc (.cells #[.int .i64 0,.bool false,.bool false,.bool false] 102):=⟨_,rfl⟩
 rw [<-hZ] at hF hB;have b0:Z.cell? ⟨w.heap.size,0,none⟩=some (Value.func (.func 152) #[.pointer (some ⟨L.lb,0,none⟩)] #[]):=(A1 hB 0).trans rfl;have b1:Z.cell? ⟨w.heap.size,1,none⟩=some (Value.func (.func 153) #[.pointer (some ⟨L.lb,0,none⟩)] #[]):=(A1 hB 1).trans rfl;have b2:Z.cell? ⟨w.heap.size,2,none⟩=some (Value.func (.func 154) #[.pointer (some ⟨L.lb,0,none⟩)] #[]):=(A1 hB 2).trans rfl;exact zz1
theorem CB {w:World} {L:Lp} {f:FL} (h:LkAt w L f) (t u x:Int) (hD:f.ps.D.length<4611686018427387904):
  Calls prog 150 #[.pointer (some ⟨L.lb,0,none⟩),.int .i64 t,.int .i64 u,.int .i64 x] w (AP w L (f.step L t u) (f.did L t u).val):=zz6
end Go.Proofs.YtmnephejhkfchaaGreat.Kc
