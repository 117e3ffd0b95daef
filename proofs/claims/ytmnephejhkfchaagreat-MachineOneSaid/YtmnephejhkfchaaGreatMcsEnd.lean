
import Derived.Test.YtmnephejhkfchaaGreatBuVia
namespace Go.Proofs.YtmnephejhkfchaaGreat.Km
open _root_.Go.Proofs.Tryz
open Go.RowKit
set_option linter.unusedVariables false
set_option maxRecDepth 100000
def _root_.Go.Proofs.YtmnephejhkfchaaGreat.SS.Kp (s s':SS) (pc:Nat->Int):Prop:=s'.n=s.n/\∀ k,s'.st k≠1->s.st k≠1\/pc k=0
theorem _root_.Go.Proofs.YtmnephejhkfchaaGreat.SS.TC (s:SS) (t d:Int) (pc:Nat->Int):s.Kp (s.lock t d) pc:=by
 refine ⟨s.Bz t d,λk hk=> .inl ?_⟩;unfold SS.lock at hk;split at hk
 ·by_cases e:k=t.toNat
  ·subst e;exact absurd (upd_same _ _ _) hk
  ·exact λq=>hk ((A0 _ _ e).trans q)
 ·exact hk
theorem _root_.Go.Proofs.YtmnephejhkfchaaGreat.SS.OH (s:SS) (t x:Int) (pc:Nat->Int):s.Kp (s.turn t x) pc:=by
 refine ⟨s.Bu t x,λk hk=> .inl ?_⟩;unfold SS.turn at hk;split at hk
 ·rename_i ht
  by_cases e:k=t.toNat
  ·subst e
   unfold BR at ht;intro q;rw [q] at ht
   repeat' split at ht
   all_goals omega
  ·exact λq=>hk ((A0 _ _ e).trans q)
 ·exact hk
theorem _root_.Go.Proofs.YtmnephejhkfchaaGreat.SS.MG (s:SS) (t ev:Int) (pc:Nat->Int) (h:∀ k:Nat,(k:Int)=t->s.st k=1->ev≠0->pc k=0):s.Kp (s.fin t ev) pc:=by
 refine ⟨s.Bv t ev,λk hk=> ?_⟩;by_cases q:s.st k=1
 ·refine .inr ?_
  unfold SS.fin at hk;split at hk
  ·rename_i y hy
   unfold Bo at hy;split at hy
   ·rename_i ht
    by_cases e:k=t.toNat
    ·subst e
     refine h t.toNat (by omega) q λe0=> ?_;subst e0;rw [q] at hy;exact absurd (show (none:Option Int)=some y from hy) (by simp)
    ·exact absurd ((A0 _ _ e).trans q) hk
   ·exact absurd hy (by simp)
  ·exact absurd q hk
 ·exact .inl q
def Ct (pc og:Nat->Int) (t:Nat):List Value:=[.int .i64 (pc t),.int .u32 (og t)]
theorem Ah (pc og:Nat->Int):∀ x,(Ct pc og x).length=2:=λ_=>rfl
def BS (n:Nat) (pc og:Nat->Int):List Value:=(List.range n).flatMap (Ct pc og)
theorem BB (n:Nat) (pc og:Nat->Int) {k:Nat} (hk:k<n) {j:Nat} (hj:j<2):(BS n pc og)[k*2+j]? =(Ct pc og k)[j]? :=Cb (Ah pc og) _ (by rw [List.getElem?_range hk]) hj
theorem D3 {n i t:Nat} (ht:(List.range n)[i]? =some t):i<n/\t=i:=zz7e
theorem Hd (n:Nat) (pc og:Nat->Int) (k:Nat) (x:Int):(BS n pc og).set (k*2) (.int .i64 x)=BS n (upd pc k x) og:=by
 refine Bi (Ah pc og) (Ah _ _) _ k 0 (by decide) _ λi t ht l hl=> ?_;obtain ⟨_,rfl⟩:=D3 ht;exact zz7n
theorem He (n:Nat) (pc og:Nat->Int) (k:Nat) (x:Int):(BS n pc og).set (k*2+1) (.int .u32 x)=BS n pc (upd og k x):=by
 refine Bi (Ah pc og) (Ah _ _) _ k 1 (by decide) _ λi t ht l hl=> ?_;obtain ⟨_,rfl⟩:=D3 ht;exact zz7o
theorem IB {α:Type} (f:Nat->α) (k j:Nat):f j=upd f k (f k) j:=zz5l
def G3 (pc A9:Nat->Int) (k:Nat):Int:=if pc k<=1 then 0 else A9 k
theorem PD (pc A9:Nat->Int) (k:Nat) {x z y:Int} (hy:y=if x<=1 then 0 else z):upd (G3 pc A9) k y=G3 (upd pc k x) (upd A9 k z):=by
 funext j
 unfold G3;by_cases e:j=k
 ·subst e;rw [upd_same,upd_same,upd_same];exact hy
 ·rw [A0 _ _ e,A0 _ _ e,A0 _ _ e]
theorem TW (pc A9:Nat->Int) (k:Nat) {x z:Int} (hy:G3 pc A9 k=if x<=1 then 0 else z):G3 pc A9=G3 (upd pc k x) (upd A9 k z):=by
 rw [<-PD pc A9 k hy];exact funext λj=>IB (G3 pc A9) k j
theorem AA (g:Nat->Int) (k:Nat) {x:Int} (h:x=g k):upd g k x=g:=by subst h;exact funext λj=>(IB g k j).symm
structure FlRaw (w:World) (L:Lp) (pv:Value) (s:SS) (pc A9:Nat->Int):Prop where
 obj:w.heap[L.lb]? =some (.cells #[.pointer (some ⟨L.p,0,none⟩),pv,.int .i64 L.a1,.slice (some ⟨L.tb,0,none⟩) s.n s.n] 127 (0,0))
 seat:SeatAt w L.p L.b s
 tick:w.heap[L.tb]? =some (.cells (BS s.n pc (G3 pc A9)).toArray 245 (0,0))
 ne:L.lb≠L.b/\L.lb≠L.tb/\L.p≠L.tb/\L.b≠L.tb/\L.lb≠L.p
 BP:∀ k,(0<=pc k/\pc k<=4)/\0<=A9 k/\A9 k<4294967296
 inv:∀ k,s.st k≠1->pc k<=3/\(pc k=1\/pc k=2->A9 k=0)
 CM:0<=L.a1/\L.a1<=2000000/\L.a2=L.a1+1
namespace FlRaw
variable {w w':World} {L:Lp} {pv:Value} {s:SS} {pc A9:Nat->Int}
theorem wrote {S:Nat->Prop} (h:FlRaw w L pv s pc A9) (k:Wr S w w') (h1:¬ S L.lb) (h2:¬ S L.p) (h3:¬ S L.b) (h4:¬ S L.tb):FlRaw w' L pv s pc A9:=
 ⟨(k.block _ (A2 h.obj) h1).trans h.obj,h.seat.wrote k h2 h3,(k.block _ (A2 h.tick) h4).trans h.tick,h.ne,h.BP,h.inv,h.CM⟩
theorem after (h:FlRaw w L pv s pc A9) (k:Wr Nil w w'):FlRaw w' L pv s pc A9:=h.wrote k id id id id
theorem seats {s':SS} (h:FlRaw w L pv s pc A9) (hS:SeatAt w' L.p L.b s') (hn:s.Kp s' pc) (k:Wr (One L.b) w w'):FlRaw w' L pv s' pc A9:=by
 refine ⟨?_,hS,?_,h.ne,h.BP,λj hj=> ?_,h.CM⟩
 ·rw [hn.1];exact (k.block _ (A2 h.obj) h.ne.1).trans h.obj
 ·rw [hn.1];exact (k.block _ (A2 h.tick) (λe=>h.ne.2.2.2.1 e.symm)).trans h.tick
 ·rcases hn.2 j hj with q|q
  ·exact h.inv j q
  ·omega
theorem cell0 (h:FlRaw w L pv s pc A9):w.cell? ⟨L.lb,0,none⟩=some (.pointer (some ⟨L.p,0,none⟩)):=by rw [A1 h.obj];rfl
theorem cell1 (h:FlRaw w L pv s pc A9):w.cell? ⟨L.lb,1,none⟩=some pv:=by rw [A1 h.obj];rfl
theorem AY (h:FlRaw w L pv s pc A9):w.cell? ⟨L.lb,2,none⟩=some (.int .i64 L.a1):=by rw [A1 h.obj];rfl
theorem AV (h:FlRaw w L pv s pc A9):w.cell? ⟨L.lb,3,none⟩=some (.slice (some ⟨L.tb,0,none⟩) s.n s.n):=by rw [A1 h.obj];rfl
theorem frozen (h:FlRaw w L pv s pc A9) (k:Nat):w.frozen? ⟨L.lb,k,none⟩=false:=A4 h.obj k
theorem Dw (h:FlRaw w L pv s pc A9) {k:Nat} (hk:k<s.n):w.cell? ⟨L.tb,k*2,none⟩=some (.int .i64 (pc k)):=by
 rw [A1 h.tick,List.getElem?_toArray];exact BB s.n pc (G3 pc A9) hk (j:=0) (by decide)
theorem EB (h:FlRaw w L pv s pc A9) {k:Nat} (hk:k<s.n):w.cell? ⟨L.tb,k*2+1,none⟩=some (.int .u32 (G3 pc A9 k)):=by
 rw [A1 h.tick,List.getElem?_toArray];exact BB s.n pc (G3 pc A9) hk (j:=1) (by decide)
theorem BO (h:FlRaw w L pv s pc A9) (k:Nat):w.frozen? ⟨L.tb,k,none⟩=false:=A4 h.tick k
theorem ranges (h:FlRaw w L pv s pc A9) (k:Nat) {x z:Int} (hx:0<=x/\x<=4) (hz:0<=z/\z<4294967296) (j:Nat):(0<=upd pc k x j/\upd pc k x j<=4)/\0<=upd A9 k z j/\upd A9 k z j<4294967296:=by
 by_cases e:j=k
 ·subst e;rw [upd_same,upd_same];exact ⟨hx,hz⟩
 ·rw [A0 _ _ e,A0 _ _ e];exact h.BP j
theorem aF (h:FlRaw w L pv s pc A9) (k:Nat) {x z:Int} (hi:s.st k≠1->x<=3/\(x=1\/x=2->z=0)) (j:Nat) (hj:s.st j≠1):upd pc k x j<=3/\(upd pc k x j=1\/upd pc k x j=2->upd A9 k z j=0):=by
 by_cases e:j=k
 ·subst e;rw [upd_same,upd_same];exact hi hj
 ·rw [A0 _ _ e,A0 _ _ e];exact h.inv j hj
theorem Du (h:FlRaw w L pv s pc A9) (k:Nat) (x z:Int) (hx:0<=x/\x<=4) (hz:0<=z/\z<4294967296) (hy:G3 pc A9 k=if x<=1 then 0 else z) (hi:s.st k≠1->x<=3/\(x=1\/x=2->z=0)):
  FlRaw (w.setCell ⟨L.tb,k*2,none⟩ (.int .i64 x)) L pv s (upd pc k x) (upd A9 k z)/\Wr (One L.tb) w (w.setCell ⟨L.tb,k*2,none⟩ (.int .i64 x)):=by
 have hW:Wr (One L.tb) w (w.setCell ⟨L.tb,k*2,none⟩ (.int .i64 x)):=(Wr.refl _ w).setCell _ _ λ_=>rfl;refine ⟨⟨(hW.block _ (A2 h.obj) h.ne.2.1).trans h.obj,h.seat.wrote hW h.ne.2.2.1 h.ne.2.2.2.1,?_,h.ne,h.ranges k hx hz,h.aF k hi,h.CM⟩,hW⟩;rw [A3 h.tick,List.setIfInBounds_toArray,Hd,<-TW pc A9 k hy]
theorem O7 (h:FlRaw w L pv s pc A9) (k:Nat) (x z y:Int) (hx:0<=x/\x<=4) (hz:0<=z/\z<4294967296) (hy:y=if x<=1 then 0 else z) (hi:s.st k≠1->x<=3/\(x=1\/x=2->z=0)):
  FlRaw ((w.setCell ⟨L.tb,k*2,none⟩ (.int .i64 x)).setCell ⟨L.tb,k*2+1,none⟩ (.int .u32 y)) L pv s (upd pc k x) (upd A9 k z)/\Wr (One L.tb) w ((w.setCell ⟨L.tb,k*2,none⟩ (.int .i64 x)).setCell ⟨L.tb,k*2+1,none⟩ (.int .u32 y)):=by
 have hW:Wr (One L.tb) w ((w.setCell ⟨L.tb,k*2,none⟩ (.int .i64 x)).setCell ⟨L.tb,k*2+1,none⟩ (.int .u32 y)):=((Wr.refl (One L.tb) w).setCell ⟨L.tb,k*2,none⟩ (.int .i64 x) λ_=>rfl).setCell ⟨L.tb,k*2+1,none⟩ (.int .u32 y) λ_=>rfl;refine ⟨⟨(hW.block _ (A2 h.obj) h.ne.2.1).trans h.obj,h.seat.wrote hW h.ne.2.2.1 h.ne.2.2.2.1,?_,h.ne,h.ranges k hx hz,h.aF k hi,h.CM⟩,hW⟩;rw [A3 (A3 h.tick _ _),List.setIfInBounds_toArray,List.setIfInBounds_toArray,Hd,He,PD pc A9 k hy]
theorem use (h:FlRaw w L pv s pc A9) (v:Value):FlRaw (w.setCell ⟨L.lb,1,none⟩ v) L v s pc A9:=by
 have hW:Wr (One L.lb) w (w.setCell ⟨L.lb,1,none⟩ v):=(Wr.refl _ w).setCell _ _ λ_=>rfl;refine ⟨?_,h.seat.wrote hW (λe=>h.ne.2.2.2.2 e.symm) (λe=>h.ne.1 e.symm),(hW.block _ (A2 h.tick) (λe=>h.ne.2.1 e.symm)).trans h.tick,h.ne,h.BP,h.inv,h.CM⟩;rw [A3 h.obj];rfl
theorem place (h:FlRaw w L pv s pc A9) (q:Place) (hs:List Int):FlRaw w {L with q:=q,hs:=hs} pv s pc A9:=⟨h.obj,h.seat,h.tick,h.ne,h.BP,h.inv,h.CM⟩
end FlRaw
abbrev Ey (w:World) (L:Lp) (pv:Value) (f:FL):Prop:=FlRaw w L pv f.s f.pc f.A9
structure LkAt (w:World) (L:Lp) (f:FL):Prop where
 raw:FlRaw w L (.pointer (some ⟨L.q.p,0,none⟩)) f.s f.pc f.A9
 port:PortAt w L.q L.hs f.ps
 far:L.lb<L.q.k0/\L.p<L.q.k0/\L.b<L.q.k0/\L.tb<L.q.k0
 top:L.q.k3<=w.heap.size
def LF (L:Lp) (k:Nat):Prop:=k=L.b\/k=L.tb\/Bk L.q.k0 L.q.k3 k
namespace LkAt
variable {w w':World} {L:Lp} {f:FL}
theorem wrote {S:Nat->Prop} (h:LkAt w L f) (k:Wr S w w') (h1:¬ S L.lb) (h2:¬ S L.p) (h3:¬ S L.b) (h4:¬ S L.tb) (h5:∀ b,L.q.k0<=b->b<L.q.k3->¬ S b):LkAt w' L f:=
 ⟨h.raw.wrote k h1 h2 h3 h4,h.port.wrote k h5,h.far,Nat.le_trans h.top k.size⟩
theorem after (h:LkAt w L f) (k:Wr Nil w w'):LkAt w' L f:=h.wrote k id id id id λ_ _ _=>id
theorem seats {s':SS} (h:LkAt w L f) (hS:SeatAt w' L.p L.b s') (hn:f.s.Kp s' f.pc) (k:Wr (One L.b) w w'):LkAt w' L {f with s:=s'}:=
 ⟨h.raw.seats hS hn k,h.port.wrote k λb b1 _ e=>by have:=h.far.2.2.1;cases e;omega,h.far,Nat.le_trans h.top k.size⟩
theorem Ac {ps':AK} (h:LkAt w L f) (hP:PortAt w' L.q L.hs ps') (k:Wr (Bk L.q.k0 L.q.k3) w w'):LkAt w' L {f with ps:=ps'}:=
 ⟨h.raw.wrote k (λe=>by have:=h.far.1;unfold Bk at e;omega) (λe=>by have:=h.far.2.1;unfold Bk at e;omega) (λe=>by have:=h.far.2.2.1;unfold Bk at e;omega) (λe=>by have:=h.far.2.2.2;unfold Bk at e;omega),hP,h.far,Nat.le_trans h.top k.size⟩
theorem turns (h:LkAt w L f) {FY Gu:Nat->Int} (k:FlRaw w' L (.pointer (some ⟨L.q.p,0,none⟩)) f.s FY Gu/\Wr (One L.tb) w w'):
  LkAt w' L {f with pc:=FY,A9:=Gu}/\Wr (One L.tb) w w':=
 ⟨⟨k.1,h.port.wrote k.2 λb b1 _ e=>by have:=h.far.2.2.2;cases e;omega,h.far,Nat.le_trans h.top k.2.size⟩,k.2⟩
theorem PU (h:LkAt w L f) (k:Nat) (x:Int) (hx:0<=x/\x<=4) (hy:G3 f.pc f.A9 k=if x<=1 then 0 else f.A9 k) (hi:f.s.st k≠1->x<=3/\(x=1\/x=2->f.A9 k=0)):
  LkAt (w.setCell ⟨L.tb,k*2,none⟩ (.int .i64 x)) L {f with pc:=upd f.pc k x}/\Wr (One L.tb) w (w.setCell ⟨L.tb,k*2,none⟩ (.int .i64 x)):=by
 have:=h.turns (h.raw.Du k x (f.A9 k) hx (h.raw.BP k).2 hy hi);rw [AA f.A9 k rfl] at this;exact this
theorem Mx (h:LkAt w L f) (k:Nat):
  LkAt ((w.setCell ⟨L.tb,k*2,none⟩ (.int .i64 0)).setCell ⟨L.tb,k*2+1,none⟩ (.int .u32 0)) L {f with pc:=upd f.pc k 0}/\Wr (One L.tb) w ((w.setCell ⟨L.tb,k*2,none⟩ (.int .i64 0)).setCell ⟨L.tb,k*2+1,none⟩ (.int .u32 0)):=by
 have:=h.turns (h.raw.O7 k 0 (f.A9 k) 0 (by omega) (h.raw.BP k).2 rfl λ_=>⟨by omega,by omega⟩);rw [AA f.A9 k rfl] at this;exact this
theorem wf (h:LkAt w L f) (j:Int):0<=BK f.ps.ws j/\BK f.ps.ws j<4294967296:=h.port.mem.Ea j
theorem tell (h:LkAt w L f) (t K a:Int):0<=A6 f.ps t K a/\A6 f.ps t K a<4294967296:=zz2c
end LkAt
def AP (w:World) (L:Lp) (f:FL) (v:Value) (e:Ending) (w':World):Prop:=e= .returned v/\LkAt w' L f/\Wr (LF L) w w'
theorem CH {w w':World} {L:Lp} (k:Wr (One L.b) w w'):Wr (LF L) w w':=k.mono λ_ _ e=> .inl e
theorem BH {w w':World} {L:Lp} (k:Wr (One L.tb) w w'):Wr (LF L) w w':=k.mono λ_ _ e=> .inr (.inl e)
theorem B_ {w w':World} {L:Lp} (k:Wr (Bk L.q.k0 L.q.k3) w w'):Wr (LF L) w w':=k.mono λ_ _ e=> .inr (.inr e)
theorem LkAt.Cz {w:World} {L:Lp} {f:FL} (h:LkAt w L f) {k:Nat} (hk:LF L k):k<w.heap.size:=zz24
def Eh (d:Dd):Array Value:= #[.int .i64 d.ev,.bool d.BW,.bool d.arr,.bool d.lead]
structure Fr (w:World) (B:Nat) (Y:World) (L:Lp) (f:FL):Prop where
 lk:LkAt Y L f
 wr:Wr (LF L) w Y
 res:Y.heap[B]? =some (.cells (Eh Dd.no) 102 (0,0))
 new:w.heap.size<=B
namespace Fr
variable {w X Y:World} {L:Lp} {f f':FL} {B:Nat}
theorem start (h:LkAt w L f):Fr w w.heap.size (w.alloc (.cells #[.int .i64 0,.bool false,.bool false,.bool false] 102)) L f:=
 ⟨h.after ((Wr.refl _ w).alloc _),(Wr.refl _ w).alloc _,Go.Deep.blk_alloc_new w _,Nat.le_refl _⟩
theorem after (h:Fr w B X L f) (k:Wr Nil X Y):Fr w B Y L f:=⟨h.lk.after k,h.wr.trans k λ_ _ e=>e.elim,(k.block _ (A2 h.res) id).trans h.res,h.new⟩
theorem drew (h:Fr w B X L f):Fr w B X.drew L f:=h.after ((Wr.refl _ X).drew)
theorem call {f0:FL} (h0:LkAt w L f') (h:Fr w B X L f) (hl:LkAt Y L f0) (k:Wr (LF L) X Y):Fr w B Y L f0:=
 ⟨hl,h.wr.trans k λ_ _ e=>e,(k.block _ (A2 h.res) (λe=>by have:=h0.Cz e;have:=h.new;omega)).trans h.res,h.new⟩
theorem cell (h:Fr w B X L f):X.cell? ⟨B,0,none⟩=some (.int .i64 0)/\X.cell? ⟨B,1,none⟩=some (.bool false)/\X.cell? ⟨B,2,none⟩=some (.bool false)/\X.cell? ⟨B,3,none⟩=some (.bool false):=zz1z
theorem Am (h:Fr w B X L f):X.frozen? ⟨B,0,none⟩=false/\X.frozen? ⟨B,1,none⟩=false/\X.frozen? ⟨B,2,none⟩=false/\X.frozen? ⟨B,3,none⟩=false:=
 ⟨A4 h.res 0,A4 h.res 1,A4 h.res 2,A4 h.res 3⟩
end Fr
theorem AO {Y:World} {B:Nat} {t:TypeId} {cs:Array Value} (h:Y.heap[B]? =some (.cells cs t (0,0))) (h4:cs.size=4) (x0 x1 x2 x3:Value):
  ((((Y.setCell ⟨B,0,none⟩ x0).setCell ⟨B,1,none⟩ x1).setCell ⟨B,2,none⟩ x2).setCell ⟨B,3,none⟩ x3).heap[B]? =some (.cells #[x0,x1,x2,x3] t (0,0)):=zz1b
theorem C0 (Y:World) (B:Nat) (x0 x1 x2 x3:Value):Wr (One B) Y ((((Y.setCell ⟨B,0,none⟩ x0).setCell ⟨B,1,none⟩ x1).setCell ⟨B,2,none⟩ x2).setCell ⟨B,3,none⟩ x3):=
 ((((Wr.refl (One B) Y).setCell ⟨B,0,none⟩ x0 λ_=>rfl).setCell ⟨B,1,none⟩ x1 λ_=>rfl).setCell ⟨B,2,none⟩ x2 λ_=>rfl).setCell ⟨B,3,none⟩ x3 λ_=>rfl
theorem Fr.told {w Y:World} {L:Lp} {f f0:FL} {B:Nat} (h0:LkAt w L f0) (h:Fr w B Y L f) (d:Dd):
  AP w L f d.val (.returned d.val) ((((Y.setCell ⟨B,0,none⟩ (.int .i64 d.ev)).setCell ⟨B,1,none⟩ (.bool d.BW)).setCell ⟨B,2,none⟩ (.bool d.arr)).setCell ⟨B,3,none⟩ (.bool d.lead)):=zzh
theorem AB:(prog.info? 102).map (·.size)=some 4:=by kernel_rfl
set_option maxHeartbeats 8000000
open Go.RowKit Go.BigFrame
theorem Cu {w:World} {L:Lp} {pv:Value} {s:SS} {pc A9:Nat->Int} (h:FlRaw w L pv s pc A9) (a:Addr):
  Calls prog 161 #[.pointer (some ⟨L.lb,0,none⟩),.pointer (some a)] w λe w'=>e= .returned (.tuple #[])/\w'=w.setCell ⟨L.lb,1,none⟩ (.pointer (some a)):=zz1t
theorem LkAt.bd {w:World} {L:Lp} {f:FL} (h:LkAt w L f) (k:Nat):(0<=f.A9 k/\f.A9 k<4294967296)/\0<=L.a1/\L.a1<=2000000/\L.a2=L.a1+1:=⟨(h.raw.BP k).2,h.raw.CM⟩
theorem CS (w:World) (k:Nat) (hk:k<64):
  Calls prog 165 #[.int .i64 (k:Int)] w λe w'=>e= .returned (.int .u32 ((k:Int)+1))/\w=w':=by
 have w1:IntKind.u32.wrap (k:Int)=k:=by rw [IntKind.wrap_u32];omega
 have w2:IntKind.u32.wrap ((k:Int)+1)=(k:Int)+1:=by rw [IntKind.wrap_u32];omega
 clear hk;exact zzo
theorem wraps {a x:Int} (h0:0<=a) (h1:a<=2000000) (h2:0<=x) (h3:x<4294967296):IntKind.i64.wrap x=x/\IntKind.i64.wrap (2*x)=2*x/\IntKind.i64.wrap (a+2*x)=a+2*x/\IntKind.i64.wrap (a+2*x-1)=a+2*x-1:=by
 rw [IntKind.wrap_i64,IntKind.wrap_i64,IntKind.wrap_i64,IntKind.wrap_i64];omega
theorem E0 {w:World} {L:Lp} {f:FL} (h:LkAt w L f) (x y:Int) (hx:0<=x/\x<4294967296) (hy:y=x-1):
  Calls prog 166 #[.pointer (some ⟨L.lb,0,none⟩),.int .u32 x] w λe w'=>e= .returned (.int .i64 (L.nx y))/\w=w':=by
 have c2:=h.raw.AY;obtain ⟨_,a0,a1,a2⟩:=h.bd 0;obtain ⟨w1,w2,w3,w4⟩:=wraps a0 a1 hx.1 hx.2;have e:L.nx y=L.a1+2*x-1:=by unfold Lp.nx;omega
 rw [e];clear h e hy;exact zzo
theorem Ht {w:World} {L:Lp} {f:FL} (h:LkAt w L f) (x y:Int) (hx:0<=x/\x<4294967296) (hy:y=x-1):
  Calls prog 168 #[.pointer (some ⟨L.lb,0,none⟩),.int .u32 x] w λe w'=>e= .returned (.int .i64 (L.lk y))/\w=w':=by
 have c2:=h.raw.AY;obtain ⟨_,a0,a1,a2⟩:=h.bd 0;obtain ⟨w1,w2,w3,w4⟩:=wraps a0 a1 hx.1 hx.2;have e:L.lk y=L.a1+2*x:=by unfold Lp.lk;omega
 rw [e];clear h e hy w4;exact zzo
theorem EF {w:World} {L:Lp} {f:FL} (h:LkAt w L f) (k:Nat) (hk:k<f.s.n) (ev:Int):
  Calls prog 169 #[.pointer (some ⟨L.tb,k*2,none⟩),.int .i64 ev] w (AP w L {f with pc:=upd f.pc k 0} (Dd.val ⟨ev,false,false,false⟩)):=by
 have hF:=Fr.start h;have t0:=hF.lk.raw.Dw hk;have t1:=hF.lk.raw.EB hk;have z0:=hF.lk.raw.BO (k*2);have z1:=hF.lk.raw.BO (k*2+1);have hT:=hF.lk.Mx k;have hA:=Fr.call h hF hT.1 (BH hT.2);obtain ⟨v0,v1,v2,v3⟩:=hA.cell;obtain ⟨x0,x1,x2,x3⟩:=hA.Am;have HE:=Qw (Qz h hA);clear h hF hT hA;exact zz2s
theorem Gf {w:World} {L:Lp} {f:FL} (h:LkAt w L f) (k:Nat) (hk:k<f.s.n) (hs:f.s.st k=1) (a:Int) (ha:0<=a/\a<4294967296) (hz:a=0):
  Calls prog 167 #[.pointer (some ⟨L.tb,k*2,none⟩),.int .u32 a] w (AP w L {f with pc:=upd f.pc k 0,A9:=upd f.A9 k a} (Dd.val ⟨1,true,false,false⟩)):=by
 have hF:=Fr.start h;have t0:=hF.lk.raw.Dw hk;have t1:=hF.lk.raw.EB hk;have z0:=hF.lk.raw.BO (k*2);have z1:=hF.lk.raw.BO (k*2+1);have hT:=hF.lk.turns (hF.lk.raw.O7 k 0 a 0 (by omega) ha rfl λq=>absurd hs q);have hA:=Fr.call h hF hT.1 (BH hT.2);obtain ⟨v0,v1,v2,v3⟩:=hA.cell;obtain ⟨x0,x1,x2,x3⟩:=hA.Am;have HE:=Qw (Qz h hA);clear h hF hT hA hs;have b1:(a==0)=true:=by rw [hz];rfl
 clear hz
 go_in
 go_wp2;refine bodyPost_ret (v:=Dd.val ⟨1,true,false,false⟩) (results_cell_row rfl _ _ w.heap.size 102 _ (0,0) _ rfl (AO HE.out.2.res rfl _ _ _ _) underlying102 rfl AB) rfl (HE.out.2.told HE.out.1 ⟨1,true,false,false⟩)
theorem Gg {w:World} {L:Lp} {f:FL} (h:LkAt w L f) (k:Nat) (hk:k<f.s.n) (hs:f.s.st k=1) (a:Int) (ha:0<=a/\a<4294967296) (hz:a≠0):
  Calls prog 167 #[.pointer (some ⟨L.tb,k*2,none⟩),.int .u32 a] w (AP w L {f with pc:=upd f.pc k 2,A9:=upd f.A9 k a} (Dd.val ⟨0,true,false,false⟩)):=by
 have hF:=Fr.start h;have t0:=hF.lk.raw.Dw hk;have t1:=hF.lk.raw.EB hk;have z0:=hF.lk.raw.BO (k*2);have z1:=hF.lk.raw.BO (k*2+1);have hT:=hF.lk.turns (hF.lk.raw.O7 k 2 a a (by omega) ha rfl λq=>absurd hs q);have hA:=Fr.call h hF hT.1 (BH hT.2);obtain ⟨v0,v1,v2,v3⟩:=hA.cell;obtain ⟨x0,x1,x2,x3⟩:=hA.Am;have HE:=Qw (Qz h hA);clear h hF hT hA hs;have b1:(a==0)=false:=beq_false_of_ne hz;clear hz;exact zz2u
theorem Hr {w:World} {L:Lp} {f:FL} (h:LkAt w L f) (k:Nat) (hk:k<f.s.n) (hs:f.s.st k=1) (a:Int) (ha:0<=a/\a<4294967296):
  Calls prog 167 #[.pointer (some ⟨L.tb,k*2,none⟩),.int .u32 a] w (AP w L {f with pc:=upd f.pc k (if a=0 then 0 else 2),A9:=upd f.A9 k a} (Dd.val ⟨if a=0 then 1 else 0,true,false,false⟩)):=by
 by_cases hz:a=0
 ·rw [Qj hz,Qj hz];exact Gf h k hk hs a ha hz
 ·rw [Qq hz,Qq hz];exact Gg h k hk hs a ha hz
def CD (w:World) (L:Lp) (f:FL) (e:Ending) (w':World):Prop:=e= .returned (.tuple #[])/\LkAt w' L f/\Wr (LF L) w w'
theorem LC {w:World} {L:Lp} {f:FL} (h:LkAt w L f) (k:Nat) (hk:k<f.s.n) (a:Int) (ha:0<=a/\a<4294967296) (hz:a≠0):
  Calls prog 170 #[.pointer (some ⟨L.tb,k*2,none⟩),.int .u32 a] w (CD w L {f with pc:=upd f.pc k 3,A9:=upd f.A9 k a}):=by
 have t0:=h.raw.Dw hk;have t1:=h.raw.EB hk;have z0:=h.raw.BO (k*2);have z1:=h.raw.BO (k*2+1);have hT:=h.turns (h.raw.O7 k 3 a a (by omega) ha rfl λq=>⟨by omega,by omega⟩);have HE:=Qw hT;have b1:(a != 0)=true:=by simpa [bne,BEq.beq] using hz
 clear h hT hz;exact zz2r
theorem LD {w:World} {L:Lp} {f:FL} (h:LkAt w L f) (k:Nat) (hk:k<f.s.n) (hp:f.pc k=0):
  Calls prog 170 #[.pointer (some ⟨L.tb,k*2,none⟩),.int .u32 0] w (CD w L {f with pc:=upd f.pc k 1,A9:=upd f.A9 k 0}):=by
 have t0:=h.raw.Dw hk;rw [hp] at t0;have z0:=h.raw.BO (k*2);have hT:=h.turns (h.raw.Du k 1 0 (by omega) (by omega) (by unfold G3;rw [hp];rfl) λq=>⟨by omega,λ_=>rfl⟩);have HE:=Qw hT;clear h hT hp;exact zz2r
theorem LG {w:World} {L:Lp} {f:FL} (h:LkAt w L f) (k:Nat) (hk:k<f.s.n) (hp:f.pc k=2) (hs:f.s.st k≠1):
  Calls prog 170 #[.pointer (some ⟨L.tb,k*2,none⟩),.int .u32 0] w (CD w L {f with pc:=upd f.pc k 2,A9:=upd f.A9 k 0}):=by
 have t0:=h.raw.Dw hk;rw [hp] at t0;have e:({f with pc:=upd f.pc k 2,A9:=upd f.A9 k 0}:FL)=f:=by
  rw [AA f.pc k hp.symm,AA f.A9 k ((h.raw.inv k hs).2 (.inr hp)).symm]
 rw [e];have HE:=Qw h;clear h hp hs e
 go_in
 go_wp2
 go_end0
 exact ⟨rfl,HE.out,Wr.refl _ _⟩
theorem Fj {w:World} {L:Lp} {f:FL} (h:LkAt w L f) (k:Nat) (hk:k<f.s.n) (hs:f.s.st k≠1) (x:Int) (hp:(f.pc k=0/\x=1)\/(f.pc k=2/\x=2)) (a:Int) (ha:0<=a/\a<4294967296):
  Calls prog 170 #[.pointer (some ⟨L.tb,k*2,none⟩),.int .u32 a] w (CD w L {f with pc:=upd f.pc k (if a=0 then x else 3),A9:=upd f.A9 k a}):=by
 by_cases hz:a=0
 ·subst hz
  rw [Qj rfl];rcases hp with ⟨hp,rfl⟩|⟨hp,rfl⟩
  ·exact LD h k hk hp
  ·exact LG h k hk hp hs
 ·rw [Qq hz];exact LC h k hk a ha hz
theorem ED {w:World} {L:Lp} {f:FL} (h:LkAt w L f) (k:Nat) (hk:k<f.s.n) (u:Int) (hs:f.s.st k=1) (hd:f.pc k=0) (hD:f.ps.D.length<4611686018427387904):
  Calls prog 162 #[.pointer (some ⟨L.lb,0,none⟩),.int .i64 (k:Int),.int .i64 u] w (AP w L (f.acq L k u) (f.A7 L k u).val):=by
 have e1:f.acq L k u={f with pc:=upd f.pc k 1,ps:=A5 f.ps u 2 (L.nx k) 0 (0)}:=by unfold FL.acq;rw [Qj hd]
 have e2:f.A7 L k u=Dd.no:=by unfold FL.A7;rw [Qj hd]
 rw [e1,e2];clear e1 e2;obtain ⟨bo,a0,a1,a2⟩:=h.bd k;have hF:=Fr.start h;obtain ⟨Z,hZ⟩:∃ Z,Z=w.alloc (.cells #[.int .i64 0,.bool false,.bool false,.bool false] 102):=⟨_,rfl⟩
 rw [<-hZ] at hF;have DL:=h.raw.seat.n2;have kn:0<=(k:Int)+1/\(k:Int)+1<4294967296:=by omega
 have c1:=hF.drew.lk.raw.cell1;have c2:=hF.drew.lk.raw.AY;have c3:=hF.lk.raw.AV;have t0:=hF.drew.lk.raw.Dw hk;have t1:=hF.drew.lk.raw.EB hk;rw [hd] at t0;have Hi:G3 f.pc f.A9 k=0:=by unfold G3;rw [hd];rfl
 have cN:=CS Z.drew k (by omega);have cG:=E0 hF.drew.drew.lk ((k:Int)+1) k kn (by omega);have cA:=B0 hF.drew.drew.lk.port u (L.nx k) 0 (by omega) (by omega) hD;have HE:=Qw (Qz h (Qz hk (Qz (Qz hs hd) hF)));have HO:=Qw Hi;have HI:=Qw (Qz h.raw.inv (Qz bo kn));have Cy:(k:Int)<f.s.n:=by omega
 clear h hF bo a0 a1 a2 Hi hs hd kn
 go_in
 go_wp2;rw [<-hZ];clear hZ;go_region_held3 (λw'=>w'.cell? ⟨L.lb,3,none⟩=some (.slice (some ⟨L.tb,0,none⟩) f.s.n f.s.n)) (exact c3) (first|((with_reducible refine cN.mono ?_);rintro e w' ⟨rfl,rfl⟩))
 go_wp2;go_region_held3 (λw'=>w'.cell? ⟨L.lb,1,none⟩=some (.pointer (some ⟨L.q.p,0,none⟩))) (first|exact c1|exact d1) (first|((with_reducible refine cG.mono ?_);rintro e w' ⟨rfl,rfl⟩)|((with_reducible refine cA.mono ?_);intro e w2 hq;unfold AE at hq;obtain ⟨rfl,hP,hW⟩:=hq;have hA:=HE.out.2.2.2.drew.drew.lk.Ac hP hW;have AJ:=Fr.call HE.out.1 HE.out.2.2.2.drew.drew hA (B_ hW);have d1:=hA.raw.cell1;have d2:=hA.raw.AY;have y0:=hA.raw.Dw HE.out.2.1;have y1:=hA.raw.EB HE.out.2.1;rw [HE.out.2.2.1.2] at y0;have z0:=hA.raw.BO (k*2);have hT:=hA.PU k 1 (by omega) (HO.out.trans rfl) λq=>absurd HE.out.2.2.1.1 q;have Az:=Fr.call HE.out.1 AJ hT.1 (BH hT.2);obtain ⟨v0,v1,v2,v3⟩:=Az.cell;obtain ⟨x0,x1,x2,x3⟩:=Az.Am;have HT:=Qw Az;clear Az hT;clear hA AJ hP hW))
 go_wp2;exact zz0
theorem EE {w:World} {L:Lp} {f:FL} (h:LkAt w L f) (k:Nat) (hk:k<f.s.n) (u:Int) (hs:f.s.st k=1) (hd:f.pc k=2) (hD:f.ps.D.length<4611686018427387904):
  Calls prog 162 #[.pointer (some ⟨L.lb,0,none⟩),.int .i64 (k:Int),.int .i64 u] w (AP w L (f.acq L k u) (f.A7 L k u).val):=by
 have e1:f.acq L k u={f with pc:=upd f.pc k 3,ps:=A5 f.ps u 2 (L.lk k) 0 (1)}:=by unfold FL.acq;rw [Qq (by omega),Qq (by omega),Qj hd]
 have e2:f.A7 L k u=Dd.no:=by unfold FL.A7;rw [Qq (by omega),Qq (by omega),Qj hd]
 rw [e1,e2];clear e1 e2;obtain ⟨bo,a0,a1,a2⟩:=h.bd k;have hF:=Fr.start h;obtain ⟨Z,hZ⟩:∃ Z,Z=w.alloc (.cells #[.int .i64 0,.bool false,.bool false,.bool false] 102):=⟨_,rfl⟩
 rw [<-hZ] at hF;have DL:=h.raw.seat.n2;have kn:0<=(k:Int)+1/\(k:Int)+1<4294967296:=by omega
 have c1:=hF.drew.lk.raw.cell1;have c2:=hF.drew.lk.raw.AY;have c3:=hF.lk.raw.AV;have t0:=hF.drew.lk.raw.Dw hk;have t1:=hF.drew.lk.raw.EB hk;rw [hd] at t0;have Hi:G3 f.pc f.A9 k=f.A9 k:=by unfold G3;rw [hd];rfl
 have cN:=CS Z.drew k (by omega);have cG:=Ht hF.drew.drew.lk ((k:Int)+1) k kn (by omega);have cA:=B0 hF.drew.drew.lk.port u (L.lk k) 1 (by omega) (by omega) hD;have HE:=Qw (Qz h (Qz hk (Qz (Qz hs hd) hF)));have HO:=Qw Hi;have HI:=Qw (Qz h.raw.inv (Qz bo kn));have Cy:(k:Int)<f.s.n:=by omega
 clear h hF bo a0 a1 a2 Hi hs hd kn
 go_in
 go_wp2;rw [<-hZ];clear hZ;go_region_held3 (λw'=>w'.cell? ⟨L.lb,3,none⟩=some (.slice (some ⟨L.tb,0,none⟩) f.s.n f.s.n)) (exact c3) (first|((with_reducible refine cN.mono ?_);rintro e w' ⟨rfl,rfl⟩))
 go_wp2;go_region_held3 (λw'=>w'.cell? ⟨L.lb,1,none⟩=some (.pointer (some ⟨L.q.p,0,none⟩))) (first|exact c1|exact d1) (first|((with_reducible refine cG.mono ?_);rintro e w' ⟨rfl,rfl⟩)|((with_reducible refine cA.mono ?_);intro e w2 hq;unfold AE at hq;obtain ⟨rfl,hP,hW⟩:=hq;have hA:=HE.out.2.2.2.drew.drew.lk.Ac hP hW;have AJ:=Fr.call HE.out.1 HE.out.2.2.2.drew.drew hA (B_ hW);have d1:=hA.raw.cell1;have d2:=hA.raw.AY;have y0:=hA.raw.Dw HE.out.2.1;have y1:=hA.raw.EB HE.out.2.1;rw [HE.out.2.2.1.2] at y0;have z0:=hA.raw.BO (k*2);have hT:=hA.PU k 3 (by omega) (HO.out.trans rfl) λq=>absurd HE.out.2.2.1.1 q;have Az:=Fr.call HE.out.1 AJ hT.1 (BH hT.2);obtain ⟨v0,v1,v2,v3⟩:=Az.cell;obtain ⟨x0,x1,x2,x3⟩:=Az.Am;have HT:=Qw Az;clear Az hT;clear hA AJ hP hW))
 go_wp2;exact zz0
theorem LA {w:World} {L:Lp} {f:FL} (h:LkAt w L f) (k:Nat) (hk:k<f.s.n) (u:Int) (hs:f.s.st k=1) (hd:f.pc k=3) (hD:f.ps.D.length<4611686018427387904):
  Calls prog 162 #[.pointer (some ⟨L.lb,0,none⟩),.int .i64 (k:Int),.int .i64 u] w (AP w L (f.acq L k u) (f.A7 L k u).val):=by
 have e1:f.acq L k u={f with pc:=upd f.pc k 4,ps:=A5 f.ps u 2 (L.nx (f.A9 k-1)) 0 ((k:Int)+1)}:=by unfold FL.acq;rw [Qq (by omega),Qq (by omega),Qq (by omega),Qj hd]
 have e2:f.A7 L k u=Dd.no:=by unfold FL.A7;rw [Qq (by omega),Qq (by omega),Qq (by omega),Qj hd]
 rw [e1,e2];clear e1 e2;obtain ⟨bo,a0,a1,a2⟩:=h.bd k;have hF:=Fr.start h;obtain ⟨Z,hZ⟩:∃ Z,Z=w.alloc (.cells #[.int .i64 0,.bool false,.bool false,.bool false] 102):=⟨_,rfl⟩
 rw [<-hZ] at hF;have DL:=h.raw.seat.n2;have kn:0<=(k:Int)+1/\(k:Int)+1<4294967296:=by omega
 have c1:=hF.drew.lk.raw.cell1;have c2:=hF.drew.lk.raw.AY;have c3:=hF.lk.raw.AV;have t0:=hF.drew.lk.raw.Dw hk;have t1:=hF.drew.lk.raw.EB hk;rw [hd] at t0;have Hi:G3 f.pc f.A9 k=f.A9 k:=by unfold G3;rw [hd];rfl
 have cN:=CS Z.drew k (by omega);rw [Hi] at t1;have cG:=E0 hF.drew.drew.lk (f.A9 k) (f.A9 k-1) bo rfl;have cA:=B0 hF.drew.drew.lk.port u (L.nx (f.A9 k-1)) ((k:Int)+1) kn.1 kn.2 hD;have HE:=Qw (Qz h (Qz hk (Qz (Qz hs hd) hF)));have HO:=Qw Hi;have HI:=Qw (Qz h.raw.inv (Qz bo kn));have Cy:(k:Int)<f.s.n:=by omega
 clear h hF bo a0 a1 a2 Hi hs hd kn
 go_in
 go_wp2;rw [<-hZ];clear hZ;go_region_held3 (λw'=>w'.cell? ⟨L.lb,3,none⟩=some (.slice (some ⟨L.tb,0,none⟩) f.s.n f.s.n)) (exact c3) (first|((with_reducible refine cN.mono ?_);rintro e w' ⟨rfl,rfl⟩))
 go_wp2;go_region_held3 (λw'=>w'.cell? ⟨L.lb,1,none⟩=some (.pointer (some ⟨L.q.p,0,none⟩))/\w'.cell? ⟨L.tb,k*2+1,none⟩=some (.int .u32 (f.A9 k))) (first|exact ⟨c1,t1⟩|exact ⟨d1,y1⟩) (first|((with_reducible refine cG.mono ?_);rintro e w' ⟨rfl,rfl⟩)|((with_reducible refine cA.mono ?_);intro e w2 hq;unfold AE at hq;obtain ⟨rfl,hP,hW⟩:=hq;have hA:=HE.out.2.2.2.drew.drew.lk.Ac hP hW;have AJ:=Fr.call HE.out.1 HE.out.2.2.2.drew.drew hA (B_ hW);have d1:=hA.raw.cell1;have d2:=hA.raw.AY;have y0:=hA.raw.Dw HE.out.2.1;have y1:=hA.raw.EB HE.out.2.1;rw [HE.out.2.2.1.2] at y0;rw [HO.out] at y1;have z0:=hA.raw.BO (k*2);have hT:=hA.PU k 4 (by omega) (HO.out.trans rfl) λq=>absurd HE.out.2.2.1.1 q;have Az:=Fr.call HE.out.1 AJ hT.1 (BH hT.2);obtain ⟨v0,v1,v2,v3⟩:=Az.cell;obtain ⟨x0,x1,x2,x3⟩:=Az.Am;have HT:=Qw Az;clear Az hT;clear hA AJ hP hW))
 go_wp2;exact zz0
theorem DT {w:World} {L:Lp} {f:FL} (h:LkAt w L f) (k:Nat) (hk:k<f.s.n) (u:Int) (hs:f.s.st k=1) (hd:f.pc k=1) (hD:f.ps.D.length<4611686018427387904):
  Calls prog 162 #[.pointer (some ⟨L.lb,0,none⟩),.int .i64 (k:Int),.int .i64 u] w (AP w L (f.acq L k u) (f.A7 L k u).val):=by
 have e1:f.acq L k u={f with pc:=upd f.pc k (if A6 f.ps u 3 L.a1=0 then 0 else 2),A9:=upd f.A9 k (A6 f.ps u 3 L.a1),ps:=A5 f.ps u 3 L.a1 0 ((k:Int)+1)}:=by unfold FL.acq;rw [Qq (by omega),Qj hd]
 have e2:f.A7 L k u=⟨if A6 f.ps u 3 L.a1=0 then 1 else 0,true,false,false⟩:=by unfold FL.A7;rw [Qq (by omega),Qj hd]
 rw [e1,e2];clear e1 e2;obtain ⟨bo,a0,a1,a2⟩:=h.bd k;have hF:=Fr.start h;obtain ⟨Z,hZ⟩:∃ Z,Z=w.alloc (.cells #[.int .i64 0,.bool false,.bool false,.bool false] 102):=⟨_,rfl⟩
 rw [<-hZ] at hF;have DL:=h.raw.seat.n2;have kn:0<=(k:Int)+1/\(k:Int)+1<4294967296:=by omega
 have c1:=hF.drew.lk.raw.cell1;have c2:=hF.drew.lk.raw.AY;have c3:=hF.lk.raw.AV;have t0:=hF.drew.lk.raw.Dw hk;have t1:=hF.drew.lk.raw.EB hk;rw [hd] at t0;have Hi:G3 f.pc f.A9 k=0:=by unfold G3;rw [hd];rfl
 have cN:=CS Z.drew k (by omega);have cA:=FA hF.drew.drew.lk.port u L.a1 ((k:Int)+1) kn.1 kn.2 hD;have hT0:=h.tell u 3 L.a1;generalize A6 f.ps u 3 L.a1=v at*;have HE:=Qw (Qz h (Qz hk (Qz (Qz hs hd) hF)));have HO:=Qw Hi;have HI:=Qw (Qz h.raw.inv (Qz bo kn));have Cy:(k:Int)<f.s.n:=by omega
 clear h hF bo a0 a1 a2 Hi hs hd kn;have HV:=Qw hT0;clear hT0;obtain ⟨x,hx⟩:∃ x:Int,x=if v=0 then 0 else 2:=⟨_,rfl⟩
 obtain ⟨y,hy⟩:∃ y:Int,y=if v=0 then 1 else 0:=⟨_,rfl⟩
 rw [<-hx,<-hy];have HX:=Qw hx;have HY:=Qw hy;clear hx hy
 go_in
 go_wp2;rw [<-hZ];clear hZ;go_region_held3 (λw'=>w'.cell? ⟨L.lb,3,none⟩=some (.slice (some ⟨L.tb,0,none⟩) f.s.n f.s.n)) (exact c3) (first|((with_reducible refine cN.mono ?_);rintro e w' ⟨rfl,rfl⟩))
 go_wp2;go_region_held3 (λw'=>w'.cell? ⟨L.lb,1,none⟩=some (.pointer (some ⟨L.q.p,0,none⟩))/\w'.cell? ⟨L.lb,2,none⟩=some (.int .i64 L.a1)) (first|with_reducible exact ⟨d1,d2⟩|with_reducible exact ⟨q1,q2⟩|with_reducible exact ⟨r1,r2⟩|exact ⟨c1,c2⟩) (first|((with_reducible refine cA.mono ?_);intro e w2 hq;unfold AE at hq;obtain ⟨rfl,hP,hW⟩:=hq;have hA:=HE.out.2.2.2.drew.drew.lk.Ac hP hW;have AJ:=Fr.call HE.out.1 HE.out.2.2.2.drew.drew hA (B_ hW);have d1:=hA.raw.cell1;have d2:=hA.raw.AY;have y0:=hA.raw.Dw HE.out.2.1;have y1:=hA.raw.EB HE.out.2.1;have HA:=Qw AJ;have cE:=Hr hA k HE.out.2.1 HE.out.2.2.1.1 v HV.out;rw [<-HX.out,<-HY.out] at cE;clear hA AJ hP hW)|((with_reducible refine cE.mono ?_);intro e w3 hq;unfold AP at hq;obtain ⟨rfl,hB,Ba⟩:=hq;dsimp only [Dd.val];have BX:=Fr.call HE.out.1 HA.out hB Ba;have q1:=hB.raw.cell1;have q2:=hB.raw.AY;have hC:=(BX.told HE.out.1 ⟨y,true,false,false⟩).2.1;have r1:=hC.raw.cell1;have r2:=hC.raw.AY;obtain ⟨v0,v1,v2,v3⟩:=BX.cell;obtain ⟨x0,x1,x2,x3⟩:=BX.Am;have HT:=Qw BX;clear hB BX Ba hC))
 go_wp2;refine bodyPost_ret (v:=Dd.val ⟨y,true,false,false⟩) (results_cell_row rfl _ _ w.heap.size 102 _ (0,0) _ rfl (AO HT.out.res rfl _ _ _ _) underlying102 rfl AB) rfl (HT.out.told HE.out.1 ⟨y,true,false,false⟩)
theorem LB {w:World} {L:Lp} {f:FL} (h:LkAt w L f) (k:Nat) (hk:k<f.s.n) (u:Int) (hs:f.s.st k=1) (hd:f.pc k=4) (hD:f.ps.D.length<4611686018427387904):
  Calls prog 162 #[.pointer (some ⟨L.lb,0,none⟩),.int .i64 (k:Int),.int .i64 u] w (AP w L (f.acq L k u) (f.A7 L k u).val):=by
 have e1:f.acq L k u={f with pc:=upd f.pc k (if A6 f.ps u 1 (L.lk k)=0 then 0 else 4),ps:=A5 f.ps u 1 (L.lk k) 0 0}:=by unfold FL.acq;rw [Qq (by omega),Qq (by omega),Qq (by omega),Qq (by omega)]
 have e2:f.A7 L k u=if A6 f.ps u 1 (L.lk k)=0 then ⟨1,false,false,false⟩ else Dd.no:=by unfold FL.A7;rw [Qq (by omega),Qq (by omega),Qq (by omega),Qq (by omega)]
 rw [e1,e2];clear e1 e2;obtain ⟨bo,a0,a1,a2⟩:=h.bd k;have hF:=Fr.start h;obtain ⟨Z,hZ⟩:∃ Z,Z=w.alloc (.cells #[.int .i64 0,.bool false,.bool false,.bool false] 102):=⟨_,rfl⟩
 rw [<-hZ] at hF;have DL:=h.raw.seat.n2;have kn:0<=(k:Int)+1/\(k:Int)+1<4294967296:=by omega
 have c1:=hF.drew.lk.raw.cell1;have c2:=hF.drew.lk.raw.AY;have c3:=hF.lk.raw.AV;have t0:=hF.drew.lk.raw.Dw hk;have t1:=hF.drew.lk.raw.EB hk;rw [hd] at t0;have Hi:G3 f.pc f.A9 k=f.A9 k:=by unfold G3;rw [hd];rfl
 have cN:=CS Z.drew k (by omega);have cG:=Ht hF.drew.drew.lk ((k:Int)+1) k kn (by omega);have cA:=Al hF.drew.drew.lk.port u (L.lk k) hD;have Z7:upd f.pc k 4=f.pc:=AA f.pc k hd.symm;generalize A6 f.ps u 1 (L.lk k)=v at*;have HE:=Qw (Qz h (Qz hk (Qz (Qz hs hd) hF)));have HO:=Qw Hi;have HI:=Qw (Qz h.raw.inv (Qz bo kn));have Cy:(k:Int)<f.s.n:=by omega
 clear h hF bo a0 a1 a2 Hi hs hd kn;by_cases hx:v=0
 ·rw [Qj hx,Qj hx]
  subst hx;clear Z7
  go_in
  go_wp2;rw [<-hZ];clear hZ;go_region_held3 (λw'=>w'.cell? ⟨L.lb,3,none⟩=some (.slice (some ⟨L.tb,0,none⟩) f.s.n f.s.n)) (exact c3) (first|((with_reducible refine cN.mono ?_);rintro e w' ⟨rfl,rfl⟩))
  go_wp2;go_region_held3 (λw'=>w'.cell? ⟨L.lb,1,none⟩=some (.pointer (some ⟨L.q.p,0,none⟩))) (first|exact c1|exact d1) (first|((with_reducible refine cG.mono ?_);rintro e w' ⟨rfl,rfl⟩)|((with_reducible refine cA.mono ?_);intro e w2 hq;unfold AE at hq;obtain ⟨rfl,hP,hW⟩:=hq;have hA:=HE.out.2.2.2.drew.drew.lk.Ac hP hW;have AJ:=Fr.call HE.out.1 HE.out.2.2.2.drew.drew hA (B_ hW);have d1:=hA.raw.cell1;have d2:=hA.raw.AY;have y0:=hA.raw.Dw HE.out.2.1;have y1:=hA.raw.EB HE.out.2.1;have HA:=Qw AJ;have cE:=EF hA k HE.out.2.1 1;clear hA AJ hP hW))
  go_wp2_with (first|((with_reducible refine cE.mono ?_);intro e w3 hq;unfold AP at hq;obtain ⟨rfl,hB,Ba⟩:=hq;dsimp only [Dd.val];have BX:=Fr.call HE.out.1 HA.out hB Ba;obtain ⟨v0,v1,v2,v3⟩:=BX.cell;obtain ⟨x0,x1,x2,x3⟩:=BX.Am;have HT:=Qw BX;clear hB BX Ba))
  exact zzg
 ·rw [Qq hx,Qq hx,Z7]
  have b1:(v==0)=false:=beq_false_of_ne hx;clear hx Z7
  go_in
  go_wp2;rw [<-hZ];clear hZ;go_region_held3 (λw'=>w'.cell? ⟨L.lb,3,none⟩=some (.slice (some ⟨L.tb,0,none⟩) f.s.n f.s.n)) (exact c3) (first|((with_reducible refine cN.mono ?_);rintro e w' ⟨rfl,rfl⟩))
  go_wp2;go_region_held3 (λw'=>w'.cell? ⟨L.lb,1,none⟩=some (.pointer (some ⟨L.q.p,0,none⟩))) (first|exact c1|exact d1) (first|((with_reducible refine cG.mono ?_);rintro e w' ⟨rfl,rfl⟩)|((with_reducible refine cA.mono ?_);intro e w2 hq;unfold AE at hq;obtain ⟨rfl,hP,hW⟩:=hq;have hA:=HE.out.2.2.2.drew.drew.lk.Ac hP hW;have AJ:=Fr.call HE.out.1 HE.out.2.2.2.drew.drew hA (B_ hW);have d1:=hA.raw.cell1;have d2:=hA.raw.AY;have y0:=hA.raw.Dw HE.out.2.1;have y1:=hA.raw.EB HE.out.2.1;obtain ⟨v0,v1,v2,v3⟩:=AJ.cell;obtain ⟨x0,x1,x2,x3⟩:=AJ.Am;have HT:=Qw AJ;clear hA AJ hP hW))
  go_wp2;exact zz0
theorem ET {w:World} {L:Lp} {f:FL} (h:LkAt w L f) (k:Nat) (hk:k<f.s.n) (u:Int) (hs:f.s.st k=1) (hD:f.ps.D.length<4611686018427387904):
  Calls prog 162 #[.pointer (some ⟨L.lb,0,none⟩),.int .i64 (k:Int),.int .i64 u] w (AP w L (f.acq L k u) (f.A7 L k u).val):=by
 have hr:=(h.raw.BP k).1;have:f.pc k=0\/f.pc k=1\/f.pc k=2\/f.pc k=3\/f.pc k=4:=by omega
 rcases this with hd|hd|hd|hd|hd
 ·exact ED h k hk u hs hd hD
 ·exact DT h k hk u hs hd hD
 ·exact EE h k hk u hs hd hD
 ·exact LA h k hk u hs hd hD
 ·exact LB h k hk u hs hd hD
theorem LI {w:World} {L:Lp} {f:FL} (h:LkAt w L f) (k:Nat) (hk:k<f.s.n) (u:Int) (hs:f.s.st k=3) (hd:f.pc k=0) (hD:f.ps.D.length<4611686018427387904):
  Calls prog 163 #[.pointer (some ⟨L.lb,0,none⟩),.int .i64 (k:Int),.int .i64 u] w (AP w L (f.rel L k u) (f.AX L k u).val):=by
 have e1:f.rel L k u={f with pc:=upd f.pc k (if A6 f.ps u 1 (L.nx k)=0 then 1 else 3),A9:=upd f.A9 k (A6 f.ps u 1 (L.nx k)),ps:=A5 f.ps u 1 (L.nx k) 0 0}:=by unfold FL.rel;rw [Qj hd]
 have e2:f.AX L k u=Dd.no:=by unfold FL.AX;rw [Qj hd]
 rw [e1,e2];clear e1 e2;obtain ⟨bo,a0,a1,a2⟩:=h.bd k;have hF:=Fr.start h;obtain ⟨Z,hZ⟩:∃ Z,Z=w.alloc (.cells #[.int .i64 0,.bool false,.bool false,.bool false] 102):=⟨_,rfl⟩
 rw [<-hZ] at hF;have DL:=h.raw.seat.n2;have kn:0<=(k:Int)+1/\(k:Int)+1<4294967296:=by omega
 have c1:=hF.drew.lk.raw.cell1;have c2:=hF.drew.lk.raw.AY;have c3:=hF.lk.raw.AV;have t0:=hF.drew.lk.raw.Dw hk;have t1:=hF.drew.lk.raw.EB hk;rw [hd] at t0;have Hi:G3 f.pc f.A9 k=0:=by unfold G3;rw [hd];rfl
 have cN:=CS Z.drew k (by omega);have cG:=E0 hF.drew.drew.lk ((k:Int)+1) k kn (by omega);have cA:=Al hF.drew.drew.lk.port u (L.nx k) hD;have hT0:=h.tell u 1 (L.nx k);generalize A6 f.ps u 1 (L.nx k)=v at*;have HE:=Qw (Qz h (Qz hk (Qz (Qz hs hd) hF)));have HO:=Qw Hi;have HI:=Qw (Qz h.raw.inv (Qz bo kn));have Cy:(k:Int)<f.s.n:=by omega
 clear h hF bo a0 a1 a2 Hi hs hd kn;have HV:=Qw hT0;clear hT0;obtain ⟨x,hx⟩:∃ x:Int,x=if v=0 then 1 else 3:=⟨_,rfl⟩
 rw [<-hx];have HX:=Qw hx;clear hx
 go_in
 go_wp2;rw [<-hZ];clear hZ;go_region_held3 (λw'=>w'.cell? ⟨L.lb,3,none⟩=some (.slice (some ⟨L.tb,0,none⟩) f.s.n f.s.n)) (exact c3) (first|((with_reducible refine cN.mono ?_);rintro e w' ⟨rfl,rfl⟩))
 go_wp2;go_region_held3 (λw'=>w'.cell? ⟨L.lb,1,none⟩=some (.pointer (some ⟨L.q.p,0,none⟩))) (first|exact c1|exact d1|exact q1) (first|((with_reducible refine cG.mono ?_);rintro e w' ⟨rfl,rfl⟩)|((with_reducible refine cA.mono ?_);intro e w2 hq;unfold AE at hq;obtain ⟨rfl,hP,hW⟩:=hq;have hA:=HE.out.2.2.2.drew.drew.lk.Ac hP hW;have AJ:=Fr.call HE.out.1 HE.out.2.2.2.drew.drew hA (B_ hW);have d1:=hA.raw.cell1;have d2:=hA.raw.AY;have y0:=hA.raw.Dw HE.out.2.1;have y1:=hA.raw.EB HE.out.2.1;have HA:=Qw AJ;have cE:=Fj hA k HE.out.2.1 (by rw [HE.out.2.2.1.1];decide) 1 (.inl ⟨HE.out.2.2.1.2,rfl⟩) v HV.out;rw [<-HX.out] at cE;clear hA AJ hP hW)|((with_reducible refine cE.mono ?_);intro e w3 hq;unfold CD at hq;obtain ⟨rfl,hB,Ba⟩:=hq;have BX:=Fr.call HE.out.1 HA.out hB Ba;have q1:=hB.raw.cell1;obtain ⟨v0,v1,v2,v3⟩:=BX.cell;obtain ⟨x0,x1,x2,x3⟩:=BX.Am;have HT:=Qw BX;clear hB BX Ba))
 go_wp2;exact zz0
theorem VD {w:World} {L:Lp} {f:FL} (h:LkAt w L f) (k:Nat) (hk:k<f.s.n) (u:Int) (hs:f.s.st k=3) (hd:f.pc k=2) (hD:f.ps.D.length<4611686018427387904):
  Calls prog 163 #[.pointer (some ⟨L.lb,0,none⟩),.int .i64 (k:Int),.int .i64 u] w (AP w L (f.rel L k u) (f.AX L k u).val):=by
 have e1:f.rel L k u={f with pc:=upd f.pc k (if A6 f.ps u 1 (L.nx k)=0 then 2 else 3),A9:=upd f.A9 k (A6 f.ps u 1 (L.nx k)),ps:=A5 f.ps u 1 (L.nx k) 0 0}:=by unfold FL.rel;rw [Qq (by omega),Qq (by omega),Qj hd]
 have e2:f.AX L k u=Dd.no:=by unfold FL.AX;rw [Qq (by omega),Qq (by omega),Qj hd]
 rw [e1,e2];clear e1 e2;obtain ⟨bo,a0,a1,a2⟩:=h.bd k;have hF:=Fr.start h;obtain ⟨Z,hZ⟩:∃ Z,Z=w.alloc (.cells #[.int .i64 0,.bool false,.bool false,.bool false] 102):=⟨_,rfl⟩
 rw [<-hZ] at hF;have DL:=h.raw.seat.n2;have kn:0<=(k:Int)+1/\(k:Int)+1<4294967296:=by omega
 have c1:=hF.drew.lk.raw.cell1;have c2:=hF.drew.lk.raw.AY;have c3:=hF.lk.raw.AV;have t0:=hF.drew.lk.raw.Dw hk;have t1:=hF.drew.lk.raw.EB hk;rw [hd] at t0;have Hi:G3 f.pc f.A9 k=f.A9 k:=by unfold G3;rw [hd];rfl
 have cN:=CS Z.drew k (by omega);have cG:=E0 hF.drew.drew.lk ((k:Int)+1) k kn (by omega);have cA:=Al hF.drew.drew.lk.port u (L.nx k) hD;have hT0:=h.tell u 1 (L.nx k);generalize A6 f.ps u 1 (L.nx k)=v at*;have HE:=Qw (Qz h (Qz hk (Qz (Qz hs hd) hF)));have HO:=Qw Hi;have HI:=Qw (Qz h.raw.inv (Qz bo kn));have Cy:(k:Int)<f.s.n:=by omega
 clear h hF bo a0 a1 a2 Hi hs hd kn;have HV:=Qw hT0;clear hT0;obtain ⟨x,hx⟩:∃ x:Int,x=if v=0 then 2 else 3:=⟨_,rfl⟩
 rw [<-hx];have HX:=Qw hx;clear hx
 go_in
 go_wp2;rw [<-hZ];clear hZ;go_region_held3 (λw'=>w'.cell? ⟨L.lb,3,none⟩=some (.slice (some ⟨L.tb,0,none⟩) f.s.n f.s.n)) (exact c3) (first|((with_reducible refine cN.mono ?_);rintro e w' ⟨rfl,rfl⟩))
 go_wp2;go_region_held3 (λw'=>w'.cell? ⟨L.lb,1,none⟩=some (.pointer (some ⟨L.q.p,0,none⟩))) (first|exact c1|exact d1|exact q1) (first|((with_reducible refine cG.mono ?_);rintro e w' ⟨rfl,rfl⟩)|((with_reducible refine cA.mono ?_);intro e w2 hq;unfold AE at hq;obtain ⟨rfl,hP,hW⟩:=hq;have hA:=HE.out.2.2.2.drew.drew.lk.Ac hP hW;have AJ:=Fr.call HE.out.1 HE.out.2.2.2.drew.drew hA (B_ hW);have d1:=hA.raw.cell1;have d2:=hA.raw.AY;have y0:=hA.raw.Dw HE.out.2.1;have y1:=hA.raw.EB HE.out.2.1;have HA:=Qw AJ;have cE:=Fj hA k HE.out.2.1 (by rw [HE.out.2.2.1.1];decide) 2 (.inr ⟨HE.out.2.2.1.2,rfl⟩) v HV.out;rw [<-HX.out] at cE;clear hA AJ hP hW)|((with_reducible refine cE.mono ?_);intro e w3 hq;unfold CD at hq;obtain ⟨rfl,hB,Ba⟩:=hq;have BX:=Fr.call HE.out.1 HA.out hB Ba;have q1:=hB.raw.cell1;obtain ⟨v0,v1,v2,v3⟩:=BX.cell;obtain ⟨x0,x1,x2,x3⟩:=BX.Am;have HT:=Qw BX;clear hB BX Ba))
 go_wp2;exact zz0
theorem LJ {w:World} {L:Lp} {f:FL} (h:LkAt w L f) (k:Nat) (hk:k<f.s.n) (u:Int) (hs:f.s.st k=3) (hd:f.pc k=1) (hD:f.ps.D.length<4611686018427387904):
  Calls prog 163 #[.pointer (some ⟨L.lb,0,none⟩),.int .i64 (k:Int),.int .i64 u] w (AP w L (f.rel L k u) (f.AX L k u).val):=by
 have e1:f.rel L k u={f with pc:=upd f.pc k (if casT f.ps u L.a1 ((k:Int)+1)=true then 0 else 2),ps:=A5 f.ps u 4 L.a1 ((k:Int)+1) 0}:=by unfold FL.rel;rw [Qq (by omega),Qj hd]
 have e2:f.AX L k u=if casT f.ps u L.a1 ((k:Int)+1)=true then ⟨3,false,false,false⟩ else Dd.no:=by unfold FL.AX;rw [Qq (by omega),Qj hd]
 rw [e1,e2];clear e1 e2;obtain ⟨bo,a0,a1,a2⟩:=h.bd k;have hF:=Fr.start h;obtain ⟨Z,hZ⟩:∃ Z,Z=w.alloc (.cells #[.int .i64 0,.bool false,.bool false,.bool false] 102):=⟨_,rfl⟩
 rw [<-hZ] at hF;have DL:=h.raw.seat.n2;have kn:0<=(k:Int)+1/\(k:Int)+1<4294967296:=by omega
 have c1:=hF.drew.lk.raw.cell1;have c2:=hF.drew.lk.raw.AY;have c3:=hF.lk.raw.AV;have t0:=hF.drew.lk.raw.Dw hk;have t1:=hF.drew.lk.raw.EB hk;rw [hd] at t0;have Hi:G3 f.pc f.A9 k=0:=by unfold G3;rw [hd];rfl
 have cN:=CS Z.drew k (by omega);have cA:=Cg hF.drew.drew.lk.port u L.a1 ((k:Int)+1) 0 (by omega) (by omega) hD;have e0:f.A9 k=0:=(h.raw.inv k (by rw [hs];decide)).2 (.inl hd);change Calls _ _ _ _ (AE _ _ _ (.bool (casT f.ps u L.a1 ((k:Int)+1))) _) at cA;generalize casT f.ps u L.a1 ((k:Int)+1)=v at*;have HE:=Qw (Qz h (Qz hk (Qz (Qz hs hd) hF)));have HO:=Qw Hi;have HI:=Qw (Qz h.raw.inv (Qz bo kn));have Cy:(k:Int)<f.s.n:=by omega
 clear h hF bo a0 a1 a2 Hi hs hd kn;have H0:=Qw e0;clear e0;cases v
 ·rw [Qq (by decide),Qq (by decide)]
  go_in
  go_wp2;rw [<-hZ];clear hZ;go_region_held3 (λw'=>w'.cell? ⟨L.lb,3,none⟩=some (.slice (some ⟨L.tb,0,none⟩) f.s.n f.s.n)) (exact c3) (first|((with_reducible refine cN.mono ?_);rintro e w' ⟨rfl,rfl⟩))
  go_wp2;go_region_held3 (λw'=>w'.cell? ⟨L.lb,1,none⟩=some (.pointer (some ⟨L.q.p,0,none⟩))/\w'.cell? ⟨L.lb,2,none⟩=some (.int .i64 L.a1)) (first|exact ⟨c1,c2⟩|exact ⟨d1,d2⟩) (first|((with_reducible refine cA.mono ?_);intro e w2 hq;unfold AE at hq;obtain ⟨rfl,hP,hW⟩:=hq;have hA:=HE.out.2.2.2.drew.drew.lk.Ac hP hW;have AJ:=Fr.call HE.out.1 HE.out.2.2.2.drew.drew hA (B_ hW);have d1:=hA.raw.cell1;have d2:=hA.raw.AY;have y0:=hA.raw.Dw HE.out.2.1;have y1:=hA.raw.EB HE.out.2.1;rw [HE.out.2.2.1.2] at y0;have z0:=hA.raw.BO (k*2);have hT:=hA.PU k 2 (by omega) (HO.out.trans H0.out.symm) (λq=>⟨by omega,λ_=>H0.out⟩);have Az:=Fr.call HE.out.1 AJ hT.1 (BH hT.2);obtain ⟨v0,v1,v2,v3⟩:=Az.cell;obtain ⟨x0,x1,x2,x3⟩:=Az.Am;have HT:=Qw Az;clear Az hT;clear hA AJ hP hW))
  go_wp2;exact zz0
 ·rw [Qj rfl,Qj rfl]
  go_in
  go_wp2;rw [<-hZ];clear hZ;go_region_held3 (λw'=>w'.cell? ⟨L.lb,3,none⟩=some (.slice (some ⟨L.tb,0,none⟩) f.s.n f.s.n)) (exact c3) (first|((with_reducible refine cN.mono ?_);rintro e w' ⟨rfl,rfl⟩))
  go_wp2;go_region_held3 (λw'=>w'.cell? ⟨L.lb,1,none⟩=some (.pointer (some ⟨L.q.p,0,none⟩))/\w'.cell? ⟨L.lb,2,none⟩=some (.int .i64 L.a1)) (first|exact ⟨c1,c2⟩|exact ⟨d1,d2⟩) (first|((with_reducible refine cA.mono ?_);intro e w2 hq;unfold AE at hq;obtain ⟨rfl,hP,hW⟩:=hq;have hA:=HE.out.2.2.2.drew.drew.lk.Ac hP hW;have AJ:=Fr.call HE.out.1 HE.out.2.2.2.drew.drew hA (B_ hW);have d1:=hA.raw.cell1;have d2:=hA.raw.AY;have y0:=hA.raw.Dw HE.out.2.1;have y1:=hA.raw.EB HE.out.2.1;have HA:=Qw AJ;have cE:=EF hA k HE.out.2.1 3;clear hA AJ hP hW))
  exact zz7f
theorem LK {w:World} {L:Lp} {f:FL} (h:LkAt w L f) (k:Nat) (hk:k<f.s.n) (u:Int) (hs:f.s.st k=3) (hd:f.pc k=3) (hD:f.ps.D.length<4611686018427387904):
  Calls prog 163 #[.pointer (some ⟨L.lb,0,none⟩),.int .i64 (k:Int),.int .i64 u] w (AP w L (f.rel L k u) (f.AX L k u).val):=by
 have e1:f.rel L k u={f with pc:=upd f.pc k 0,ps:=A5 f.ps u 2 (L.lk (f.A9 k-1)) 0 0}:=by unfold FL.rel;rw [Qq (by omega),Qq (by omega),Qq (by omega)]
 have e2:f.AX L k u=⟨3,false,false,false⟩:=by unfold FL.AX;rw [Qq (by omega),Qq (by omega),Qq (by omega)]
 rw [e1,e2];clear e1 e2;obtain ⟨bo,a0,a1,a2⟩:=h.bd k;have hF:=Fr.start h;obtain ⟨Z,hZ⟩:∃ Z,Z=w.alloc (.cells #[.int .i64 0,.bool false,.bool false,.bool false] 102):=⟨_,rfl⟩
 rw [<-hZ] at hF;have DL:=h.raw.seat.n2;have kn:0<=(k:Int)+1/\(k:Int)+1<4294967296:=by omega
 have c1:=hF.drew.lk.raw.cell1;have c2:=hF.drew.lk.raw.AY;have c3:=hF.lk.raw.AV;have t0:=hF.drew.lk.raw.Dw hk;have t1:=hF.drew.lk.raw.EB hk;rw [hd] at t0;have Hi:G3 f.pc f.A9 k=f.A9 k:=by unfold G3;rw [hd];rfl
 have cN:=CS Z.drew k (by omega);rw [Hi] at t1;have cG:=Ht hF.drew.drew.lk (f.A9 k) (f.A9 k-1) bo rfl;have cA:=B0 hF.drew.drew.lk.port u (L.lk (f.A9 k-1)) 0 (by omega) (by omega) hD;have HE:=Qw (Qz h (Qz hk (Qz (Qz hs hd) hF)));have HO:=Qw Hi;have HI:=Qw (Qz h.raw.inv (Qz bo kn));have Cy:(k:Int)<f.s.n:=by omega
 clear h hF bo a0 a1 a2 Hi hs hd kn
 go_in
 go_wp2;rw [<-hZ];clear hZ;go_region_held3 (λw'=>w'.cell? ⟨L.lb,3,none⟩=some (.slice (some ⟨L.tb,0,none⟩) f.s.n f.s.n)) (exact c3) (first|((with_reducible refine cN.mono ?_);rintro e w' ⟨rfl,rfl⟩))
 go_wp2;go_region_held3 (λw'=>w'.cell? ⟨L.lb,1,none⟩=some (.pointer (some ⟨L.q.p,0,none⟩))/\w'.cell? ⟨L.tb,k*2+1,none⟩=some (.int .u32 (f.A9 k))) (first|exact ⟨c1,t1⟩|exact ⟨d1,y1⟩) (first|((with_reducible refine cG.mono ?_);rintro e w' ⟨rfl,rfl⟩)|((with_reducible refine cA.mono ?_);intro e w2 hq;unfold AE at hq;obtain ⟨rfl,hP,hW⟩:=hq;have hA:=HE.out.2.2.2.drew.drew.lk.Ac hP hW;have AJ:=Fr.call HE.out.1 HE.out.2.2.2.drew.drew hA (B_ hW);have d1:=hA.raw.cell1;have d2:=hA.raw.AY;have y0:=hA.raw.Dw HE.out.2.1;have y1:=hA.raw.EB HE.out.2.1;rw [HO.out] at y1;have HA:=Qw AJ;have cE:=EF hA k HE.out.2.1 3;clear hA AJ hP hW))
 exact zz7f
theorem EU {w:World} {L:Lp} {f:FL} (h:LkAt w L f) (k:Nat) (hk:k<f.s.n) (u:Int) (hs:f.s.st k=3) (hD:f.ps.D.length<4611686018427387904):
  Calls prog 163 #[.pointer (some ⟨L.lb,0,none⟩),.int .i64 (k:Int),.int .i64 u] w (AP w L (f.rel L k u) (f.AX L k u).val):=by
 have hr:=(h.raw.BP k).1;have hi:=(h.raw.inv k (by rw [hs];decide)).1;have:f.pc k=0\/f.pc k=1\/f.pc k=2\/f.pc k=3:=by omega
 rcases this with hd|hd|hd|hd
 ·exact LI h k hk u hs hd hD
 ·exact LJ h k hk u hs hd hD
 ·exact VD h k hk u hs hd hD
 ·exact LK h k hk u hs hd hD
theorem J7 {w:World} {L:Lp} {f:FL} (h:LkAt w L f) (k:Nat) (hk:k<f.s.n) (u:Int) (hD:f.ps.D.length<4611686018427387904):
  Calls prog 164 #[.pointer (some ⟨L.lb,0,none⟩),.int .i64 (k:Int),.int .i64 u] w (AP w L (f.ask L k u) (f.CW L k u).val):=by
 unfold FL.ask FL.CW;have hF:=Fr.start h;obtain ⟨Z,hZ⟩:∃ Z,Z=w.alloc (.cells #[.int .i64 0,.bool false,.bool false,.bool false] 102):=⟨_,rfl⟩
 rw [<-hZ] at hF;have DL:=h.raw.seat.n2;have kn:0<=(k:Int)+1/\(k:Int)+1<4294967296:=by omega
 have c1:=hF.lk.raw.cell1;have cN:=CS Z.drew k (by omega);have cG:=E0 hF.drew.lk ((k:Int)+1) k kn (by omega);have cA:=Al hF.drew.lk.port u (L.nx k) hD;generalize A6 f.ps u 1 (L.nx k)=v at*;have HE:=Qw (Qz h (Qz hk hF));clear h hF kn;by_cases hx:v=0
 ·rw [Qj hx]
  subst hx
  go_in
  go_wp2;rw [<-hZ];clear hZ;go_region_held3 (λw'=>w'.cell? ⟨L.lb,1,none⟩=some (.pointer (some ⟨L.q.p,0,none⟩))) (first|exact c1|exact d1) (first|((with_reducible refine cN.mono ?_);rintro e w' ⟨rfl,rfl⟩)|((with_reducible refine cG.mono ?_);rintro e w' ⟨rfl,rfl⟩)|((with_reducible refine cA.mono ?_);intro e w2 hq;unfold AE at hq;obtain ⟨rfl,hP,hW⟩:=hq;have hA:=HE.out.2.2.drew.lk.Ac hP hW;have AJ:=Fr.call HE.out.1 HE.out.2.2.drew hA (B_ hW);have d1:=hA.raw.cell1;have d2:=hA.raw.AY;obtain ⟨v0,v1,v2,v3⟩:=AJ.cell;obtain ⟨x0,x1,x2,x3⟩:=AJ.Am;have HT:=Qw AJ;clear hA AJ hP hW))
  exact zz2y
 ·rw [Qq hx]
  have b1:(v != 0)=true:=by simpa [bne,BEq.beq] using hx
  clear hx
  go_in
  go_wp2;rw [<-hZ];clear hZ;go_region_held3 (λw'=>w'.cell? ⟨L.lb,1,none⟩=some (.pointer (some ⟨L.q.p,0,none⟩))) (first|exact c1|exact d1) (first|((with_reducible refine cN.mono ?_);rintro e w' ⟨rfl,rfl⟩)|((with_reducible refine cG.mono ?_);rintro e w' ⟨rfl,rfl⟩)|((with_reducible refine cA.mono ?_);intro e w2 hq;unfold AE at hq;obtain ⟨rfl,hP,hW⟩:=hq;have hA:=HE.out.2.2.drew.lk.Ac hP hW;have AJ:=Fr.call HE.out.1 HE.out.2.2.drew hA (B_ hW);have d1:=hA.raw.cell1;have d2:=hA.raw.AY;obtain ⟨v0,v1,v2,v3⟩:=AJ.cell;obtain ⟨x0,x1,x2,x3⟩:=AJ.Am;have HT:=Qw AJ;clear hA AJ hP hW))
  exact zz2z
open _root_.Go.Proofs.Tryz Go.Deep
theorem FL.MZ (f:FL) (L:Lp) (t u:Int):∀ j:Nat,(j:Int)=t->(f.mid L t u).s.st j=1->(f.did L t u).ev≠0->(f.mid L t u).pc j=0:=by
 intro j hj h1 hd;rw [f.CO] at h1;subst hj;unfold FL.did at hd;unfold FL.mid;by_cases hr:0<=(j:Int)/\(j:Int)<f.s.n
 ·rw [Qj hr,Int.toNat_natCast,Qj h1] at hd ⊢
  unfold FL.A7 at hd;unfold FL.acq;by_cases p0:f.pc j=0
  ·rw [Qj p0] at hd;exact absurd rfl hd
  rw [Qq p0] at hd ⊢;by_cases p1:f.pc j=1
  ·rw [Qj p1] at hd ⊢
   by_cases q:A6 f.ps u 3 L.a1=0
   ·rw [Qj q];exact upd_same _ _ _
   ·rw [Qq q] at hd;exact absurd rfl hd
  rw [Qq p1] at hd ⊢;by_cases p2:f.pc j=2
  ·rw [Qj p2] at hd;exact absurd rfl hd
  rw [Qq p2] at hd ⊢;by_cases p3:f.pc j=3
  ·rw [Qj p3] at hd;exact absurd rfl hd
  rw [Qq p3] at hd ⊢;by_cases q:A6 f.ps u 1 (L.lk j)=0
  ·rw [Qj q];exact upd_same _ _ _
  ·rw [Qq q] at hd;exact absurd rfl hd
 ·rw [Qq hr] at hd;exact absurd rfl hd
structure Fd (w:World) (B:Nat) (X:World) (L:Lp) (f:FL) (C:Nat) (d:Dd):Prop where
 fr:Fr w B X L f
 did:X.heap[C]? =some (.cells (Eh d) 102 (0,0))
 far:w.heap.size<=C
 ne:C≠B
theorem Fd.cell {w X:World} {B C:Nat} {L:Lp} {f:FL} {d:Dd} (h:Fd w B X L f C d):X.cell? ⟨C,0,none⟩=some (.int .i64 d.ev)/\X.cell? ⟨C,1,none⟩=some (.bool d.BW)/\X.cell? ⟨C,2,none⟩=some (.bool d.arr)/\X.cell? ⟨C,3,none⟩=some (.bool d.lead):=zz1y
theorem Fd.Am {w X:World} {B C:Nat} {L:Lp} {f:FL} {d:Dd} (h:Fd w B X L f C d):X.frozen? ⟨C,0,none⟩=false/\X.frozen? ⟨C,1,none⟩=false/\X.frozen? ⟨C,2,none⟩=false/\X.frozen? ⟨C,3,none⟩=false:=
 ⟨A4 h.did 0,A4 h.did 1,A4 h.did 2,A4 h.did 3⟩
theorem Fd.call {w X Y:World} {B C:Nat} {L:Lp} {f g f0:FL} {d:Dd} (h0:LkAt w L f0) (h:Fd w B X L f C d) (hl:LkAt Y L g) (k:Wr (LF L) X Y):Fd w B Y L g C d:=
 ⟨Fr.call h0 h.fr hl k,(k.block C (A2 h.did) (λe=>by have:=h0.Cz e;have:=h.far;omega)).trans h.did,h.far,h.ne⟩
theorem Fd.keep {w X:World} {B C:Nat} {L:Lp} {f f0:FL} {d:Dd} (h0:LkAt w L f0) (h:Fd w B X L f C d) (d':Dd):
  Fd w B ((((X.setCell ⟨C,0,none⟩ (.int .i64 d'.ev)).setCell ⟨C,1,none⟩ (.bool d'.BW)).setCell ⟨C,2,none⟩ (.bool d'.arr)).setCell ⟨C,3,none⟩ (.bool d'.lead)) L f C d':=zzd
theorem Fd.ends {w X Y:World} {B C:Nat} {L:Lp} {f g:FL} {d:Dd} (h0:LkAt w L f) (h:Fd w B X L g C d) {s':SS} (hS:SeatAt Y L.p L.b s') (hn:g.s.Kp s' g.pc) (k:Wr (One L.b) X Y):Fd w B Y L {g with s:=s'} C d:=
 h.call h0 (h.fr.lk.seats hS hn k) (CH k)
theorem C5 {w:World} {L:Lp} {f:FL} (h:LkAt w L f) (cs:Array Value):
  Fd w (w.heap.size+1) (((w.alloc (.cells cs 229)).alloc (.cells #[.int .i64 0,.bool false,.bool false,.bool false] 102)).alloc (.cells #[.int .i64 0,.bool false,.bool false,.bool false] 102)) L f (w.heap.size+1+1) Dd.no/\
  (((w.alloc (.cells cs 229)).alloc (.cells #[.int .i64 0,.bool false,.bool false,.bool false] 102)).alloc (.cells #[.int .i64 0,.bool false,.bool false,.bool false] 102)).heap[w.heap.size]? =some (.cells cs 229 (0,0)):=zz3
theorem Cq {w:World} {L:Lp} {f:FL} (h:LkAt w L f) (t u:Int) (hD:f.ps.D.length<4611686018427387904):
  Calls prog 136 #[.pointer (some ⟨L.p,0,none⟩),.int .i64 t,.int .i64 u,.agg #[Value.func (.func 162) #[.pointer (some ⟨L.lb,0,none⟩)] #[],Value.func (.func 163) #[.pointer (some ⟨L.lb,0,none⟩)] #[],Value.func (.func 164) #[.pointer (some ⟨L.lb,0,none⟩)] #[]]] w (AP w L (f.step L t u) (f.did L t u).val):=by
 obtain ⟨hF,hB⟩:=C5 h #[Value.func (.func 162) #[.pointer (some ⟨L.lb,0,none⟩)] #[],Value.func (.func 163) #[.pointer (some ⟨L.lb,0,none⟩)] #[],Value.func (.func 164) #[.pointer (some ⟨L.lb,0,none⟩)] #[]];obtain ⟨Z,hZ⟩:∃ Z,Z=((w.alloc (.cells #[Value.func (.func 162) #[.pointer (some ⟨L.lb,0,none⟩)] #[],Value.func (.func 163) #[.pointer (some ⟨L.lb,0,none⟩)] #[],Value.func (.func 164) #[.pointer (some ⟨L.lb,0,none⟩)] #[]] 229)).alloc (.cells #[.int .i64 0,.bool false,.bool false,.bool false] 102)).alloc (.cells #[.int .i64 0,.bool false,.bool false,.bool false] 102):=⟨_,rfl⟩
 rw [<-hZ] at hF hB;have b0:Z.cell? ⟨w.heap.size,0,none⟩=some (Value.func (.func 162) #[.pointer (some ⟨L.lb,0,none⟩)] #[]):=(A1 hB 0).trans rfl;have b1:Z.cell? ⟨w.heap.size,1,none⟩=some (Value.func (.func 163) #[.pointer (some ⟨L.lb,0,none⟩)] #[]):=(A1 hB 1).trans rfl;have b2:Z.cell? ⟨w.heap.size,2,none⟩=some (Value.func (.func 164) #[.pointer (some ⟨L.lb,0,none⟩)] #[]):=(A1 hB 2).trans rfl;have cS:=De hF.fr.lk.raw.seat t;obtain ⟨v0,v1,v2,v3⟩:=hF.fr.cell;obtain ⟨x0,x1,x2,x3⟩:=hF.fr.Am;obtain ⟨p0,p1,p2,p3⟩:=hF.cell;have hn:=h.raw.seat.n2;by_cases ht:0<=t/\t<f.s.n
 ·obtain ⟨k,rfl⟩:=Qx ht.1
  have hk:k<f.s.n:=by omega
  have eS:f.s.FD (k:Int)=f.s.st k:=by unfold SS.FD;rw [Qj ht,Int.toNat_natCast]
  rw [eS] at cS;by_cases h1:f.s.st k=1
  ·have e1:f.mid L k u=f.acq L k u:=by unfold FL.mid;rw [Qj ht,Int.toNat_natCast,Qj h1]
   have e2:f.did L k u=f.A7 L k u:=by unfold FL.did;rw [Qj ht,Int.toNat_natCast,Qj h1]
   have es:=f.CO L k u;have ek:=f.MZ L k u;unfold FL.step;rw [e1] at es;rw [e1,e2] at ek;rw [e1,e2];rw [h1] at cS;have cA:=ET hF.fr.lk k hk u h1 hD;generalize f.acq L k u=g at*;generalize f.A7 L k u=d at*;have HE:=Qw (Qz h (Qz hF (Qz es ek)));have HZ:=Qw hZ;clear h hF eS e1 e2 hB es ek hZ h1;exact zz8
  by_cases h3:f.s.st k=3
  ·have e1:f.mid L k u=f.rel L k u:=by unfold FL.mid;rw [Qj ht,Int.toNat_natCast,Qq h1,Qj h3]
   have e2:f.did L k u=f.AX L k u:=by unfold FL.did;rw [Qj ht,Int.toNat_natCast,Qq h1,Qj h3]
   have es:=f.CO L k u;have ek:=f.MZ L k u;unfold FL.step;rw [e1] at es;rw [e1,e2] at ek;rw [e1,e2];rw [h3] at cS;have cA:=EU hF.fr.lk k hk u h3 hD;generalize f.rel L k u=g at*;generalize f.AX L k u=d at*;have HE:=Qw (Qz h (Qz hF (Qz es ek)));have HZ:=Qw hZ;clear h hF eS e1 e2 hB es ek hZ h1 h3;exact zz8
  by_cases h4:f.s.st k=4
  ·have e1:f.mid L k u=f.ask L k u:=by unfold FL.mid;rw [Qj ht,Int.toNat_natCast,Qq h1,Qq h3,Qj h4]
   have e2:f.did L k u=f.CW L k u:=by unfold FL.did;rw [Qj ht,Int.toNat_natCast,Qq h1,Qq h3,Qj h4]
   have es:=f.CO L k u;have ek:=f.MZ L k u;unfold FL.step;rw [e1] at es;rw [e1,e2] at ek;rw [e1,e2];rw [h4] at cS;have cA:=J7 hF.fr.lk k hk u hD;generalize f.ask L k u=g at*;generalize f.CW L k u=d at*;have HE:=Qw (Qz h (Qz hF (Qz es ek)));have HZ:=Qw hZ;clear h hF eS e1 e2 hB es ek hZ h1 h3 h4;exact zz8
  have e1:f.mid L k u=f:=by unfold FL.mid;rw [Qj ht,Int.toNat_natCast,Qq h1,Qq h3,Qq h4]
  have e2:f.did L k u=Dd.no:=by unfold FL.did;rw [Qj ht,Int.toNat_natCast,Qq h1,Qq h3,Qq h4]
  have ek:=f.MZ L k u;rw [e1,e2] at ek;have hK:=hF;have cE:=Bb hK.fr.lk.raw.seat (k:Int) Dd.no.ev;have HE:=Qw (Qz h (Qz hF ek));have HK:=Qw hK;have HZ:=Qw hZ;unfold FL.step;rw [e1,e2];clear h hF hK eS e1 e2 ek hB hZ b0 b1 b2;generalize f.s.st k=x at*;generalize f.s.n=n at*;exact zz7b
 ·have eS:f.s.FD t=0:=Qq ht
  rw [eS] at cS;have e1:f.mid L t u=f:=by unfold FL.mid;rw [Qq ht]
  have e2:f.did L t u=Dd.no:=by unfold FL.did;rw [Qq ht]
  have ek:=f.MZ L t u;rw [e1,e2] at ek;have hK:=hF;have cE:=Bb hK.fr.lk.raw.seat t Dd.no.ev;have HE:=Qw (Qz h (Qz hF ek));have HK:=Qw hK;have HZ:=Qw hZ;unfold FL.step;rw [e1,e2];clear h hF hK eS e1 e2 ek hB hZ b0 b1 b2 ht;exact zz7b
theorem CB {w:World} {L:Lp} {f:FL} (h:LkAt w L f) (t u x:Int) (hD:f.ps.D.length<4611686018427387904):
  Calls prog 160 #[.pointer (some ⟨L.lb,0,none⟩),.int .i64 t,.int .i64 u,.int .i64 x] w (AP w L (f.step L t u) (f.did L t u).val):=zz6
end Go.Proofs.YtmnephejhkfchaaGreat.Km
