
import Derived.Test.YtmnephejhkfchaaGreatBuVia
namespace Go.Proofs.YtmnephejhkfchaaGreat.Kf
open _root_.Go.Proofs.Tryz
open Go.RowKit
set_option linter.unusedVariables false
set_option maxRecDepth 100000
def Ct (num:Nat->Int) (dr:Nat->Bool) (t:Nat):List Value:=[.int .u32 (num t),.bool (dr t)]
theorem Ah (num:Nat->Int) (dr:Nat->Bool):∀ x,(Ct num dr x).length=2:=λ_=>rfl
def BS (n:Nat) (num:Nat->Int) (dr:Nat->Bool):List Value:=(List.range n).flatMap (Ct num dr)
theorem BB (n:Nat) (num:Nat->Int) (dr:Nat->Bool) {k:Nat} (hk:k<n) {j:Nat} (hj:j<2):(BS n num dr)[k*2+j]? =(Ct num dr k)[j]? :=Cb (Ah num dr) _ (by rw [List.getElem?_range hk]) hj
structure FlRaw (w:World) (L:Lp) (pv:Value) (s:SS) (num:Nat->Int) (dr:Nat->Bool):Prop where
 obj:w.heap[L.lb]? =some (.cells #[.pointer (some ⟨L.p,0,none⟩),pv,.int .i64 L.a1,.int .i64 L.a2,.slice (some ⟨L.tb,0,none⟩) s.n s.n] 114 (0,0))
 seat:SeatAt w L.p L.b s
 tick:w.heap[L.tb]? =some (.cells (BS s.n num dr).toArray 232 (0,0))
 ne:L.lb≠L.b/\L.lb≠L.tb/\L.p≠L.tb/\L.b≠L.tb/\L.lb≠L.p
 BP:∀ k,0<=num k/\num k<4294967296
namespace FlRaw
variable {w w':World} {L:Lp} {pv:Value} {s:SS} {num:Nat->Int} {dr:Nat->Bool}
theorem wrote {S:Nat->Prop} (h:FlRaw w L pv s num dr) (k:Wr S w w') (h1:¬ S L.lb) (h2:¬ S L.p) (h3:¬ S L.b) (h4:¬ S L.tb):FlRaw w' L pv s num dr:=
 ⟨(k.block _ (A2 h.obj) h1).trans h.obj,h.seat.wrote k h2 h3,(k.block _ (A2 h.tick) h4).trans h.tick,h.ne,h.BP⟩
theorem after (h:FlRaw w L pv s num dr) (k:Wr Nil w w'):FlRaw w' L pv s num dr:=h.wrote k id id id id
theorem seats {s':SS} (h:FlRaw w L pv s num dr) (hS:SeatAt w' L.p L.b s') (hn:s'.n=s.n) (k:Wr (One L.b) w w'):FlRaw w' L pv s' num dr:=by
 refine ⟨?_,hS,?_,h.ne,h.BP⟩
 ·exact zz3o
 ·exact zz3b
theorem cell0 (h:FlRaw w L pv s num dr):w.cell? ⟨L.lb,0,none⟩=some (.pointer (some ⟨L.p,0,none⟩)):=by rw [A1 h.obj];rfl
theorem cell1 (h:FlRaw w L pv s num dr):w.cell? ⟨L.lb,1,none⟩=some pv:=by rw [A1 h.obj];rfl
theorem AY (h:FlRaw w L pv s num dr):w.cell? ⟨L.lb,2,none⟩=some (.int .i64 L.a1):=by rw [A1 h.obj];rfl
theorem AV (h:FlRaw w L pv s num dr):w.cell? ⟨L.lb,3,none⟩=some (.int .i64 L.a2):=by rw [A1 h.obj];rfl
theorem Av (h:FlRaw w L pv s num dr):w.cell? ⟨L.lb,4,none⟩=some (.slice (some ⟨L.tb,0,none⟩) s.n s.n):=by rw [A1 h.obj];rfl
theorem frozen (h:FlRaw w L pv s num dr) (k:Nat):w.frozen? ⟨L.lb,k,none⟩=false:=A4 h.obj k
theorem Dw (h:FlRaw w L pv s num dr) {k:Nat} (hk:k<s.n):w.cell? ⟨L.tb,k*2,none⟩=some (.int .u32 (num k)):=by
 rw [A1 h.tick,List.getElem?_toArray];exact BB s.n num dr hk (j:=0) (by decide)
theorem EB (h:FlRaw w L pv s num dr) {k:Nat} (hk:k<s.n):w.cell? ⟨L.tb,k*2+1,none⟩=some (.bool (dr k)):=by
 rw [A1 h.tick,List.getElem?_toArray];exact BB s.n num dr hk (j:=1) (by decide)
theorem BO (h:FlRaw w L pv s num dr) (k:Nat):w.frozen? ⟨L.tb,k,none⟩=false:=A4 h.tick k
theorem IW (h:FlRaw w L pv s num dr) {k:Nat} (hk:k<s.n) (x:Int) (hx:0<=x/\x<4294967296):
  FlRaw (w.setCell ⟨L.tb,k*2,none⟩ (.int .u32 x)) L pv s (upd num k x) dr/\Wr (One L.tb) w (w.setCell ⟨L.tb,k*2,none⟩ (.int .u32 x)):=by
 have hW:Wr (One L.tb) w (w.setCell ⟨L.tb,k*2,none⟩ (.int .u32 x)):=(Wr.refl _ w).setCell _ _ λ_=>rfl;refine ⟨⟨(hW.block _ (A2 h.obj) h.ne.2.1).trans h.obj,h.seat.wrote hW h.ne.2.2.1 h.ne.2.2.2.1,?_,h.ne,λj=> ?_⟩,hW⟩
 ·rw [A3 h.tick,List.setIfInBounds_toArray]
  congr 3
  refine Bi (Ah num dr) (Ah _ _) _ k 0 (by decide) _ λi t ht l hl=> ?_;obtain ⟨_,rfl⟩:i<s.n/\t=i:=zzx;exact zz7n
 ·by_cases e:j=k
  ·subst e;rw [upd_same];exact hx
  ·rw [A0 _ _ e];exact h.BP j
theorem Mz (h:FlRaw w L pv s num dr) {k:Nat} (hk:k<s.n) (y:Bool):
  FlRaw (w.setCell ⟨L.tb,k*2+1,none⟩ (.bool y)) L pv s num (upd dr k y)/\Wr (One L.tb) w (w.setCell ⟨L.tb,k*2+1,none⟩ (.bool y)):=by
 have hW:Wr (One L.tb) w (w.setCell ⟨L.tb,k*2+1,none⟩ (.bool y)):=(Wr.refl _ w).setCell _ _ λ_=>rfl;refine ⟨⟨(hW.block _ (A2 h.obj) h.ne.2.1).trans h.obj,h.seat.wrote hW h.ne.2.2.1 h.ne.2.2.2.1,?_,h.ne,h.BP⟩,hW⟩;rw [A3 h.tick,List.setIfInBounds_toArray]
 congr 3
 refine Bi (Ah num dr) (Ah _ _) _ k 1 (by decide) _ λi t ht l hl=> ?_;obtain ⟨_,rfl⟩:i<s.n/\t=i:=zzx;exact zz7o
theorem Jg (h:FlRaw w L pv s num dr) {k:Nat} (hk:k<s.n) (x:Int) (y:Bool) (hx:0<=x/\x<4294967296):
  FlRaw ((w.setCell ⟨L.tb,k*2,none⟩ (.int .u32 x)).setCell ⟨L.tb,k*2+1,none⟩ (.bool y)) L pv s (upd num k x) (upd dr k y)/\Wr (One L.tb) w ((w.setCell ⟨L.tb,k*2,none⟩ (.int .u32 x)).setCell ⟨L.tb,k*2+1,none⟩ (.bool y)):=by
 obtain ⟨h1,Gk⟩:=h.IW hk x hx;obtain ⟨h2,Ba⟩:=h1.Mz hk y;exact ⟨h2,Gk.trans Ba λ_ _ x=>x⟩
theorem use (h:FlRaw w L pv s num dr) (v:Value):FlRaw (w.setCell ⟨L.lb,1,none⟩ v) L v s num dr:=by
 have hW:Wr (One L.lb) w (w.setCell ⟨L.lb,1,none⟩ v):=(Wr.refl _ w).setCell _ _ λ_=>rfl;refine ⟨?_,h.seat.wrote hW (λe=>h.ne.2.2.2.2 e.symm) (λe=>h.ne.1 e.symm),(hW.block _ (A2 h.tick) (λe=>h.ne.2.1 e.symm)).trans h.tick,h.ne,h.BP⟩;rw [A3 h.obj];rfl
theorem place (h:FlRaw w L pv s num dr) (q:Place) (hs:List Int):FlRaw w {L with q:=q,hs:=hs} pv s num dr:=⟨h.obj,h.seat,h.tick,h.ne,h.BP⟩
end FlRaw
abbrev Ey (w:World) (L:Lp) (pv:Value) (f:FL):Prop:=FlRaw w L pv f.s f.num f.dr
structure LkAt (w:World) (L:Lp) (f:FL):Prop where
 raw:FlRaw w L (.pointer (some ⟨L.q.p,0,none⟩)) f.s f.num f.dr
 port:PortAt w L.q L.hs f.ps
 far:L.lb<L.q.k0/\L.p<L.q.k0/\L.b<L.q.k0/\L.tb<L.q.k0
 top:L.q.k3<=w.heap.size
def LF (L:Lp) (k:Nat):Prop:=k=L.b\/k=L.tb\/Bk L.q.k0 L.q.k3 k
namespace LkAt
variable {w w':World} {L:Lp} {f:FL}
theorem wrote {S:Nat->Prop} (h:LkAt w L f) (k:Wr S w w') (h1:¬ S L.lb) (h2:¬ S L.p) (h3:¬ S L.b) (h4:¬ S L.tb) (h5:∀ b,L.q.k0<=b->b<L.q.k3->¬ S b):LkAt w' L f:=
 ⟨h.raw.wrote k h1 h2 h3 h4,h.port.wrote k h5,h.far,Nat.le_trans h.top k.size⟩
theorem after (h:LkAt w L f) (k:Wr Nil w w'):LkAt w' L f:=h.wrote k id id id id λ_ _ _=>id
theorem seats {s':SS} (h:LkAt w L f) (hS:SeatAt w' L.p L.b s') (hn:s'.n=f.s.n) (k:Wr (One L.b) w w'):LkAt w' L {f with s:=s'}:=
 ⟨h.raw.seats hS hn k,h.port.wrote k λb b1 _ e=>by have:=h.far.2.2.1;cases e;omega,h.far,Nat.le_trans h.top k.size⟩
theorem Ac {ps':AK} (h:LkAt w L f) (hP:PortAt w' L.q L.hs ps') (k:Wr (Bk L.q.k0 L.q.k3) w w'):LkAt w' L {f with ps:=ps'}:=
 ⟨h.raw.wrote k (λe=>by have:=h.far.1;unfold Bk at e;omega) (λe=>by have:=h.far.2.1;unfold Bk at e;omega) (λe=>by have:=h.far.2.2.1;unfold Bk at e;omega) (λe=>by have:=h.far.2.2.2;unfold Bk at e;omega),hP,h.far,Nat.le_trans h.top k.size⟩
theorem My (h:LkAt w L f) {k:Nat} (hk:k<f.s.n) (x:Int) (y:Bool) (hx:0<=x/\x<4294967296):
  LkAt ((w.setCell ⟨L.tb,k*2,none⟩ (.int .u32 x)).setCell ⟨L.tb,k*2+1,none⟩ (.bool y)) L {f with num:=upd f.num k x,dr:=upd f.dr k y}/\Wr (One L.tb) w ((w.setCell ⟨L.tb,k*2,none⟩ (.int .u32 x)).setCell ⟨L.tb,k*2+1,none⟩ (.bool y)):=by
 obtain ⟨h1,hW⟩:=h.raw.Jg hk x y hx;exact zz2v
theorem wf (h:LkAt w L f) (j:Int):0<=BK f.ps.ws j/\BK f.ps.ws j<4294967296:=h.port.mem.Ea j
theorem tell (h:LkAt w L f) (t K a:Int):0<=A6 f.ps t K a/\A6 f.ps t K a<4294967296:=zz2c
end LkAt
def AP (w:World) (L:Lp) (f:FL) (v:Value) (e:Ending) (w':World):Prop:=e= .returned v/\LkAt w' L f/\Wr (LF L) w w'
theorem CH {w w':World} {L:Lp} (k:Wr (One L.b) w w'):Wr (LF L) w w':=k.mono λ_ _ e=> .inl e
theorem BH {w w':World} {L:Lp} (k:Wr (One L.tb) w w'):Wr (LF L) w w':=k.mono λ_ _ e=> .inr (.inl e)
theorem B_ {w w':World} {L:Lp} (k:Wr (Bk L.q.k0 L.q.k3) w w'):Wr (LF L) w w':=k.mono λ_ _ e=> .inr (.inr e)
theorem LkAt.Cz {w:World} {L:Lp} {f:FL} (h:LkAt w L f) {k:Nat} (hk:LF L k):k<w.heap.size:=zz24
def Eh (d:Dd):Array Value:= #[.int .i64 d.ev,.bool d.BW,.bool d.arr,.bool d.lead]
structure Fr (w:World) (B:Nat) (Y:World) (L:Lp) (f:FL):Prop where
 lk:LkAt Y L f
 wr:Wr (LF L) w Y
 res:Y.heap[B]? =some (.cells (Eh Dd.no) 102 (0,0))
 new:w.heap.size<=B
namespace Fr
variable {w X Y:World} {L:Lp} {f f':FL} {B:Nat}
theorem start (h:LkAt w L f):Fr w w.heap.size (w.alloc (.cells #[.int .i64 0,.bool false,.bool false,.bool false] 102)) L f:=
 ⟨h.after ((Wr.refl _ w).alloc _),(Wr.refl _ w).alloc _,Go.Deep.blk_alloc_new w _,Nat.le_refl _⟩
theorem after (h:Fr w B X L f) (k:Wr Nil X Y):Fr w B Y L f:=⟨h.lk.after k,h.wr.trans k λ_ _ e=>e.elim,(k.block _ (A2 h.res) id).trans h.res,h.new⟩
theorem drew (h:Fr w B X L f):Fr w B X.drew L f:=h.after ((Wr.refl _ X).drew)
theorem call {f0:FL} (h0:LkAt w L f') (h:Fr w B X L f) (hl:LkAt Y L f0) (k:Wr (LF L) X Y):Fr w B Y L f0:=
 ⟨hl,h.wr.trans k λ_ _ e=>e,(k.block _ (A2 h.res) (λe=>by have:=h0.Cz e;have:=h.new;omega)).trans h.res,h.new⟩
theorem cell (h:Fr w B X L f):X.cell? ⟨B,0,none⟩=some (.int .i64 0)/\X.cell? ⟨B,1,none⟩=some (.bool false)/\X.cell? ⟨B,2,none⟩=some (.bool false)/\X.cell? ⟨B,3,none⟩=some (.bool false):=zz1z
theorem Am (h:Fr w B X L f):X.frozen? ⟨B,0,none⟩=false/\X.frozen? ⟨B,1,none⟩=false/\X.frozen? ⟨B,2,none⟩=false/\X.frozen? ⟨B,3,none⟩=false:=
 ⟨A4 h.res 0,A4 h.res 1,A4 h.res 2,A4 h.res 3⟩
end Fr
theorem AO {Y:World} {B:Nat} {t:TypeId} {cs:Array Value} (h:Y.heap[B]? =some (.cells cs t (0,0))) (h4:cs.size=4) (x0 x1 x2 x3:Value):
  ((((Y.setCell ⟨B,0,none⟩ x0).setCell ⟨B,1,none⟩ x1).setCell ⟨B,2,none⟩ x2).setCell ⟨B,3,none⟩ x3).heap[B]? =some (.cells #[x0,x1,x2,x3] t (0,0)):=zz1b
theorem C0 (Y:World) (B:Nat) (x0 x1 x2 x3:Value):Wr (One B) Y ((((Y.setCell ⟨B,0,none⟩ x0).setCell ⟨B,1,none⟩ x1).setCell ⟨B,2,none⟩ x2).setCell ⟨B,3,none⟩ x3):=
 ((((Wr.refl (One B) Y).setCell ⟨B,0,none⟩ x0 λ_=>rfl).setCell ⟨B,1,none⟩ x1 λ_=>rfl).setCell ⟨B,2,none⟩ x2 λ_=>rfl).setCell ⟨B,3,none⟩ x3 λ_=>rfl
theorem Fr.told {w Y:World} {L:Lp} {f f0:FL} {B:Nat} (h0:LkAt w L f0) (h:Fr w B Y L f) (d:Dd):
  AP w L f d.val (.returned d.val) ((((Y.setCell ⟨B,0,none⟩ (.int .i64 d.ev)).setCell ⟨B,1,none⟩ (.bool d.BW)).setCell ⟨B,2,none⟩ (.bool d.arr)).setCell ⟨B,3,none⟩ (.bool d.lead)):=zzh
theorem AB:(prog.info? 102).map (·.size)=some 4:=by kernel_rfl
open Go.RowKit Go.BigFrame
theorem Cu {w:World} {L:Lp} {pv:Value} {s:SS} {num:Nat->Int} {dr:Nat->Bool} (h:FlRaw w L pv s num dr) (a:Addr):
  Calls prog 132 #[.pointer (some ⟨L.lb,0,none⟩),.pointer (some a)] w λe w'=>e= .returned (.tuple #[])/\w'=w.setCell ⟨L.lb,1,none⟩ (.pointer (some a)):=zz1t
theorem ED {w:World} {L:Lp} {f:FL} (h:LkAt w L f) (k:Nat) (hk:k<f.s.n) (u:Int) (hd:f.dr k=false) (hD:f.ps.D.length<4611686018427387904):
  Calls prog 137 #[.pointer (some ⟨L.lb,0,none⟩),.int .i64 (k:Int),.int .i64 u] w (AP w L (f.acq L k u) (f.A7 L k u).val):=by
 have e1:f.acq L k u={f with num:=upd f.num k (A6 f.ps u 5 L.a1),dr:=upd f.dr k true,ps:=A5 f.ps u 5 L.a1 0 1}:=by unfold FL.acq;rw [hd];rfl
 have e2:f.A7 L k u=⟨0,true,false,false⟩:=by unfold FL.A7;rw [hd];rfl
 rw [e1,e2];clear e1 e2;have hF:=Fr.start h;obtain ⟨Z,hZ⟩:∃ Z,Z=w.alloc (.cells #[.int .i64 0,.bool false,.bool false,.bool false] 102):=⟨_,rfl⟩
 rw [<-hZ] at hF;have c1:=hF.lk.raw.cell1;have c4:=hF.lk.raw.Av;have Cy:(k:Int)<f.s.n:=by omega
 have DL:=h.raw.seat.n2;have c2:=hF.lk.raw.AY;have t0:=hF.lk.raw.Dw hk;have t1:=hF.lk.raw.EB hk;have z0:=hF.lk.raw.BO (k*2);have z1:=hF.lk.raw.BO (k*2+1);rw [hd] at t1;have cA:=Mh hF.drew.lk.port u L.a1 1 (by omega) (by omega) hD;have HE:=Qw (Qz h (Qz hk (Qz hF (h.tell u 5 L.a1))));clear h hF;rw [hZ] at t1 c4
 go_in
 go_wp2;rw [<-hZ];clear hZ t1 c4;go_region_held3 (λw'=>w'.cell? ⟨L.lb,1,none⟩=some (.pointer (some ⟨L.q.p,0,none⟩))/\w'.cell? ⟨L.lb,2,none⟩=some (.int .i64 L.a1)) (first|exact ⟨c1,c2⟩|exact ⟨d1,d2⟩|exact ⟨g1,g2⟩) (first|((with_reducible refine cA.mono ?_);intro e w2 hq;unfold AE at hq;obtain ⟨rfl,hP,hW⟩:=hq;have hA:=HE.out.2.2.1.drew.lk.Ac hP hW;have Im:=Fr.call HE.out.1 HE.out.2.2.1.drew hA (B_ hW);have d1:=hA.raw.cell1;have d2:=hA.raw.AY;have y0:=hA.raw.Dw HE.out.2.1;have y1:=hA.raw.EB HE.out.2.1;have y2:=hA.raw.BO (k*2);have y3:=hA.raw.BO (k*2+1);have hT:=hA.My HE.out.2.1 (A6 f.ps u 5 L.a1) true HE.out.2.2.2;have g1:=hT.1.raw.cell1;have g2:=hT.1.raw.AY;have AJ:=Fr.call HE.out.1 Im hT.1 (BH hT.2);obtain ⟨v0,v1,v2,v3⟩:=AJ.cell;obtain ⟨x0,x1,x2,x3⟩:=AJ.Am;have HT:=Qw AJ;clear hA Im AJ hT hP hW))
 go_wp2;exact zz11
theorem DT {w:World} {L:Lp} {f:FL} (h:LkAt w L f) (k:Nat) (hk:k<f.s.n) (u:Int) (hd:f.dr k=true) (hD:f.ps.D.length<4611686018427387904):
  Calls prog 137 #[.pointer (some ⟨L.lb,0,none⟩),.int .i64 (k:Int),.int .i64 u] w (AP w L (f.acq L k u) (f.A7 L k u).val):=by
 have e1:f.acq L k u={f with ps:=A5 f.ps u 1 L.a2 0 0}:=by unfold FL.acq;rw [hd];rfl
 have e2:f.A7 L k u=if A6 f.ps u 1 L.a2=f.num k then ⟨1,false,false,false⟩ else Dd.no:=by unfold FL.A7;rw [hd];rfl
 rw [e1,e2];clear e1 e2;have hF:=Fr.start h;obtain ⟨Z,hZ⟩:∃ Z,Z=w.alloc (.cells #[.int .i64 0,.bool false,.bool false,.bool false] 102):=⟨_,rfl⟩
 rw [<-hZ] at hF;have c1:=hF.lk.raw.cell1;have c4:=hF.lk.raw.Av;have Cy:(k:Int)<f.s.n:=by omega
 have DL:=h.raw.seat.n2;have c3:=hF.lk.raw.AV;have t0:=hF.lk.raw.Dw hk;have t1:=hF.lk.raw.EB hk;rw [hd] at t1;have cA:=Al hF.drew.lk.port u L.a2 hD;have HE:=Qw (Qz h (Qz hk hF));clear h hF;rw [hZ] at t1 c4;by_cases hx:A6 f.ps u 1 L.a2=f.num k
 all_goals
  first|rw [Qj hx]|rw [Qq hx]
  have b1:(A6 f.ps u 1 L.a2 != f.num k)=decide (¬ A6 f.ps u 1 L.a2=f.num k):=by simp [bne,BEq.beq]
  first|rw [decide_eq_true hx] at b1|rw [decide_eq_false (not_not_intro hx)] at b1
  go_in
  go_wp2;rw [<-hZ];clear hZ t1 c4;go_region_held3 (λw'=>w'.cell? ⟨L.lb,1,none⟩=some (.pointer (some ⟨L.q.p,0,none⟩))/\w'.cell? ⟨L.lb,3,none⟩=some (.int .i64 L.a2)/\w'.cell? ⟨L.tb,k*2,none⟩=some (.int .u32 (f.num k))) (first|exact ⟨c1,c3,t0⟩|exact ⟨d1,d3,y0⟩) (first|((with_reducible refine cA.mono ?_);intro e w2 hq;unfold AE at hq;obtain ⟨rfl,hP,hW⟩:=hq;have hA:=HE.out.2.2.drew.lk.Ac hP hW;have d1:=hA.raw.cell1;have d3:=hA.raw.AV;have y0:=hA.raw.Dw HE.out.2.1;have AJ:=Fr.call HE.out.1 HE.out.2.2.drew hA (B_ hW);obtain ⟨v0,v1,v2,v3⟩:=AJ.cell;obtain ⟨x0,x1,x2,x3⟩:=AJ.Am;have HT:=Qw AJ;clear hA AJ hP hW))
  all_goals
   go_wp2
   first
    |refine bodyPost_ret (v:=Dd.val ⟨1,false,false,false⟩) (results_cell_row rfl _ _ w.heap.size 102 _ (0,0) _ rfl (AO HT.out.res rfl _ _ _ _) underlying102 rfl AB) rfl (HT.out.told HE.out.1 ⟨1,false,false,false⟩)
    |refine bodyPost_ret (v:=Dd.val ⟨0,false,false,false⟩) (results_cell_row rfl _ _ w.heap.size 102 _ (0,0) _ rfl (AO HT.out.res rfl _ _ _ _) underlying102 rfl AB) rfl (HT.out.told HE.out.1 ⟨0,false,false,false⟩)
theorem ET {w:World} {L:Lp} {f:FL} (h:LkAt w L f) (k:Nat) (hk:k<f.s.n) (u:Int) (hD:f.ps.D.length<4611686018427387904):
  Calls prog 137 #[.pointer (some ⟨L.lb,0,none⟩),.int .i64 (k:Int),.int .i64 u] w (AP w L (f.acq L k u) (f.A7 L k u).val):=by
 cases hd:f.dr k
 ·exact ED h k hk u hd hD
 ·exact DT h k hk u hd hD
theorem EU {w:World} {L:Lp} {f:FL} (h:LkAt w L f) (k:Nat) (hk:k<f.s.n) (u:Int) (hD:f.ps.D.length<4611686018427387904):
  Calls prog 138 #[.pointer (some ⟨L.lb,0,none⟩),.int .i64 (k:Int),.int .i64 u] w (AP w L (f.rel L k u) (Dd.val ⟨3,false,false,false⟩)):=by
 unfold FL.rel;obtain ⟨m,hm⟩:∃ m,m=(f.num k+1)%4294967296:=⟨_,rfl⟩
 have ew:IntKind.u32.wrap (f.num k+1)=m:=by rw [hm];rfl
 have a_:0<=m/\m<4294967296:=by omega
 rw [<-hm];have hF:=Fr.start h;obtain ⟨Z,hZ⟩:∃ Z,Z=w.alloc (.cells #[.int .i64 0,.bool false,.bool false,.bool false] 102):=⟨_,rfl⟩
 rw [<-hZ] at hF;have c1:=hF.lk.raw.cell1;have c4:=hF.lk.raw.Av;have Cy:(k:Int)<f.s.n:=by omega
 have DL:=h.raw.seat.n2;have c3:=hF.lk.raw.AV;have t0:=hF.lk.raw.Dw hk;have cA:=B0 hF.drew.lk.port u L.a2 m a_.1 a_.2 hD;have HE:=Qw (Qz h (Qz hk hF));clear h hF hm a_;rw [hZ] at c4
 go_in
 go_wp2;rw [<-hZ];clear hZ c4;go_region_held3 (λw'=>w'.cell? ⟨L.lb,1,none⟩=some (.pointer (some ⟨L.q.p,0,none⟩))/\w'.cell? ⟨L.lb,3,none⟩=some (.int .i64 L.a2)/\w'.cell? ⟨L.tb,k*2,none⟩=some (.int .u32 (f.num k))) (first|exact ⟨c1,c3,t0⟩|exact ⟨d1,d3,y0⟩) (first|((with_reducible refine cA.mono ?_);intro e w2 hq;unfold AE at hq;obtain ⟨rfl,hP,hW⟩:=hq;have hA:=HE.out.2.2.drew.lk.Ac hP hW;have d1:=hA.raw.cell1;have d3:=hA.raw.AV;have y0:=hA.raw.Dw HE.out.2.1;have y1:=hA.raw.EB HE.out.2.1;have y2:=hA.raw.BO (k*2);have y3:=hA.raw.BO (k*2+1);have AJ:=Fr.call HE.out.1 HE.out.2.2.drew hA (B_ hW);have hT:=hA.My HE.out.2.1 0 false (by omega);have Az:=Fr.call HE.out.1 AJ hT.1 (BH hT.2);obtain ⟨v0,v1,v2,v3⟩:=Az.cell;obtain ⟨x0,x1,x2,x3⟩:=Az.Am;have HT:=Qw Az;clear hA AJ Az hT hP hW))
 go_wp2;exact zzc
theorem J7 {w:World} {L:Lp} {f:FL} (h:LkAt w L f) (k:Nat) (hk:k<f.s.n) (u:Int) (hD:f.ps.D.length<4611686018427387904):
  Calls prog 139 #[.pointer (some ⟨L.lb,0,none⟩),.int .i64 (k:Int),.int .i64 u] w (AP w L (f.ask L k u) (f.CW L k u).val):=by
 unfold FL.ask FL.CW;obtain ⟨m,hm⟩:∃ m,m=(f.num k+1)%4294967296:=⟨_,rfl⟩
 have ew:IntKind.u32.wrap (f.num k+1)=m:=by rw [hm];rfl
 rw [<-hm];have hF:=Fr.start h;obtain ⟨Z,hZ⟩:∃ Z,Z=w.alloc (.cells #[.int .i64 0,.bool false,.bool false,.bool false] 102):=⟨_,rfl⟩
 rw [<-hZ] at hF;have c1:=hF.lk.raw.cell1;have c4:=hF.lk.raw.Av;have Cy:(k:Int)<f.s.n:=by omega
 have DL:=h.raw.seat.n2;have c2:=hF.lk.raw.AY;have t0:=hF.lk.raw.Dw hk;have cA:=Al hF.drew.lk.port u L.a1 hD;have HE:=Qw (Qz h (Qz hk hF));clear h hF hm;by_cases hx:A6 f.ps u 1 L.a1=m
 all_goals
  first|rw [Qj hx]|rw [Qq hx]
  have b1:(A6 f.ps u 1 L.a1 != m)=decide (¬ A6 f.ps u 1 L.a1=m):=by simp [bne,BEq.beq]
  first|rw [decide_eq_true hx] at b1|rw [decide_eq_false (not_not_intro hx)] at b1
  go_in
  go_wp2;rw [<-hZ];clear hZ;go_region_held3 (λw'=>w'.cell? ⟨L.lb,1,none⟩=some (.pointer (some ⟨L.q.p,0,none⟩))/\w'.cell? ⟨L.lb,2,none⟩=some (.int .i64 L.a1)/\w'.cell? ⟨L.lb,4,none⟩=some (.slice (some ⟨L.tb,0,none⟩) f.s.n f.s.n)/\w'.cell? ⟨L.tb,k*2,none⟩=some (.int .u32 (f.num k))) (first|exact ⟨c1,c2,c4,t0⟩|exact ⟨d1,d3,d4,y0⟩) (first|((with_reducible refine cA.mono ?_);intro e w2 hq;unfold AE at hq;obtain ⟨rfl,hP,hW⟩:=hq;have hA:=HE.out.2.2.drew.lk.Ac hP hW;have d1:=hA.raw.cell1;have d3:=hA.raw.AY;have d4:=hA.raw.Av;have y0:=hA.raw.Dw HE.out.2.1;have AJ:=Fr.call HE.out.1 HE.out.2.2.drew hA (B_ hW);obtain ⟨v0,v1,v2,v3⟩:=AJ.cell;obtain ⟨x0,x1,x2,x3⟩:=AJ.Am;have HT:=Qw AJ;clear hA AJ hP hW))
  all_goals
   go_wp2
   first
    |refine bodyPost_ret (v:=Dd.val ⟨4,false,false,false⟩) (results_cell_row rfl _ _ w.heap.size 102 _ (0,0) _ rfl (AO HT.out.res rfl _ _ _ _) underlying102 rfl AB) rfl (HT.out.told HE.out.1 ⟨4,false,false,false⟩)
    |refine bodyPost_ret (v:=Dd.val ⟨5,false,false,false⟩) (results_cell_row rfl _ _ w.heap.size 102 _ (0,0) _ rfl (AO HT.out.res rfl _ _ _ _) underlying102 rfl AB) rfl (HT.out.told HE.out.1 ⟨5,false,false,false⟩)
set_option maxHeartbeats 8000000
open _root_.Go.Proofs.Tryz Go.Deep
structure Fd (w:World) (B:Nat) (X:World) (L:Lp) (f:FL) (C:Nat) (d:Dd):Prop where
 fr:Fr w B X L f
 did:X.heap[C]? =some (.cells (Eh d) 102 (0,0))
 far:w.heap.size<=C
 ne:C≠B
theorem Fd.cell {w X:World} {B C:Nat} {L:Lp} {f:FL} {d:Dd} (h:Fd w B X L f C d):X.cell? ⟨C,0,none⟩=some (.int .i64 d.ev)/\X.cell? ⟨C,1,none⟩=some (.bool d.BW)/\X.cell? ⟨C,2,none⟩=some (.bool d.arr)/\X.cell? ⟨C,3,none⟩=some (.bool d.lead):=zz1y
theorem Fd.Am {w X:World} {B C:Nat} {L:Lp} {f:FL} {d:Dd} (h:Fd w B X L f C d):X.frozen? ⟨C,0,none⟩=false/\X.frozen? ⟨C,1,none⟩=false/\X.frozen? ⟨C,2,none⟩=false/\X.frozen? ⟨C,3,none⟩=false:=
 ⟨A4 h.did 0,A4 h.did 1,A4 h.did 2,A4 h.did 3⟩
theorem Fd.call {w X Y:World} {B C:Nat} {L:Lp} {f g f0:FL} {d:Dd} (h0:LkAt w L f0) (h:Fd w B X L f C d) (hl:LkAt Y L g) (k:Wr (LF L) X Y):Fd w B Y L g C d:=
 ⟨Fr.call h0 h.fr hl k,(k.block C (A2 h.did) (λe=>by have:=h0.Cz e;have:=h.far;omega)).trans h.did,h.far,h.ne⟩
theorem Fd.keep {w X:World} {B C:Nat} {L:Lp} {f f0:FL} {d:Dd} (h0:LkAt w L f0) (h:Fd w B X L f C d) (d':Dd):
  Fd w B ((((X.setCell ⟨C,0,none⟩ (.int .i64 d'.ev)).setCell ⟨C,1,none⟩ (.bool d'.BW)).setCell ⟨C,2,none⟩ (.bool d'.arr)).setCell ⟨C,3,none⟩ (.bool d'.lead)) L f C d':=zzd
theorem Fd.ends {w X Y:World} {B C:Nat} {L:Lp} {f g:FL} {d:Dd} (h0:LkAt w L f) (h:Fd w B X L g C d) {s':SS} (hS:SeatAt Y L.p L.b s') (hn:s'.n=g.s.n) (k:Wr (One L.b) X Y):Fd w B Y L {g with s:=s'} C d:=
 h.call h0 (h.fr.lk.seats hS hn k) (CH k)
theorem C5 {w:World} {L:Lp} {f:FL} (h:LkAt w L f) (cs:Array Value):
  Fd w (w.heap.size+1) (((w.alloc (.cells cs 229)).alloc (.cells #[.int .i64 0,.bool false,.bool false,.bool false] 102)).alloc (.cells #[.int .i64 0,.bool false,.bool false,.bool false] 102)) L f (w.heap.size+1+1) Dd.no/\
  (((w.alloc (.cells cs 229)).alloc (.cells #[.int .i64 0,.bool false,.bool false,.bool false] 102)).alloc (.cells #[.int .i64 0,.bool false,.bool false,.bool false] 102)).heap[w.heap.size]? =some (.cells cs 229 (0,0)):=zz3
theorem Cq {w:World} {L:Lp} {f:FL} (h:LkAt w L f) (t u:Int) (hD:f.ps.D.length<4611686018427387904):
  Calls prog 136 #[.pointer (some ⟨L.p,0,none⟩),.int .i64 t,.int .i64 u,.agg #[Value.func (.func 137) #[.pointer (some ⟨L.lb,0,none⟩)] #[],Value.func (.func 138) #[.pointer (some ⟨L.lb,0,none⟩)] #[],Value.func (.func 139) #[.pointer (some ⟨L.lb,0,none⟩)] #[]]] w (AP w L (f.step L t u) (f.did L t u).val):=by
 obtain ⟨hF,hB⟩:=C5 h #[Value.func (.func 137) #[.pointer (some ⟨L.lb,0,none⟩)] #[],Value.func (.func 138) #[.pointer (some ⟨L.lb,0,none⟩)] #[],Value.func (.func 139) #[.pointer (some ⟨L.lb,0,none⟩)] #[]];obtain ⟨Z,hZ⟩:∃ Z,Z=((w.alloc (.cells #[Value.func (.func 137) #[.pointer (some ⟨L.lb,0,none⟩)] #[],Value.func (.func 138) #[.pointer (some ⟨L.lb,0,none⟩)] #[],Value.func (.func 139) #[.pointer (some ⟨L.lb,0,none⟩)] #[]] 229)).alloc (.cells #[.int .i64 0,.bool false,.bool false,.bool false] 102)).alloc (.cells #[.int .i64 0,.bool false,.bool false,.bool false] 102):=⟨_,rfl⟩
 rw [<-hZ] at hF hB;have b0:Z.cell? ⟨w.heap.size,0,none⟩=some (Value.func (.func 137) #[.pointer (some ⟨L.lb,0,none⟩)] #[]):=(A1 hB 0).trans rfl;have b1:Z.cell? ⟨w.heap.size,1,none⟩=some (Value.func (.func 138) #[.pointer (some ⟨L.lb,0,none⟩)] #[]):=(A1 hB 1).trans rfl;have b2:Z.cell? ⟨w.heap.size,2,none⟩=some (Value.func (.func 139) #[.pointer (some ⟨L.lb,0,none⟩)] #[]):=(A1 hB 2).trans rfl;exact zz1
theorem CB {w:World} {L:Lp} {f:FL} (h:LkAt w L f) (t u x:Int) (hD:f.ps.D.length<4611686018427387904):
  Calls prog 130 #[.pointer (some ⟨L.lb,0,none⟩),.int .i64 t,.int .i64 u,.int .i64 x] w (AP w L (f.step L t u) (f.did L t u).val):=zz6
end Go.Proofs.YtmnephejhkfchaaGreat.Kf
