
import Derived.Test.YtmnephejhkfchaaGreatCoVia
import Derived.Deep.RegionHeld3
namespace Go.Proofs.YtmnephejhkfchaaGreat.Kf
open _root_.Go.Proofs.Tryz
open Go.RowKit
set_option linter.unusedVariables false
set_option maxRecDepth 100000
def tkC (num:Nat→Int) (dr:Nat→Bool) (t:Nat):List Value:=[.int .u32 (num t),.bool (dr t)]
theorem tkC_len (num:Nat→Int) (dr:Nat→Bool):∀ x,(tkC num dr x).length=2:=λ_=>rfl
def tks (n:Nat) (num:Nat→Int) (dr:Nat→Bool):List Value:=(List.range n).flatMap (tkC num dr)
theorem tks_at (n:Nat) (num:Nat→Int) (dr:Nat→Bool) {k:Nat} (hk:k<n) {j:Nat} (hj:j<2):(tks n num dr)[k*2+j]? =(tkC num dr k)[j]? :=flat_at' (tkC_len num dr) _ (by rw [List.getElem?_range hk]) hj
structure FlRaw (w:World) (L:Lp) (pv:Value) (s:SS) (num:Nat→Int) (dr:Nat→Bool):Prop where
 obj:w.heap[L.lb]? =some (.cells #[.pointer (some ⟨L.p,0,none⟩),pv,.int .i64 L.a1,.int .i64 L.a2,.slice (some ⟨L.tb,0,none⟩) s.n s.n] 114 (0,0))
 seat:SeatAt w L.p L.b s
 tick:w.heap[L.tb]? =some (.cells (tks s.n num dr).toArray 232 (0,0))
 ne:L.lb≠L.b∧L.lb≠L.tb∧L.p≠L.tb∧L.b≠L.tb∧L.lb≠L.p
 rng:∀ k,0≤num k∧num k<4294967296
namespace FlRaw
variable {w w':World} {L:Lp} {pv:Value} {s:SS} {num:Nat→Int} {dr:Nat→Bool}
theorem wrote {S:Nat→Prop} (h:FlRaw w L pv s num dr) (k:Wr S w w') (h1:¬ S L.lb) (h2:¬ S L.p) (h3:¬ S L.b) (h4:¬ S L.tb):FlRaw w' L pv s num dr:=
 ⟨(k.block _ (blk_lt h.obj) h1).trans h.obj,h.seat.wrote k h2 h3,(k.block _ (blk_lt h.tick) h4).trans h.tick,h.ne,h.rng⟩
theorem after (h:FlRaw w L pv s num dr) (k:Wr Nil w w'):FlRaw w' L pv s num dr:=h.wrote k id id id id
theorem seats {s':SS} (h:FlRaw w L pv s num dr) (hS:SeatAt w' L.p L.b s') (hn:s'.n=s.n) (k:Wr (One L.b) w w'):FlRaw w' L pv s' num dr:=by
 refine ⟨?_,hS,?_,h.ne,h.rng⟩
 ·rw [hn];exact (k.block _ (blk_lt h.obj) h.ne.1).trans h.obj
 ·rw [hn];exact (k.block _ (blk_lt h.tick) (λe=>h.ne.2.2.2.1 e.symm)).trans h.tick
theorem cell0 (h:FlRaw w L pv s num dr):w.cell? ⟨L.lb,0,none⟩=some (.pointer (some ⟨L.p,0,none⟩)):=by rw [blk_cell h.obj];rfl
theorem cell1 (h:FlRaw w L pv s num dr):w.cell? ⟨L.lb,1,none⟩=some pv:=by rw [blk_cell h.obj];rfl
theorem cell2 (h:FlRaw w L pv s num dr):w.cell? ⟨L.lb,2,none⟩=some (.int .i64 L.a1):=by rw [blk_cell h.obj];rfl
theorem cell3 (h:FlRaw w L pv s num dr):w.cell? ⟨L.lb,3,none⟩=some (.int .i64 L.a2):=by rw [blk_cell h.obj];rfl
theorem cell4 (h:FlRaw w L pv s num dr):w.cell? ⟨L.lb,4,none⟩=some (.slice (some ⟨L.tb,0,none⟩) s.n s.n):=by rw [blk_cell h.obj];rfl
theorem frozen (h:FlRaw w L pv s num dr) (k:Nat):w.frozen? ⟨L.lb,k,none⟩=false:=blk_frozen h.obj k
theorem tk0 (h:FlRaw w L pv s num dr) {k:Nat} (hk:k<s.n):w.cell? ⟨L.tb,k*2,none⟩=some (.int .u32 (num k)):=by
 rw [blk_cell h.tick,List.getElem?_toArray]
 exact tks_at s.n num dr hk (j:=0) (by decide)
theorem tk1 (h:FlRaw w L pv s num dr) {k:Nat} (hk:k<s.n):w.cell? ⟨L.tb,k*2+1,none⟩=some (.bool (dr k)):=by
 rw [blk_cell h.tick,List.getElem?_toArray]
 exact tks_at s.n num dr hk (j:=1) (by decide)
theorem tkz (h:FlRaw w L pv s num dr) (k:Nat):w.frozen? ⟨L.tb,k,none⟩=false:=blk_frozen h.tick k
theorem tset0 (h:FlRaw w L pv s num dr) {k:Nat} (hk:k<s.n) (x:Int) (hx:0≤x∧x<4294967296):
  FlRaw (w.setCell ⟨L.tb,k*2,none⟩ (.int .u32 x)) L pv s (upd num k x) dr∧Wr (One L.tb) w (w.setCell ⟨L.tb,k*2,none⟩ (.int .u32 x)):=by
 have hW:Wr (One L.tb) w (w.setCell ⟨L.tb,k*2,none⟩ (.int .u32 x)):=(Wr.refl _ w).setCell _ _ λ_=>rfl
 refine ⟨⟨(hW.block _ (blk_lt h.obj) h.ne.2.1).trans h.obj,h.seat.wrote hW h.ne.2.2.1 h.ne.2.2.2.1,?_,h.ne,λj=> ?_⟩,hW⟩
 ·rw [blk_setCell h.tick,List.setIfInBounds_toArray]
  congr 3
  refine flat_set (tkC_len num dr) (tkC_len _ _) _ k 0 (by decide) _ λi t ht l hl=> ?_
  obtain ⟨_,rfl⟩:i<s.n∧t=i:=by
   have hi:i<s.n:=by have:=(List.getElem?_eq_some_iff.1 ht).1;simpa using this
   rw [List.getElem?_range hi] at ht
   exact ⟨hi,by simpa using ht.symm⟩
  have:l=0∨l=1:=by omega
  rcases this with rfl|rfl
  ·by_cases e:t=k
   ·subst e;simp [tkC,upd_same]
   ·simp [tkC,upd_other _ _ e,e]
  ·by_cases e:t=k
   ·subst e;simp [tkC]
   ·simp [tkC,e]
 ·by_cases e:j=k
  ·subst e;rw [upd_same];exact hx
  ·rw [upd_other _ _ e];exact h.rng j
theorem tset1 (h:FlRaw w L pv s num dr) {k:Nat} (hk:k<s.n) (y:Bool):
  FlRaw (w.setCell ⟨L.tb,k*2+1,none⟩ (.bool y)) L pv s num (upd dr k y)∧Wr (One L.tb) w (w.setCell ⟨L.tb,k*2+1,none⟩ (.bool y)):=by
 have hW:Wr (One L.tb) w (w.setCell ⟨L.tb,k*2+1,none⟩ (.bool y)):=(Wr.refl _ w).setCell _ _ λ_=>rfl
 refine ⟨⟨(hW.block _ (blk_lt h.obj) h.ne.2.1).trans h.obj,h.seat.wrote hW h.ne.2.2.1 h.ne.2.2.2.1,?_,h.ne,h.rng⟩,hW⟩
 rw [blk_setCell h.tick,List.setIfInBounds_toArray]
 congr 3
 refine flat_set (tkC_len num dr) (tkC_len _ _) _ k 1 (by decide) _ λi t ht l hl=> ?_
 obtain ⟨_,rfl⟩:i<s.n∧t=i:=by
  have hi:i<s.n:=by have:=(List.getElem?_eq_some_iff.1 ht).1;simpa using this
  rw [List.getElem?_range hi] at ht
  exact ⟨hi,by simpa using ht.symm⟩
 have:l=0∨l=1:=by omega
 rcases this with rfl|rfl
 ·by_cases e:t=k
  ·subst e;simp [tkC]
  ·simp [tkC,e]
 ·by_cases e:t=k
  ·subst e;simp [tkC,upd_same]
  ·simp [tkC,upd_other _ _ e,e]
theorem tset2 (h:FlRaw w L pv s num dr) {k:Nat} (hk:k<s.n) (x:Int) (y:Bool) (hx:0≤x∧x<4294967296):
  FlRaw ((w.setCell ⟨L.tb,k*2,none⟩ (.int .u32 x)).setCell ⟨L.tb,k*2+1,none⟩ (.bool y)) L pv s (upd num k x) (upd dr k y)∧Wr (One L.tb) w ((w.setCell ⟨L.tb,k*2,none⟩ (.int .u32 x)).setCell ⟨L.tb,k*2+1,none⟩ (.bool y)):=by
 obtain ⟨h1,hW1⟩:=h.tset0 hk x hx
 obtain ⟨h2,hW2⟩:=h1.tset1 hk y
 exact ⟨h2,hW1.trans hW2 λ_ _ x=>x⟩
theorem use (h:FlRaw w L pv s num dr) (v:Value):FlRaw (w.setCell ⟨L.lb,1,none⟩ v) L v s num dr:=by
 have hW:Wr (One L.lb) w (w.setCell ⟨L.lb,1,none⟩ v):=(Wr.refl _ w).setCell _ _ λ_=>rfl
 refine ⟨?_,h.seat.wrote hW (λe=>h.ne.2.2.2.2 e.symm) (λe=>h.ne.1 e.symm),(hW.block _ (blk_lt h.tick) (λe=>h.ne.2.1 e.symm)).trans h.tick,h.ne,h.rng⟩
 rw [blk_setCell h.obj]
 rfl
theorem place (h:FlRaw w L pv s num dr) (q:Place) (hs:List Int):FlRaw w {L with q:=q,hs:=hs} pv s num dr:=⟨h.obj,h.seat,h.tick,h.ne,h.rng⟩
end FlRaw
abbrev RawF (w:World) (L:Lp) (pv:Value) (f:FL):Prop:=FlRaw w L pv f.s f.num f.dr
structure LkAt (w:World) (L:Lp) (f:FL):Prop where
 raw:FlRaw w L (.pointer (some ⟨L.q.p,0,none⟩)) f.s f.num f.dr
 port:PortAt w L.q L.hs f.ps
 far:L.lb<L.q.k0∧L.p<L.q.k0∧L.b<L.q.k0∧L.tb<L.q.k0
 top:L.q.k3≤w.heap.size
def LF (L:Lp) (k:Nat):Prop:=k=L.b∨k=L.tb∨Rng L.q.k0 L.q.k3 k
namespace LkAt
variable {w w':World} {L:Lp} {f:FL}
theorem wrote {S:Nat→Prop} (h:LkAt w L f) (k:Wr S w w') (h1:¬ S L.lb) (h2:¬ S L.p) (h3:¬ S L.b) (h4:¬ S L.tb) (h5:∀ b,L.q.k0≤b→b<L.q.k3→¬ S b):LkAt w' L f:=
 ⟨h.raw.wrote k h1 h2 h3 h4,h.port.wrote k h5,h.far,Nat.le_trans h.top k.size⟩
theorem after (h:LkAt w L f) (k:Wr Nil w w'):LkAt w' L f:=h.wrote k id id id id λ_ _ _=>id
theorem seats {s':SS} (h:LkAt w L f) (hS:SeatAt w' L.p L.b s') (hn:s'.n=f.s.n) (k:Wr (One L.b) w w'):LkAt w' L {f with s:=s'}:=
 ⟨h.raw.seats hS hn k,h.port.wrote k λb b1 _ e=>by have:=h.far.2.2.1;cases e;omega,h.far,Nat.le_trans h.top k.size⟩
theorem ports {ps':PSta} (h:LkAt w L f) (hP:PortAt w' L.q L.hs ps') (k:Wr (Rng L.q.k0 L.q.k3) w w'):LkAt w' L {f with ps:=ps'}:=
 ⟨h.raw.wrote k (λe=>by have:=h.far.1;unfold Rng at e;omega) (λe=>by have:=h.far.2.1;unfold Rng at e;omega) (λe=>by have:=h.far.2.2.1;unfold Rng at e;omega) (λe=>by have:=h.far.2.2.2;unfold Rng at e;omega),hP,h.far,Nat.le_trans h.top k.size⟩
theorem ticks (h:LkAt w L f) {k:Nat} (hk:k<f.s.n) (x:Int) (y:Bool) (hx:0≤x∧x<4294967296):
  LkAt ((w.setCell ⟨L.tb,k*2,none⟩ (.int .u32 x)).setCell ⟨L.tb,k*2+1,none⟩ (.bool y)) L {f with num:=upd f.num k x,dr:=upd f.dr k y}∧Wr (One L.tb) w ((w.setCell ⟨L.tb,k*2,none⟩ (.int .u32 x)).setCell ⟨L.tb,k*2+1,none⟩ (.bool y)):=by
 obtain ⟨h1,hW⟩:=h.raw.tset2 hk x y hx
 exact ⟨⟨h1,h.port.wrote hW λb b1 _ e=>by have:=h.far.2.2.2;cases e;omega,h.far,Nat.le_trans h.top hW.size⟩,hW⟩
theorem wf (h:LkAt w L f) (j:Int):0≤loadI f.ps.ws j∧loadI f.ps.ws j<4294967296:=h.port.mem.load_rng j
theorem tell (h:LkAt w L f) (t K a:Int):0≤tellS f.ps t K a∧tellS f.ps t K a<4294967296:=by
 unfold tellS tellI
 repeat' split
 ·exact h.wf a
 all_goals omega
end LkAt
def LkPost (w:World) (L:Lp) (f:FL) (v:Value) (e:Ending) (w':World):Prop:=e= .returned v∧LkAt w' L f∧Wr (LF L) w w'
theorem lf_b {w w':World} {L:Lp} (k:Wr (One L.b) w w'):Wr (LF L) w w':=k.mono λ_ _ e=> .inl e
theorem lf_t {w w':World} {L:Lp} (k:Wr (One L.tb) w w'):Wr (LF L) w w':=k.mono λ_ _ e=> .inr (.inl e)
theorem lf_q {w w':World} {L:Lp} (k:Wr (Rng L.q.k0 L.q.k3) w w'):Wr (LF L) w w':=k.mono λ_ _ e=> .inr (.inr e)
theorem LkAt.lf_lt {w:World} {L:Lp} {f:FL} (h:LkAt w L f) {k:Nat} (hk:LF L k):k<w.heap.size:=by
 rcases hk with rfl|rfl|hk
 ·exact blk_lt h.raw.seat.ctx
 ·exact blk_lt h.raw.tick
 ·exact Nat.lt_of_lt_of_le hk.2 h.top
def didC (d:Dd):Array Value:= #[.int .i64 d.ev,.bool d.enq,.bool d.arr,.bool d.lead]
structure Fr (w:World) (B:Nat) (Y:World) (L:Lp) (f:FL):Prop where
 lk:LkAt Y L f
 wr:Wr (LF L) w Y
 res:Y.heap[B]? =some (.cells (didC Dd.no) 102 (0,0))
 new:w.heap.size≤B
namespace Fr
variable {w X Y:World} {L:Lp} {f f':FL} {B:Nat}
theorem start (h:LkAt w L f):Fr w w.heap.size (w.alloc (.cells #[.int .i64 0,.bool false,.bool false,.bool false] 102)) L f:=
 ⟨h.after ((Wr.refl _ w).alloc _),(Wr.refl _ w).alloc _,Go.Deep.blk_alloc_new w _,Nat.le_refl _⟩
theorem after (h:Fr w B X L f) (k:Wr Nil X Y):Fr w B Y L f:=⟨h.lk.after k,h.wr.trans k λ_ _ e=>e.elim,(k.block _ (blk_lt h.res) id).trans h.res,h.new⟩
theorem drew (h:Fr w B X L f):Fr w B X.drew L f:=h.after ((Wr.refl _ X).drew)
theorem call {f0:FL} (h0:LkAt w L f') (h:Fr w B X L f) (hl:LkAt Y L f0) (k:Wr (LF L) X Y):Fr w B Y L f0:=
 ⟨hl,h.wr.trans k λ_ _ e=>e,(k.block _ (blk_lt h.res) (λe=>by have:=h0.lf_lt e;have:=h.new;omega)).trans h.res,h.new⟩
theorem cell (h:Fr w B X L f):X.cell? ⟨B,0,none⟩=some (.int .i64 0)∧X.cell? ⟨B,1,none⟩=some (.bool false)∧X.cell? ⟨B,2,none⟩=some (.bool false)∧X.cell? ⟨B,3,none⟩=some (.bool false):=by
 rw [blk_cell h.res,blk_cell h.res,blk_cell h.res,blk_cell h.res];exact ⟨rfl,rfl,rfl,rfl⟩
theorem frz (h:Fr w B X L f):X.frozen? ⟨B,0,none⟩=false∧X.frozen? ⟨B,1,none⟩=false∧X.frozen? ⟨B,2,none⟩=false∧X.frozen? ⟨B,3,none⟩=false:=
 ⟨blk_frozen h.res 0,blk_frozen h.res 1,blk_frozen h.res 2,blk_frozen h.res 3⟩
end Fr
theorem set4 {Y:World} {B:Nat} {t:TypeId} {cs:Array Value} (h:Y.heap[B]? =some (.cells cs t (0,0))) (h4:cs.size=4) (x0 x1 x2 x3:Value):
  ((((Y.setCell ⟨B,0,none⟩ x0).setCell ⟨B,1,none⟩ x1).setCell ⟨B,2,none⟩ x2).setCell ⟨B,3,none⟩ x3).heap[B]? =some (.cells #[x0,x1,x2,x3] t (0,0)):=by
 rw [blk_setCell (blk_setCell (blk_setCell (blk_setCell h 0 x0) 1 x1) 2 x2) 3 x3]
 obtain ⟨l⟩:=cs
 match l,h4 with
 |[a,b,c,d],_=>rfl
theorem wrote4 (Y:World) (B:Nat) (x0 x1 x2 x3:Value):Wr (One B) Y ((((Y.setCell ⟨B,0,none⟩ x0).setCell ⟨B,1,none⟩ x1).setCell ⟨B,2,none⟩ x2).setCell ⟨B,3,none⟩ x3):=
 ((((Wr.refl (One B) Y).setCell ⟨B,0,none⟩ x0 λ_=>rfl).setCell ⟨B,1,none⟩ x1 λ_=>rfl).setCell ⟨B,2,none⟩ x2 λ_=>rfl).setCell ⟨B,3,none⟩ x3 λ_=>rfl
theorem Fr.told {w Y:World} {L:Lp} {f f0:FL} {B:Nat} (h0:LkAt w L f0) (h:Fr w B Y L f) (d:Dd):
  LkPost w L f d.val (.returned d.val) ((((Y.setCell ⟨B,0,none⟩ (.int .i64 d.ev)).setCell ⟨B,1,none⟩ (.bool d.enq)).setCell ⟨B,2,none⟩ (.bool d.arr)).setCell ⟨B,3,none⟩ (.bool d.lead)):=by
 have k:=wrote4 Y B (.int .i64 d.ev) (.bool d.enq) (.bool d.arr) (.bool d.lead)
 have hB:∀ j,j<w.heap.size→¬ One B j:=λj hj e=>by have:=h.new;cases e;omega
 have hp:=blk_lt h0.raw.seat.obj
 refine ⟨rfl,h.lk.wrote k (hB _ (blk_lt h0.raw.obj)) (hB _ (blk_lt h0.raw.seat.obj)) (hB _ (blk_lt h0.raw.seat.ctx)) (hB _ (blk_lt h0.raw.tick)) (λb _ b2=>hB b (Nat.lt_of_lt_of_le b2 h0.top)),?_⟩
 exact h.wr.trans k λb hb e=>(hB b hb e).elim
theorem i_did:(prog.info? 102).map (·.size)=some 4:=by kernel_rfl
open Go.RowKit Go.BigFrame
theorem fl_use {w:World} {L:Lp} {pv:Value} {s:SS} {num:Nat→Int} {dr:Nat→Bool} (h:FlRaw w L pv s num dr) (a:Addr):
  Calls prog 132 #[.pointer (some ⟨L.lb,0,none⟩),.pointer (some a)] w λe w'=>e= .returned (.tuple #[])∧w'=w.setCell ⟨L.lb,1,none⟩ (.pointer (some a)):=by
 have c1:=h.cell1
 have f1:=h.frozen 1
 clear h
 go_enter func132,ntmps132
 go_wp2
 go_end0
 exact ⟨rfl,rfl⟩
theorem fl_acq0 {w:World} {L:Lp} {f:FL} (h:LkAt w L f) (k:Nat) (hk:k<f.s.n) (u:Int) (hd:f.dr k=false) (hD:f.ps.D.length<4611686018427387904):
  Calls prog 137 #[.pointer (some ⟨L.lb,0,none⟩),.int .i64 (k:Int),.int .i64 u] w (LkPost w L (f.acq L k u) (f.acqD L k u).val):=by
 have e1:f.acq L k u={f with num:=upd f.num k (tellS f.ps u 5 L.a1),dr:=upd f.dr k true,ps:=doS f.ps u 5 L.a1 0 1}:=by unfold FL.acq;rw [hd];rfl
 have e2:f.acqD L k u=⟨0,true,false,false⟩:=by unfold FL.acqD;rw [hd];rfl
 rw [e1,e2]
 clear e1 e2
 have hF:=Fr.start h
 obtain ⟨Z,hZ⟩:∃ Z,Z=w.alloc (.cells #[.int .i64 0,.bool false,.bool false,.bool false] 102):=⟨_,rfl⟩
 rw [←hZ] at hF
 have c1:=hF.lk.raw.cell1
 have c4:=hF.lk.raw.cell4
 have hkI:(k:Int)<f.s.n:=by omega
 have hn64:=h.raw.seat.n2
 have c2:=hF.lk.raw.cell2
 have t0:=hF.lk.raw.tk0 hk
 have t1:=hF.lk.raw.tk1 hk
 have z0:=hF.lk.raw.tkz (k*2)
 have z1:=hF.lk.raw.tkz (k*2+1)
 rw [hd] at t1
 have cA:=padd_any hF.drew.lk.port u L.a1 1 (by omega) (by omega) hD
 have HE:=Lib.hid (And.intro h (And.intro hk (And.intro hF (h.tell u 5 L.a1))))
 clear h hF
 rw [hZ] at t1 c4
 go_enter func137,ntmps137
 go_wp2
 rw [←hZ]
 clear hZ t1 c4
 go_region_held3 (λw'=>w'.cell? ⟨L.lb,1,none⟩=some (.pointer (some ⟨L.q.p,0,none⟩))∧w'.cell? ⟨L.lb,2,none⟩=some (.int .i64 L.a1)) (first|exact ⟨c1,c2⟩|exact ⟨d1,d2⟩|exact ⟨g1,g2⟩) (first|(go_at_call 141;(with_reducible refine cA.mono ?_);intro e w2 hq;unfold AccPost at hq;obtain ⟨rfl,hP,hW⟩:=hq;have hA:=HE.out.2.2.1.drew.lk.ports hP hW;have hA2:=Fr.call HE.out.1 HE.out.2.2.1.drew hA (lf_q hW);have d1:=hA.raw.cell1;have d2:=hA.raw.cell2;have y0:=hA.raw.tk0 HE.out.2.1;have y1:=hA.raw.tk1 HE.out.2.1;have y2:=hA.raw.tkz (k*2);have y3:=hA.raw.tkz (k*2+1);have hT:=hA.ticks HE.out.2.1 (tellS f.ps u 5 L.a1) true HE.out.2.2.2;have g1:=hT.1.raw.cell1;have g2:=hT.1.raw.cell2;have hA3:=Fr.call HE.out.1 hA2 hT.1 (lf_t hT.2);obtain ⟨v0,v1,v2,v3⟩:=hA3.cell;obtain ⟨x0,x1,x2,x3⟩:=hA3.frz;have HT:=Lib.hid hA3;clear hA hA2 hA3 hT hP hW))
 go_wp2
 refine bodyPost_ret (v:=Dd.val ⟨0,true,false,false⟩) (results_cell_row rfl _ _ w.heap.size 102 _ (0,0) _ rfl (set4 HT.out.res rfl _ _ _ _) underlying102 rfl i_did) rfl (HT.out.told HE.out.1 ⟨0,true,false,false⟩)
theorem fl_acq1 {w:World} {L:Lp} {f:FL} (h:LkAt w L f) (k:Nat) (hk:k<f.s.n) (u:Int) (hd:f.dr k=true) (hD:f.ps.D.length<4611686018427387904):
  Calls prog 137 #[.pointer (some ⟨L.lb,0,none⟩),.int .i64 (k:Int),.int .i64 u] w (LkPost w L (f.acq L k u) (f.acqD L k u).val):=by
 have e1:f.acq L k u={f with ps:=doS f.ps u 1 L.a2 0 0}:=by unfold FL.acq;rw [hd];rfl
 have e2:f.acqD L k u=if tellS f.ps u 1 L.a2=f.num k then ⟨1,false,false,false⟩ else Dd.no:=by unfold FL.acqD;rw [hd];rfl
 rw [e1,e2]
 clear e1 e2
 have hF:=Fr.start h
 obtain ⟨Z,hZ⟩:∃ Z,Z=w.alloc (.cells #[.int .i64 0,.bool false,.bool false,.bool false] 102):=⟨_,rfl⟩
 rw [←hZ] at hF
 have c1:=hF.lk.raw.cell1
 have c4:=hF.lk.raw.cell4
 have hkI:(k:Int)<f.s.n:=by omega
 have hn64:=h.raw.seat.n2
 have c3:=hF.lk.raw.cell3
 have t0:=hF.lk.raw.tk0 hk
 have t1:=hF.lk.raw.tk1 hk
 rw [hd] at t1
 have cA:=pload_any hF.drew.lk.port u L.a2 hD
 have HE:=Lib.hid (And.intro h (And.intro hk hF))
 clear h hF
 rw [hZ] at t1 c4
 by_cases hx:tellS f.ps u 1 L.a2=f.num k
 all_goals
  first|rw [if_pos hx]|rw [if_neg hx]
  have b1:(tellS f.ps u 1 L.a2 != f.num k)=decide (¬ tellS f.ps u 1 L.a2=f.num k):=by simp [bne,BEq.beq]
  first|rw [decide_eq_true hx] at b1|rw [decide_eq_false (not_not_intro hx)] at b1
  go_enter func137,ntmps137
  go_wp2
  rw [←hZ]
  clear hZ t1 c4
  go_region_held3 (λw'=>w'.cell? ⟨L.lb,1,none⟩=some (.pointer (some ⟨L.q.p,0,none⟩))∧w'.cell? ⟨L.lb,3,none⟩=some (.int .i64 L.a2)∧w'.cell? ⟨L.tb,k*2,none⟩=some (.int .u32 (f.num k))) (first|exact ⟨c1,c3,t0⟩|exact ⟨d1,d3,y0⟩) (first|(go_at_call 85;(with_reducible refine cA.mono ?_);intro e w2 hq;unfold AccPost at hq;obtain ⟨rfl,hP,hW⟩:=hq;have hA:=HE.out.2.2.drew.lk.ports hP hW;have d1:=hA.raw.cell1;have d3:=hA.raw.cell3;have y0:=hA.raw.tk0 HE.out.2.1;have hA3:=Fr.call HE.out.1 HE.out.2.2.drew hA (lf_q hW);obtain ⟨v0,v1,v2,v3⟩:=hA3.cell;obtain ⟨x0,x1,x2,x3⟩:=hA3.frz;have HT:=Lib.hid hA3;clear hA hA3 hP hW))
  all_goals
   go_wp2
   first
    |refine bodyPost_ret (v:=Dd.val ⟨1,false,false,false⟩) (results_cell_row rfl _ _ w.heap.size 102 _ (0,0) _ rfl (set4 HT.out.res rfl _ _ _ _) underlying102 rfl i_did) rfl (HT.out.told HE.out.1 ⟨1,false,false,false⟩)
    |refine bodyPost_ret (v:=Dd.val ⟨0,false,false,false⟩) (results_cell_row rfl _ _ w.heap.size 102 _ (0,0) _ rfl (set4 HT.out.res rfl _ _ _ _) underlying102 rfl i_did) rfl (HT.out.told HE.out.1 ⟨0,false,false,false⟩)
theorem fl_acq {w:World} {L:Lp} {f:FL} (h:LkAt w L f) (k:Nat) (hk:k<f.s.n) (u:Int) (hD:f.ps.D.length<4611686018427387904):
  Calls prog 137 #[.pointer (some ⟨L.lb,0,none⟩),.int .i64 (k:Int),.int .i64 u] w (LkPost w L (f.acq L k u) (f.acqD L k u).val):=by
 cases hd:f.dr k
 ·exact fl_acq0 h k hk u hd hD
 ·exact fl_acq1 h k hk u hd hD
theorem fl_rel {w:World} {L:Lp} {f:FL} (h:LkAt w L f) (k:Nat) (hk:k<f.s.n) (u:Int) (hD:f.ps.D.length<4611686018427387904):
  Calls prog 138 #[.pointer (some ⟨L.lb,0,none⟩),.int .i64 (k:Int),.int .i64 u] w (LkPost w L (f.rel L k u) (Dd.val ⟨3,false,false,false⟩)):=by
 unfold FL.rel
 obtain ⟨m,hm⟩:∃ m,m=(f.num k+1)%4294967296:=⟨_,rfl⟩
 have ew:IntKind.u32.wrap (f.num k+1)=m:=by rw [hm];rfl
 have hm1:0≤m∧m<4294967296:=by omega
 rw [←hm]
 have hF:=Fr.start h
 obtain ⟨Z,hZ⟩:∃ Z,Z=w.alloc (.cells #[.int .i64 0,.bool false,.bool false,.bool false] 102):=⟨_,rfl⟩
 rw [←hZ] at hF
 have c1:=hF.lk.raw.cell1
 have c4:=hF.lk.raw.cell4
 have hkI:(k:Int)<f.s.n:=by omega
 have hn64:=h.raw.seat.n2
 have c3:=hF.lk.raw.cell3
 have t0:=hF.lk.raw.tk0 hk
 have cA:=pstore_any hF.drew.lk.port u L.a2 m hm1.1 hm1.2 hD
 have HE:=Lib.hid (And.intro h (And.intro hk hF))
 clear h hF hm hm1
 rw [hZ] at c4
 go_enter func138,ntmps138
 go_wp2
 rw [←hZ]
 clear hZ c4
 go_region_held3 (λw'=>w'.cell? ⟨L.lb,1,none⟩=some (.pointer (some ⟨L.q.p,0,none⟩))∧w'.cell? ⟨L.lb,3,none⟩=some (.int .i64 L.a2)∧w'.cell? ⟨L.tb,k*2,none⟩=some (.int .u32 (f.num k))) (first|exact ⟨c1,c3,t0⟩|exact ⟨d1,d3,y0⟩) (first|(go_at_call 98;(with_reducible refine cA.mono ?_);intro e w2 hq;unfold AccPost at hq;obtain ⟨rfl,hP,hW⟩:=hq;have hA:=HE.out.2.2.drew.lk.ports hP hW;have d1:=hA.raw.cell1;have d3:=hA.raw.cell3;have y0:=hA.raw.tk0 HE.out.2.1;have y1:=hA.raw.tk1 HE.out.2.1;have y2:=hA.raw.tkz (k*2);have y3:=hA.raw.tkz (k*2+1);have hA3:=Fr.call HE.out.1 HE.out.2.2.drew hA (lf_q hW);have hT:=hA.ticks HE.out.2.1 0 false (by omega);have hA4:=Fr.call HE.out.1 hA3 hT.1 (lf_t hT.2);obtain ⟨v0,v1,v2,v3⟩:=hA4.cell;obtain ⟨x0,x1,x2,x3⟩:=hA4.frz;have HT:=Lib.hid hA4;clear hA hA3 hA4 hT hP hW))
 go_wp2
 refine bodyPost_ret (v:=Dd.val ⟨3,false,false,false⟩) (results_cell_row rfl _ _ w.heap.size 102 _ (0,0) _ rfl (set4 HT.out.res rfl _ _ _ _) underlying102 rfl i_did) rfl (HT.out.told HE.out.1 ⟨3,false,false,false⟩)
theorem fl_ask {w:World} {L:Lp} {f:FL} (h:LkAt w L f) (k:Nat) (hk:k<f.s.n) (u:Int) (hD:f.ps.D.length<4611686018427387904):
  Calls prog 139 #[.pointer (some ⟨L.lb,0,none⟩),.int .i64 (k:Int),.int .i64 u] w (LkPost w L (f.ask L k u) (f.askD L k u).val):=by
 unfold FL.ask FL.askD
 obtain ⟨m,hm⟩:∃ m,m=(f.num k+1)%4294967296:=⟨_,rfl⟩
 have ew:IntKind.u32.wrap (f.num k+1)=m:=by rw [hm];rfl
 rw [←hm]
 have hF:=Fr.start h
 obtain ⟨Z,hZ⟩:∃ Z,Z=w.alloc (.cells #[.int .i64 0,.bool false,.bool false,.bool false] 102):=⟨_,rfl⟩
 rw [←hZ] at hF
 have c1:=hF.lk.raw.cell1
 have c4:=hF.lk.raw.cell4
 have hkI:(k:Int)<f.s.n:=by omega
 have hn64:=h.raw.seat.n2
 have c2:=hF.lk.raw.cell2
 have t0:=hF.lk.raw.tk0 hk
 have cA:=pload_any hF.drew.lk.port u L.a1 hD
 have HE:=Lib.hid (And.intro h (And.intro hk hF))
 clear h hF hm
 by_cases hx:tellS f.ps u 1 L.a1=m
 all_goals
  first|rw [if_pos hx]|rw [if_neg hx]
  have b1:(tellS f.ps u 1 L.a1 != m)=decide (¬ tellS f.ps u 1 L.a1=m):=by simp [bne,BEq.beq]
  first|rw [decide_eq_true hx] at b1|rw [decide_eq_false (not_not_intro hx)] at b1
  go_enter func139,ntmps139
  go_wp2
  rw [←hZ]
  clear hZ
  go_region_held3 (λw'=>w'.cell? ⟨L.lb,1,none⟩=some (.pointer (some ⟨L.q.p,0,none⟩))∧w'.cell? ⟨L.lb,2,none⟩=some (.int .i64 L.a1)∧w'.cell? ⟨L.lb,4,none⟩=some (.slice (some ⟨L.tb,0,none⟩) f.s.n f.s.n)∧w'.cell? ⟨L.tb,k*2,none⟩=some (.int .u32 (f.num k))) (first|exact ⟨c1,c2,c4,t0⟩|exact ⟨d1,d3,d4,y0⟩) (first|(go_at_call 85;(with_reducible refine cA.mono ?_);intro e w2 hq;unfold AccPost at hq;obtain ⟨rfl,hP,hW⟩:=hq;have hA:=HE.out.2.2.drew.lk.ports hP hW;have d1:=hA.raw.cell1;have d3:=hA.raw.cell2;have d4:=hA.raw.cell4;have y0:=hA.raw.tk0 HE.out.2.1;have hA3:=Fr.call HE.out.1 HE.out.2.2.drew hA (lf_q hW);obtain ⟨v0,v1,v2,v3⟩:=hA3.cell;obtain ⟨x0,x1,x2,x3⟩:=hA3.frz;have HT:=Lib.hid hA3;clear hA hA3 hP hW))
  all_goals
   go_wp2
   first
    |refine bodyPost_ret (v:=Dd.val ⟨4,false,false,false⟩) (results_cell_row rfl _ _ w.heap.size 102 _ (0,0) _ rfl (set4 HT.out.res rfl _ _ _ _) underlying102 rfl i_did) rfl (HT.out.told HE.out.1 ⟨4,false,false,false⟩)
    |refine bodyPost_ret (v:=Dd.val ⟨5,false,false,false⟩) (results_cell_row rfl _ _ w.heap.size 102 _ (0,0) _ rfl (set4 HT.out.res rfl _ _ _ _) underlying102 rfl i_did) rfl (HT.out.told HE.out.1 ⟨5,false,false,false⟩)
set_option maxHeartbeats 8000000
open _root_.Go.Proofs.Tryz Go.Deep
structure Fd (w:World) (B:Nat) (X:World) (L:Lp) (f:FL) (C:Nat) (d:Dd):Prop where
 fr:Fr w B X L f
 did:X.heap[C]? =some (.cells (didC d) 102 (0,0))
 far:w.heap.size≤C
 ne:C≠B
theorem Fd.cell {w X:World} {B C:Nat} {L:Lp} {f:FL} {d:Dd} (h:Fd w B X L f C d):X.cell? ⟨C,0,none⟩=some (.int .i64 d.ev)∧X.cell? ⟨C,1,none⟩=some (.bool d.enq)∧X.cell? ⟨C,2,none⟩=some (.bool d.arr)∧X.cell? ⟨C,3,none⟩=some (.bool d.lead):=by
 rw [blk_cell h.did,blk_cell h.did,blk_cell h.did,blk_cell h.did];exact ⟨rfl,rfl,rfl,rfl⟩
theorem Fd.frz {w X:World} {B C:Nat} {L:Lp} {f:FL} {d:Dd} (h:Fd w B X L f C d):X.frozen? ⟨C,0,none⟩=false∧X.frozen? ⟨C,1,none⟩=false∧X.frozen? ⟨C,2,none⟩=false∧X.frozen? ⟨C,3,none⟩=false:=
 ⟨blk_frozen h.did 0,blk_frozen h.did 1,blk_frozen h.did 2,blk_frozen h.did 3⟩
theorem Fd.call {w X Y:World} {B C:Nat} {L:Lp} {f g f0:FL} {d:Dd} (h0:LkAt w L f0) (h:Fd w B X L f C d) (hl:LkAt Y L g) (k:Wr (LF L) X Y):Fd w B Y L g C d:=
 ⟨Fr.call h0 h.fr hl k,(k.block C (blk_lt h.did) (λe=>by have:=h0.lf_lt e;have:=h.far;omega)).trans h.did,h.far,h.ne⟩
theorem Fd.keep {w X:World} {B C:Nat} {L:Lp} {f f0:FL} {d:Dd} (h0:LkAt w L f0) (h:Fd w B X L f C d) (d':Dd):
  Fd w B ((((X.setCell ⟨C,0,none⟩ (.int .i64 d'.ev)).setCell ⟨C,1,none⟩ (.bool d'.enq)).setCell ⟨C,2,none⟩ (.bool d'.arr)).setCell ⟨C,3,none⟩ (.bool d'.lead)) L f C d':=by
 have k:=wrote4 X C (.int .i64 d'.ev) (.bool d'.enq) (.bool d'.arr) (.bool d'.lead)
 have hf:=h.far
 have hC:∀ j,j<w.heap.size→¬ One C j:=λj hj e=>by cases e;omega
 refine ⟨⟨h.fr.lk.wrote k (hC _ (blk_lt h0.raw.obj)) (hC _ (blk_lt h0.raw.seat.obj)) (hC _ (blk_lt h0.raw.seat.ctx)) (hC _ (blk_lt h0.raw.tick)) (λb _ b2=>hC b (Nat.lt_of_lt_of_le b2 h0.top)),h.fr.wr.trans k λb hb e=>(hC b hb e).elim,(k.block B (blk_lt h.fr.res) λe=>h.ne e.symm).trans h.fr.res,h.fr.new⟩,set4 h.did rfl _ _ _ _,h.far,h.ne⟩
theorem Fd.ends {w X Y:World} {B C:Nat} {L:Lp} {f g:FL} {d:Dd} (h0:LkAt w L f) (h:Fd w B X L g C d) {s':SS} (hS:SeatAt Y L.p L.b s') (hn:s'.n=g.s.n) (k:Wr (One L.b) X Y):Fd w B Y L {g with s:=s'} C d:=
 h.call h0 (h.fr.lk.seats hS hn k) (lf_b k)
theorem hs_start {w:World} {L:Lp} {f:FL} (h:LkAt w L f) (cs:Array Value):
  Fd w (w.heap.size+1) (((w.alloc (.cells cs 229)).alloc (.cells #[.int .i64 0,.bool false,.bool false,.bool false] 102)).alloc (.cells #[.int .i64 0,.bool false,.bool false,.bool false] 102)) L f (w.heap.size+1+1) Dd.no∧
  (((w.alloc (.cells cs 229)).alloc (.cells #[.int .i64 0,.bool false,.bool false,.bool false] 102)).alloc (.cells #[.int .i64 0,.bool false,.bool false,.bool false] 102)).heap[w.heap.size]? =some (.cells cs 229 (0,0)):=by
 have e1:(w.alloc (.cells cs 229)).heap.size=w.heap.size+1:=nblk_alloc _ _
 have e2:((w.alloc (.cells cs 229)).alloc (.cells #[.int .i64 0,.bool false,.bool false,.bool false] 102)).heap.size=w.heap.size+1+1:=by rw [nblk_alloc,e1]
 have k:Wr Nil w (((w.alloc (.cells cs 229)).alloc (.cells #[.int .i64 0,.bool false,.bool false,.bool false] 102)).alloc (.cells #[.int .i64 0,.bool false,.bool false,.bool false] 102)):=(((Wr.refl _ w).alloc _).alloc _).alloc _
 refine ⟨⟨⟨h.after k,k.mono λ_ _ e=>e.elim,?_,Nat.le_succ _⟩,?_,by omega,by omega⟩,?_⟩
 ·rw [blk_alloc_lt _ _ _ (by rw [e2];omega),←e1,blk_alloc_new];rfl
 ·rw [←e2,blk_alloc_new];rfl
 ·rw [blk_alloc_lt _ _ _ (by rw [e2];omega),blk_alloc_lt _ _ _ (by rw [e1];omega),blk_alloc_new]
theorem hs_step {w:World} {L:Lp} {f:FL} (h:LkAt w L f) (t u:Int) (hD:f.ps.D.length<4611686018427387904):
  Calls prog 136 #[.pointer (some ⟨L.p,0,none⟩),.int .i64 t,.int .i64 u,.agg #[Value.func (.func 137) #[.pointer (some ⟨L.lb,0,none⟩)] #[],Value.func (.func 138) #[.pointer (some ⟨L.lb,0,none⟩)] #[],Value.func (.func 139) #[.pointer (some ⟨L.lb,0,none⟩)] #[]]] w (LkPost w L (f.step L t u) (f.did L t u).val):=by
 obtain ⟨hF,hB⟩:=hs_start h #[Value.func (.func 137) #[.pointer (some ⟨L.lb,0,none⟩)] #[],Value.func (.func 138) #[.pointer (some ⟨L.lb,0,none⟩)] #[],Value.func (.func 139) #[.pointer (some ⟨L.lb,0,none⟩)] #[]]
 obtain ⟨Z,hZ⟩:∃ Z,Z=((w.alloc (.cells #[Value.func (.func 137) #[.pointer (some ⟨L.lb,0,none⟩)] #[],Value.func (.func 138) #[.pointer (some ⟨L.lb,0,none⟩)] #[],Value.func (.func 139) #[.pointer (some ⟨L.lb,0,none⟩)] #[]] 229)).alloc (.cells #[.int .i64 0,.bool false,.bool false,.bool false] 102)).alloc (.cells #[.int .i64 0,.bool false,.bool false,.bool false] 102):=⟨_,rfl⟩
 rw [←hZ] at hF hB
 have b0:Z.cell? ⟨w.heap.size,0,none⟩=some (Value.func (.func 137) #[.pointer (some ⟨L.lb,0,none⟩)] #[]):=(blk_cell hB 0).trans rfl
 have b1:Z.cell? ⟨w.heap.size,1,none⟩=some (Value.func (.func 138) #[.pointer (some ⟨L.lb,0,none⟩)] #[]):=(blk_cell hB 1).trans rfl
 have b2:Z.cell? ⟨w.heap.size,2,none⟩=some (Value.func (.func 139) #[.pointer (some ⟨L.lb,0,none⟩)] #[]):=(blk_cell hB 2).trans rfl
 have cS:=se_state hF.fr.lk.raw.seat t
 obtain ⟨v0,v1,v2,v3⟩:=hF.fr.cell
 obtain ⟨x0,x1,x2,x3⟩:=hF.fr.frz
 obtain ⟨p0,p1,p2,p3⟩:=hF.cell
 have hn:=h.raw.seat.n2
 by_cases ht:0≤t∧t<f.s.n
 ·obtain ⟨k,rfl⟩:=Int.eq_ofNat_of_zero_le ht.1
  have hk:k<f.s.n:=by omega
  have eS:f.s.stI (k:Int)=f.s.st k:=by unfold SS.stI;rw [if_pos ht,Int.toNat_natCast]
  rw [eS] at cS
  by_cases h1:f.s.st k=1
  ·have e1:f.mid L k u=f.acq L k u:=by unfold FL.mid;rw [if_pos ht,Int.toNat_natCast,if_pos h1]
   have e2:f.did L k u=f.acqD L k u:=by unfold FL.did;rw [if_pos ht,Int.toNat_natCast,if_pos h1]
   have es:=f.mid_s L k u
   unfold FL.step
   rw [e1] at es
   rw [e1,e2]
   rw [h1] at cS
   have cA:=fl_acq hF.fr.lk k hk u hD
   generalize f.acq L k u=g at*
   generalize f.acqD L k u=d at*
   have HE:=Lib.hid (And.intro h (And.intro hF es))
   have HZ:=Lib.hid hZ
   clear h hF eS e1 e2 hB es hZ h1
   generalize f.s.n=n at*
   go_enter func136,ntmps136
   go_wp2_with (first
    |(go_at_call 129;rw [←HZ.out];(with_reducible refine cS.mono ?_);rintro e w' ⟨rfl,rfl⟩)
    |(go_at_call 137;(with_reducible refine cA.mono ?_);intro e w2 hq;unfold LkPost at hq;obtain ⟨rfl,hA,hW⟩:=hq;dsimp only [Dd.val];have hA3:=HE.out.2.1.call HE.out.1 hA hW;obtain ⟨p0,p1,p2,p3⟩:=hA3.cell;obtain ⟨y0,y1,y2,y3⟩:=hA3.frz;have hK:=hA3.keep HE.out.1 d;have cE:=se_end hK.fr.lk.raw.seat (k:Int) d.ev;have HK:=Lib.hid hK;clear hA hA3 hK hW)
    |(go_at_call 140;(with_reducible refine cE.mono ?_);intro e w3 hq;unfold SeatPost at hq;obtain ⟨rfl,hS,hW⟩:=hq;have hY:=HK.out.ends HE.out.1 hS (SS.fin_n _ _ _) hW;obtain ⟨e0,e1,e2,e3⟩:=hY.cell;obtain ⟨v0,v1,v2,v3⟩:=hY.fr.cell;obtain ⟨x0,x1,x2,x3⟩:=hY.fr.frz;have HT:=Lib.hid hY;clear hY hS hW))
   rw [←HE.out.2.2]
   refine bodyPost_ret (v:=Dd.val d) (results_cell_row rfl _ _ (w.heap.size+1) 102 _ (0,0) _ rfl (set4 HT.out.fr.res rfl _ _ _ _) underlying102 rfl i_did) rfl (HT.out.fr.told HE.out.1 d)
  by_cases h3:f.s.st k=3
  ·have e1:f.mid L k u=f.rel L k u:=by unfold FL.mid;rw [if_pos ht,Int.toNat_natCast,if_neg h1,if_pos h3]
   have e2:f.did L k u=⟨3,false,false,false⟩:=by unfold FL.did;rw [if_pos ht,Int.toNat_natCast,if_neg h1,if_pos h3]
   have es:=f.mid_s L k u
   unfold FL.step
   rw [e1] at es
   rw [e1,e2]
   rw [h3] at cS
   have cA:=fl_rel hF.fr.lk k hk u hD
   generalize f.rel L k u=g at*
   have HE:=Lib.hid (And.intro h (And.intro hF es))
   have HZ:=Lib.hid hZ
   clear h hF eS e1 e2 hB es hZ h1 h3
   generalize f.s.n=n at*
   go_enter func136,ntmps136
   go_wp2_with (first
    |(go_at_call 129;rw [←HZ.out];(with_reducible refine cS.mono ?_);rintro e w' ⟨rfl,rfl⟩)
    |(go_at_call 138;(with_reducible refine cA.mono ?_);intro e w2 hq;unfold LkPost at hq;obtain ⟨rfl,hA,hW⟩:=hq;dsimp only [Dd.val];have hA3:=HE.out.2.1.call HE.out.1 hA hW;obtain ⟨p0,p1,p2,p3⟩:=hA3.cell;obtain ⟨y0,y1,y2,y3⟩:=hA3.frz;have hK:=hA3.keep HE.out.1 ⟨3,false,false,false⟩;have cE:=se_end hK.fr.lk.raw.seat (k:Int) 3;have HK:=Lib.hid hK;clear hA hA3 hK hW)
    |(go_at_call 140;(with_reducible refine cE.mono ?_);intro e w3 hq;unfold SeatPost at hq;obtain ⟨rfl,hS,hW⟩:=hq;have hY:=HK.out.ends HE.out.1 hS (SS.fin_n _ _ _) hW;obtain ⟨e0,e1,e2,e3⟩:=hY.cell;obtain ⟨v0,v1,v2,v3⟩:=hY.fr.cell;obtain ⟨x0,x1,x2,x3⟩:=hY.fr.frz;have HT:=Lib.hid hY;clear hY hS hW))
   rw [←HE.out.2.2]
   refine bodyPost_ret (v:=Dd.val ⟨3,false,false,false⟩) (results_cell_row rfl _ _ (w.heap.size+1) 102 _ (0,0) _ rfl (set4 HT.out.fr.res rfl _ _ _ _) underlying102 rfl i_did) rfl (HT.out.fr.told HE.out.1 ⟨3,false,false,false⟩)
  by_cases h4:f.s.st k=4
  ·have e1:f.mid L k u=f.ask L k u:=by unfold FL.mid;rw [if_pos ht,Int.toNat_natCast,if_neg h1,if_neg h3,if_pos h4]
   have e2:f.did L k u=f.askD L k u:=by unfold FL.did;rw [if_pos ht,Int.toNat_natCast,if_neg h1,if_neg h3,if_pos h4]
   have es:=f.mid_s L k u
   unfold FL.step
   rw [e1] at es
   rw [e1,e2]
   rw [h4] at cS
   have cA:=fl_ask hF.fr.lk k hk u hD
   generalize f.ask L k u=g at*
   generalize f.askD L k u=d at*
   have HE:=Lib.hid (And.intro h (And.intro hF es))
   have HZ:=Lib.hid hZ
   clear h hF eS e1 e2 hB es hZ h1 h3 h4
   generalize f.s.n=n at*
   go_enter func136,ntmps136
   go_wp2_with (first
    |(go_at_call 129;rw [←HZ.out];(with_reducible refine cS.mono ?_);rintro e w' ⟨rfl,rfl⟩)
    |(go_at_call 139;(with_reducible refine cA.mono ?_);intro e w2 hq;unfold LkPost at hq;obtain ⟨rfl,hA,hW⟩:=hq;dsimp only [Dd.val];have hA3:=HE.out.2.1.call HE.out.1 hA hW;obtain ⟨p0,p1,p2,p3⟩:=hA3.cell;obtain ⟨y0,y1,y2,y3⟩:=hA3.frz;have hK:=hA3.keep HE.out.1 d;have cE:=se_end hK.fr.lk.raw.seat (k:Int) d.ev;have HK:=Lib.hid hK;clear hA hA3 hK hW)
    |(go_at_call 140;(with_reducible refine cE.mono ?_);intro e w3 hq;unfold SeatPost at hq;obtain ⟨rfl,hS,hW⟩:=hq;have hY:=HK.out.ends HE.out.1 hS (SS.fin_n _ _ _) hW;obtain ⟨e0,e1,e2,e3⟩:=hY.cell;obtain ⟨v0,v1,v2,v3⟩:=hY.fr.cell;obtain ⟨x0,x1,x2,x3⟩:=hY.fr.frz;have HT:=Lib.hid hY;clear hY hS hW))
   rw [←HE.out.2.2]
   refine bodyPost_ret (v:=Dd.val d) (results_cell_row rfl _ _ (w.heap.size+1) 102 _ (0,0) _ rfl (set4 HT.out.fr.res rfl _ _ _ _) underlying102 rfl i_did) rfl (HT.out.fr.told HE.out.1 d)
  have e1:f.mid L k u=f:=by unfold FL.mid;rw [if_pos ht,Int.toNat_natCast,if_neg h1,if_neg h3,if_neg h4]
  have e2:f.did L k u=Dd.no:=by unfold FL.did;rw [if_pos ht,Int.toNat_natCast,if_neg h1,if_neg h3,if_neg h4]
  have hK:=hF
  have cE:=se_end hK.fr.lk.raw.seat (k:Int) Dd.no.ev
  have HE:=Lib.hid (And.intro h hF)
  have HK:=Lib.hid hK
  have HZ:=Lib.hid hZ
  unfold FL.step
  rw [e1,e2]
  clear h hF hK eS e1 e2 hB hZ b0 b1 b2
  generalize f.s.st k=x at*
  generalize f.s.n=n at*
  go_enter func136,ntmps136
  go_wp2_with (first
   |(go_at_call 129;rw [←HZ.out];(with_reducible refine cS.mono ?_);rintro e w' ⟨rfl,rfl⟩)
   |(go_at_call 140;(with_reducible refine cE.mono ?_);intro e w3 hq;unfold SeatPost at hq;obtain ⟨rfl,hS,hW⟩:=hq;have hY:=HK.out.ends HE.out.1 hS (SS.fin_n _ _ _) hW;obtain ⟨e0,e1,e2,e3⟩:=hY.cell;obtain ⟨v0,v1,v2,v3⟩:=hY.fr.cell;obtain ⟨x0,x1,x2,x3⟩:=hY.fr.frz;have HT:=Lib.hid hY;clear hY hS hW))
  refine bodyPost_ret (v:=Dd.val Dd.no) (results_cell_row rfl _ _ (w.heap.size+1) 102 _ (0,0) _ rfl (set4 HT.out.fr.res rfl _ _ _ _) underlying102 rfl i_did) rfl (HT.out.fr.told HE.out.1 Dd.no)
 ·have eS:f.s.stI t=0:=if_neg ht
  rw [eS] at cS
  have e1:f.mid L t u=f:=by unfold FL.mid;rw [if_neg ht]
  have e2:f.did L t u=Dd.no:=by unfold FL.did;rw [if_neg ht]
  have hK:=hF
  have cE:=se_end hK.fr.lk.raw.seat t Dd.no.ev
  have HE:=Lib.hid (And.intro h hF)
  have HK:=Lib.hid hK
  have HZ:=Lib.hid hZ
  unfold FL.step
  rw [e1,e2]
  clear h hF hK eS e1 e2 hB hZ b0 b1 b2 ht
  go_enter func136,ntmps136
  go_wp2_with (first
   |(go_at_call 129;rw [←HZ.out];(with_reducible refine cS.mono ?_);rintro e w' ⟨rfl,rfl⟩)
   |(go_at_call 140;(with_reducible refine cE.mono ?_);intro e w3 hq;unfold SeatPost at hq;obtain ⟨rfl,hS,hW⟩:=hq;have hY:=HK.out.ends HE.out.1 hS (SS.fin_n _ _ _) hW;obtain ⟨e0,e1,e2,e3⟩:=hY.cell;obtain ⟨v0,v1,v2,v3⟩:=hY.fr.cell;obtain ⟨x0,x1,x2,x3⟩:=hY.fr.frz;have HT:=Lib.hid hY;clear hY hS hW))
  refine bodyPost_ret (v:=Dd.val Dd.no) (results_cell_row rfl _ _ (w.heap.size+1) 102 _ (0,0) _ rfl (set4 HT.out.fr.res rfl _ _ _ _) underlying102 rfl i_did) rfl (HT.out.fr.told HE.out.1 Dd.no)
theorem fl_step {w:World} {L:Lp} {f:FL} (h:LkAt w L f) (t u x:Int) (hD:f.ps.D.length<4611686018427387904):
  Calls prog 130 #[.pointer (some ⟨L.lb,0,none⟩),.int .i64 t,.int .i64 u,.int .i64 x] w (LkPost w L (f.step L t u) (f.did L t u).val):=by
 have hF:=Fr.start h
 obtain ⟨Z,hZ⟩:∃ Z,Z=w.alloc (.cells #[.int .i64 0,.bool false,.bool false,.bool false] 102):=⟨_,rfl⟩
 rw [←hZ] at hF
 have cM:=hs_step hF.lk t u hD
 have c0:=hF.lk.raw.cell0
 rw [hZ] at c0
 generalize f.step L t u=g at*
 generalize f.did L t u=d at*
 have HE:=Lib.hid (And.intro h hF)
 have HZ:=Lib.hid hZ
 clear h hF hZ
 go_enter func130,ntmps130
 go_wp2_with (first
  |(go_at_call 136;rw [←HZ.out];(with_reducible refine cM.mono ?_);intro e w2 hq;unfold LkPost at hq;obtain ⟨rfl,hA,hW⟩:=hq;dsimp only [Dd.val];have hA3:=Fr.call HE.out.1 HE.out.2 hA hW;obtain ⟨v0,v1,v2,v3⟩:=hA3.cell;obtain ⟨x0,x1,x2,x3⟩:=hA3.frz;have HT:=Lib.hid hA3;clear hA hA3 hW))
 refine bodyPost_ret (v:=Dd.val d) (results_cell_row rfl _ _ w.heap.size 102 _ (0,0) _ rfl (set4 HT.out.res rfl _ _ _ _) underlying102 rfl i_did) rfl (HT.out.told HE.out.1 d)
end Go.Proofs.YtmnephejhkfchaaGreat.Kf
