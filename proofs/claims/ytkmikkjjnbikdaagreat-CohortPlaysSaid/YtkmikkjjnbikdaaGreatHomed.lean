
import Derived.Test.YtkmikkjjnbikdaaGreatCohortAcc
namespace Go.Proofs.YtkmikkjjnbikdaaGreat.Kf
open _root_.Go.Proofs.Tryz
open Go.RowKit
set_option linter.unusedVariables false
set_option maxRecDepth 100000
def tkC (num:Nat→Int) (dr:Nat→Bool) (t:Nat):List Value:=[.int .u32 (num t),.bool (dr t)]
theorem tkC_len (num:Nat→Int) (dr:Nat→Bool):∀ x,(tkC num dr x).length=2:=λ_=>rfl
def tks (n:Nat) (num:Nat→Int) (dr:Nat→Bool):List Value:=(List.range n).flatMap (tkC num dr)
theorem tks_at (n:Nat) (num:Nat→Int) (dr:Nat→Bool) {k:Nat} (hk:k<n) {j:Nat} (hj:j<2):(tks n num dr)[k*2+j]? =(tkC num dr k)[j]? :=flat_at' (tkC_len num dr) _ (by rw [List.getElem?_range hk]) hj
structure FlRaw (w:World) (L:Lp) (pv:Value) (s:SS) (num:Nat→Int) (dr:Nat→Bool):Prop where
 obj:w.heap[L.lb]? =some (.cells #[.pointer (some ⟨L.p,0,none⟩),pv,.int .i64 L.a1,.int .i64 L.a2,.slice (some ⟨L.tb,0,none⟩) s.n s.n] 184 (0,0))
 seat:SeatAt w L.p L.b s
 tick:w.heap[L.tb]? =some (.cells (tks s.n num dr).toArray 234 (0,0))
 ne:L.lb≠L.b∧L.lb≠L.tb∧L.p≠L.tb∧L.b≠L.tb∧L.lb≠L.p
 rng:∀ k,0≤num k∧num k<4294967296
namespace FlRaw
variable {w w':World} {L:Lp} {pv:Value} {s:SS} {num:Nat→Int} {dr:Nat→Bool}
theorem wrote {S:Nat→Prop} (h:FlRaw w L pv s num dr) (k:Wr S w w') (h1:¬ S L.lb) (h2:¬ S L.p) (h3:¬ S L.b) (h4:¬ S L.tb):FlRaw w' L pv s num dr:=
 ⟨(k.block _ (blk_lt h.obj) h1).trans h.obj,h.seat.wrote k h2 h3,(k.block _ (blk_lt h.tick) h4).trans h.tick,h.ne,h.rng⟩
theorem seats {s':SS} (h:FlRaw w L pv s num dr) (hS:SeatAt w' L.p L.b s') (hn:s'.n=s.n) (k:Wr (One L.b) w w'):FlRaw w' L pv s' num dr:=by
 refine ⟨?_,hS,?_,h.ne,h.rng⟩
 ·rw [hn];exact (k.block _ (blk_lt h.obj) h.ne.1).trans h.obj
 ·rw [hn];exact (k.block _ (blk_lt h.tick) (λe=>h.ne.2.2.2.1 e.symm)).trans h.tick
theorem cell0 (h:FlRaw w L pv s num dr):w.cell? ⟨L.lb,0,none⟩=some (.pointer (some ⟨L.p,0,none⟩)):=by rw [blk_cell h.obj];rfl
theorem cell1 (h:FlRaw w L pv s num dr):w.cell? ⟨L.lb,1,none⟩=some pv:=by rw [blk_cell h.obj];rfl
theorem cell2 (h:FlRaw w L pv s num dr):w.cell? ⟨L.lb,2,none⟩=some (.int .i64 L.a1):=by rw [blk_cell h.obj];rfl
theorem cell3 (h:FlRaw w L pv s num dr):w.cell? ⟨L.lb,3,none⟩=some (.int .i64 L.a2):=by rw [blk_cell h.obj];rfl
theorem cell4 (h:FlRaw w L pv s num dr):w.cell? ⟨L.lb,4,none⟩=some (.slice (some ⟨L.tb,0,none⟩) s.n s.n):=by rw [blk_cell h.obj];rfl
theorem frozen (h:FlRaw w L pv s num dr) (k:Nat):w.frozen? ⟨L.lb,k,none⟩=false:=blk_frozen h.obj k
theorem tk0 (h:FlRaw w L pv s num dr) {k:Nat} (hk:k<s.n):w.cell? ⟨L.tb,k*2,none⟩=some (.int .u32 (num k)):=by
 rw [blk_cell h.tick,List.getElem?_toArray]
 exact tks_at s.n num dr hk (j:=0) (by decide)
theorem tk1 (h:FlRaw w L pv s num dr) {k:Nat} (hk:k<s.n):w.cell? ⟨L.tb,k*2+1,none⟩=some (.bool (dr k)):=by
 rw [blk_cell h.tick,List.getElem?_toArray]
 exact tks_at s.n num dr hk (j:=1) (by decide)
theorem tkz (h:FlRaw w L pv s num dr) (k:Nat):w.frozen? ⟨L.tb,k,none⟩=false:=blk_frozen h.tick k
theorem tset0 (h:FlRaw w L pv s num dr) {k:Nat} (hk:k<s.n) (x:Int) (hx:0≤x∧x<4294967296):
  FlRaw (w.setCell ⟨L.tb,k*2,none⟩ (.int .u32 x)) L pv s (upd num k x) dr∧Wr (One L.tb) w (w.setCell ⟨L.tb,k*2,none⟩ (.int .u32 x)):=by
 have hW:Wr (One L.tb) w (w.setCell ⟨L.tb,k*2,none⟩ (.int .u32 x)):=(Wr.refl _ w).setCell _ _ λ_=>rfl
 refine ⟨⟨(hW.block _ (blk_lt h.obj) h.ne.2.1).trans h.obj,h.seat.wrote hW h.ne.2.2.1 h.ne.2.2.2.1,?_,h.ne,λj=> ?_⟩,hW⟩
 ·rw [blk_setCell h.tick,List.setIfInBounds_toArray]
  congr 3
  refine flat_set (tkC_len num dr) (tkC_len _ _) _ k 0 (by decide) _ λi t ht l hl=> ?_
  obtain ⟨_,rfl⟩:i<s.n∧t=i:=by
   have hi:i<s.n:=by have:=(List.getElem?_eq_some_iff.1 ht).1;simpa using this
   rw [List.getElem?_range hi] at ht
   exact ⟨hi,by simpa using ht.symm⟩
  have:l=0∨l=1:=by omega
  rcases this with rfl|rfl
  ·by_cases e:t=k
   ·subst e;simp [tkC,upd_same]
   ·simp [tkC,upd_other _ _ e,e]
  ·by_cases e:t=k
   ·subst e;simp [tkC]
   ·simp [tkC,e]
 ·by_cases e:j=k
  ·subst e;rw [upd_same];exact hx
  ·rw [upd_other _ _ e];exact h.rng j
theorem tset1 (h:FlRaw w L pv s num dr) {k:Nat} (hk:k<s.n) (y:Bool):
  FlRaw (w.setCell ⟨L.tb,k*2+1,none⟩ (.bool y)) L pv s num (upd dr k y)∧Wr (One L.tb) w (w.setCell ⟨L.tb,k*2+1,none⟩ (.bool y)):=by
 have hW:Wr (One L.tb) w (w.setCell ⟨L.tb,k*2+1,none⟩ (.bool y)):=(Wr.refl _ w).setCell _ _ λ_=>rfl
 refine ⟨⟨(hW.block _ (blk_lt h.obj) h.ne.2.1).trans h.obj,h.seat.wrote hW h.ne.2.2.1 h.ne.2.2.2.1,?_,h.ne,h.rng⟩,hW⟩
 rw [blk_setCell h.tick,List.setIfInBounds_toArray]
 congr 3
 refine flat_set (tkC_len num dr) (tkC_len _ _) _ k 1 (by decide) _ λi t ht l hl=> ?_
 obtain ⟨_,rfl⟩:i<s.n∧t=i:=by
  have hi:i<s.n:=by have:=(List.getElem?_eq_some_iff.1 ht).1;simpa using this
  rw [List.getElem?_range hi] at ht
  exact ⟨hi,by simpa using ht.symm⟩
 have:l=0∨l=1:=by omega
 rcases this with rfl|rfl
 ·by_cases e:t=k
  ·subst e;simp [tkC]
  ·simp [tkC,e]
 ·by_cases e:t=k
  ·subst e;simp [tkC,upd_same]
  ·simp [tkC,upd_other _ _ e,e]
theorem tset2 (h:FlRaw w L pv s num dr) {k:Nat} (hk:k<s.n) (x:Int) (y:Bool) (hx:0≤x∧x<4294967296):
  FlRaw ((w.setCell ⟨L.tb,k*2,none⟩ (.int .u32 x)).setCell ⟨L.tb,k*2+1,none⟩ (.bool y)) L pv s (upd num k x) (upd dr k y)∧Wr (One L.tb) w ((w.setCell ⟨L.tb,k*2,none⟩ (.int .u32 x)).setCell ⟨L.tb,k*2+1,none⟩ (.bool y)):=by
 obtain ⟨h1,hW1⟩:=h.tset0 hk x hx
 obtain ⟨h2,hW2⟩:=h1.tset1 hk y
 exact ⟨h2,hW1.trans hW2 λ_ _ x=>x⟩
theorem use (h:FlRaw w L pv s num dr) (v:Value):FlRaw (w.setCell ⟨L.lb,1,none⟩ v) L v s num dr:=by
 have hW:Wr (One L.lb) w (w.setCell ⟨L.lb,1,none⟩ v):=(Wr.refl _ w).setCell _ _ λ_=>rfl
 refine ⟨?_,h.seat.wrote hW (λe=>h.ne.2.2.2.2 e.symm) (λe=>h.ne.1 e.symm),(hW.block _ (blk_lt h.tick) (λe=>h.ne.2.1 e.symm)).trans h.tick,h.ne,h.rng⟩
 rw [blk_setCell h.obj]
 rfl
theorem place (h:FlRaw w L pv s num dr) (q:Place) (hs:List Int):FlRaw w {L with q:=q,hs:=hs} pv s num dr:=⟨h.obj,h.seat,h.tick,h.ne,h.rng⟩
end FlRaw
abbrev RawF (w:World) (L:Lp) (pv:Value) (f:FL):Prop:=FlRaw w L pv f.s f.num f.dr
structure LkAt (w:World) (L:Lp) (f:FL):Prop where
 raw:FlRaw w L (.pointer (some ⟨L.q.p,0,none⟩)) f.s f.num f.dr
 port:PortAt w L.q L.hs f.ps
 far:L.lb<L.q.k0∧L.p<L.q.k0∧L.b<L.q.k0∧L.tb<L.q.k0
 top:L.q.k3≤w.heap.size
def LF (L:Lp) (k:Nat):Prop:=k=L.b∨k=L.tb∨Rng L.q.k0 L.q.k3 k
namespace LkAt
variable {w w':World} {L:Lp} {f:FL}
theorem wrote {S:Nat→Prop} (h:LkAt w L f) (k:Wr S w w') (h1:¬ S L.lb) (h2:¬ S L.p) (h3:¬ S L.b) (h4:¬ S L.tb) (h5:∀ b,L.q.k0≤b→b<L.q.k3→¬ S b):LkAt w' L f:=
 ⟨h.raw.wrote k h1 h2 h3 h4,h.port.wrote k h5,h.far,Nat.le_trans h.top k.size⟩
theorem after (h:LkAt w L f) (k:Wr Nil w w'):LkAt w' L f:=h.wrote k id id id id λ_ _ _=>id
theorem seats {s':SS} (h:LkAt w L f) (hS:SeatAt w' L.p L.b s') (hn:s'.n=f.s.n) (k:Wr (One L.b) w w'):LkAt w' L {f with s:=s'}:=
 ⟨h.raw.seats hS hn k,h.port.wrote k λb b1 _ e=>by have:=h.far.2.2.1;cases e;omega,h.far,Nat.le_trans h.top k.size⟩
theorem ports {ps':PSta} (h:LkAt w L f) (hP:PortAt w' L.q L.hs ps') (k:Wr (Rng L.q.k0 L.q.k3) w w'):LkAt w' L {f with ps:=ps'}:=
 ⟨h.raw.wrote k (λe=>by have:=h.far.1;unfold Rng at e;omega) (λe=>by have:=h.far.2.1;unfold Rng at e;omega) (λe=>by have:=h.far.2.2.1;unfold Rng at e;omega) (λe=>by have:=h.far.2.2.2;unfold Rng at e;omega),hP,h.far,Nat.le_trans h.top k.size⟩
theorem ticks (h:LkAt w L f) {k:Nat} (hk:k<f.s.n) (x:Int) (y:Bool) (hx:0≤x∧x<4294967296):
  LkAt ((w.setCell ⟨L.tb,k*2,none⟩ (.int .u32 x)).setCell ⟨L.tb,k*2+1,none⟩ (.bool y)) L {f with num:=upd f.num k x,dr:=upd f.dr k y}∧Wr (One L.tb) w ((w.setCell ⟨L.tb,k*2,none⟩ (.int .u32 x)).setCell ⟨L.tb,k*2+1,none⟩ (.bool y)):=by
 obtain ⟨h1,hW⟩:=h.raw.tset2 hk x y hx
 exact ⟨⟨h1,h.port.wrote hW λb b1 _ e=>by have:=h.far.2.2.2;cases e;omega,h.far,Nat.le_trans h.top hW.size⟩,hW⟩
theorem wf (h:LkAt w L f) (j:Int):0≤loadI f.ps.ws j∧loadI f.ps.ws j<4294967296:=h.port.mem.load_rng j
theorem tell (h:LkAt w L f) (t K a:Int):0≤tellS f.ps t K a∧tellS f.ps t K a<4294967296:=by
 unfold tellS tellI
 repeat' split
 ·exact h.wf a
 all_goals omega
end LkAt
def LkPost (w:World) (L:Lp) (f:FL) (v:Value) (e:Ending) (w':World):Prop:=e= .returned v∧LkAt w' L f∧Wr (LF L) w w'
theorem lf_b {w w':World} {L:Lp} (k:Wr (One L.b) w w'):Wr (LF L) w w':=k.mono λ_ _ e=> .inl e
theorem lf_t {w w':World} {L:Lp} (k:Wr (One L.tb) w w'):Wr (LF L) w w':=k.mono λ_ _ e=> .inr (.inl e)
theorem lf_q {w w':World} {L:Lp} (k:Wr (Rng L.q.k0 L.q.k3) w w'):Wr (LF L) w w':=k.mono λ_ _ e=> .inr (.inr e)
theorem LkAt.lf_lt {w:World} {L:Lp} {f:FL} (h:LkAt w L f) {k:Nat} (hk:LF L k):k<w.heap.size:=by
 rcases hk with rfl|rfl|hk
 ·exact blk_lt h.raw.seat.ctx
 ·exact blk_lt h.raw.tick
 ·exact Nat.lt_of_lt_of_le hk.2 h.top
def didC (d:Dd):Array Value:= #[.int .i64 d.ev,.bool d.enq,.bool d.arr,.bool d.lead]
structure Fr (w:World) (B:Nat) (Y:World) (L:Lp) (f:FL):Prop where
 lk:LkAt Y L f
 wr:Wr (LF L) w Y
 res:Y.heap[B]? =some (.cells (didC Dd.no) 71 (0,0))
 new:w.heap.size≤B
namespace Fr
variable {w X Y:World} {L:Lp} {f f':FL} {B:Nat}
theorem start (h:LkAt w L f):Fr w w.heap.size (w.alloc (.cells #[.int .i64 0,.bool false,.bool false,.bool false] 71)) L f:=
 ⟨h.after ((Wr.refl _ w).alloc _),(Wr.refl _ w).alloc _,Go.Deep.blk_alloc_new w _,Nat.le_refl _⟩
theorem after (h:Fr w B X L f) (k:Wr Nil X Y):Fr w B Y L f:=⟨h.lk.after k,h.wr.trans k λ_ _ e=>e.elim,(k.block _ (blk_lt h.res) id).trans h.res,h.new⟩
theorem drew (h:Fr w B X L f):Fr w B X.drew L f:=h.after ((Wr.refl _ X).drew)
theorem call {f0:FL} (h0:LkAt w L f') (h:Fr w B X L f) (hl:LkAt Y L f0) (k:Wr (LF L) X Y):Fr w B Y L f0:=
 ⟨hl,h.wr.trans k λ_ _ e=>e,(k.block _ (blk_lt h.res) (λe=>by have:=h0.lf_lt e;have:=h.new;omega)).trans h.res,h.new⟩
theorem cell (h:Fr w B X L f):X.cell? ⟨B,0,none⟩=some (.int .i64 0)∧X.cell? ⟨B,1,none⟩=some (.bool false)∧X.cell? ⟨B,2,none⟩=some (.bool false)∧X.cell? ⟨B,3,none⟩=some (.bool false):=by
 rw [blk_cell h.res,blk_cell h.res,blk_cell h.res,blk_cell h.res];exact ⟨rfl,rfl,rfl,rfl⟩
theorem frz (h:Fr w B X L f):X.frozen? ⟨B,0,none⟩=false∧X.frozen? ⟨B,1,none⟩=false∧X.frozen? ⟨B,2,none⟩=false∧X.frozen? ⟨B,3,none⟩=false:=
 ⟨blk_frozen h.res 0,blk_frozen h.res 1,blk_frozen h.res 2,blk_frozen h.res 3⟩
end Fr
theorem set4 {Y:World} {B:Nat} {t:TypeId} {cs:Array Value} (h:Y.heap[B]? =some (.cells cs t (0,0))) (h4:cs.size=4) (x0 x1 x2 x3:Value):
  ((((Y.setCell ⟨B,0,none⟩ x0).setCell ⟨B,1,none⟩ x1).setCell ⟨B,2,none⟩ x2).setCell ⟨B,3,none⟩ x3).heap[B]? =some (.cells #[x0,x1,x2,x3] t (0,0)):=by
 rw [blk_setCell (blk_setCell (blk_setCell (blk_setCell h 0 x0) 1 x1) 2 x2) 3 x3]
 obtain ⟨l⟩:=cs
 match l,h4 with
 |[a,b,c,d],_=>rfl
theorem wrote4 (Y:World) (B:Nat) (x0 x1 x2 x3:Value):Wr (One B) Y ((((Y.setCell ⟨B,0,none⟩ x0).setCell ⟨B,1,none⟩ x1).setCell ⟨B,2,none⟩ x2).setCell ⟨B,3,none⟩ x3):=
 ((((Wr.refl (One B) Y).setCell ⟨B,0,none⟩ x0 λ_=>rfl).setCell ⟨B,1,none⟩ x1 λ_=>rfl).setCell ⟨B,2,none⟩ x2 λ_=>rfl).setCell ⟨B,3,none⟩ x3 λ_=>rfl
theorem Fr.told {w Y:World} {L:Lp} {f f0:FL} {B:Nat} (h0:LkAt w L f0) (h:Fr w B Y L f) (d:Dd):
  LkPost w L f d.val (.returned d.val) ((((Y.setCell ⟨B,0,none⟩ (.int .i64 d.ev)).setCell ⟨B,1,none⟩ (.bool d.enq)).setCell ⟨B,2,none⟩ (.bool d.arr)).setCell ⟨B,3,none⟩ (.bool d.lead)):=by
 have k:=wrote4 Y B (.int .i64 d.ev) (.bool d.enq) (.bool d.arr) (.bool d.lead)
 have hB:∀ j,j<w.heap.size→¬ One B j:=λj hj e=>by have:=h.new;cases e;omega
 have hp:=blk_lt h0.raw.seat.obj
 refine ⟨rfl,h.lk.wrote k (hB _ (blk_lt h0.raw.obj)) (hB _ (blk_lt h0.raw.seat.obj)) (hB _ (blk_lt h0.raw.seat.ctx)) (hB _ (blk_lt h0.raw.tick)) (λb _ b2=>hB b (Nat.lt_of_lt_of_le b2 h0.top)),?_⟩
 exact h.wr.trans k λb hb e=>(hB b hb e).elim
theorem i_did:(prog.info? 71).map (·.size)=some 4:=by kernel_rfl
end Go.Proofs.YtkmikkjjnbikdaaGreat.Kf
namespace Go.Proofs.YtkmikkjjnbikdaaGreat.Kc
open _root_.Go.Proofs.Tryz
open Go.RowKit
set_option linter.unusedVariables false
set_option maxRecDepth 100000
def tkC (pc node ahd:Nat→Int) (t:Nat):List Value:=[.int .i64 (pc t),.int .u32 (node t),.int .u32 (ahd t)]
theorem tkC_len (pc node ahd:Nat→Int):∀ x,(tkC pc node ahd x).length=3:=λ_=>rfl
def tks (n:Nat) (pc node ahd:Nat→Int):List Value:=(List.range n).flatMap (tkC pc node ahd)
theorem tks_at (n:Nat) (pc node ahd:Nat→Int) {k:Nat} (hk:k<n) {j:Nat} (hj:j<3):(tks n pc node ahd)[k*3+j]? =(tkC pc node ahd k)[j]? :=flat_at' (tkC_len pc node ahd) _ (by rw [List.getElem?_range hk]) hj
theorem range_at {n i t:Nat} (ht:(List.range n)[i]? =some t):i<n∧t=i:=by
 have hi:i<n:=by have:=(List.getElem?_eq_some_iff.1 ht).1;simpa using this
 rw [List.getElem?_range hi] at ht
 exact ⟨hi,by simpa using ht.symm⟩
theorem tks_set0 (n:Nat) (pc node ahd:Nat→Int) (k:Nat) (x:Int):(tks n pc node ahd).set (k*3) (.int .i64 x)=tks n (upd pc k x) node ahd:=by
 refine flat_set (tkC_len pc node ahd) (tkC_len _ _ _) _ k 0 (by decide) _ λi t ht l hl=> ?_
 obtain ⟨_,rfl⟩:=range_at ht
 have:l=0∨l=1∨l=2:=by omega
 rcases this with rfl|rfl|rfl
 ·by_cases e:t=k
  ·subst e;simp [tkC,upd_same]
  ·simp [tkC,upd_other _ _ e,e]
 ·by_cases e:t=k
  ·subst e;simp [tkC]
  ·simp [tkC,e]
 ·by_cases e:t=k
  ·subst e;simp [tkC]
  ·simp [tkC,e]
theorem tks_set1 (n:Nat) (pc node ahd:Nat→Int) (k:Nat) (x:Int):(tks n pc node ahd).set (k*3+1) (.int .u32 x)=tks n pc (upd node k x) ahd:=by
 refine flat_set (tkC_len pc node ahd) (tkC_len _ _ _) _ k 1 (by decide) _ λi t ht l hl=> ?_
 obtain ⟨_,rfl⟩:=range_at ht
 have:l=0∨l=1∨l=2:=by omega
 rcases this with rfl|rfl|rfl
 ·by_cases e:t=k
  ·subst e;simp [tkC]
  ·simp [tkC,e]
 ·by_cases e:t=k
  ·subst e;simp [tkC,upd_same]
  ·simp [tkC,upd_other _ _ e,e]
 ·by_cases e:t=k
  ·subst e;simp [tkC]
  ·simp [tkC,e]
theorem tks_set2 (n:Nat) (pc node ahd:Nat→Int) (k:Nat) (x:Int):(tks n pc node ahd).set (k*3+2) (.int .u32 x)=tks n pc node (upd ahd k x):=by
 refine flat_set (tkC_len pc node ahd) (tkC_len _ _ _) _ k 2 (by decide) _ λi t ht l hl=> ?_
 obtain ⟨_,rfl⟩:=range_at ht
 have:l=0∨l=1∨l=2:=by omega
 rcases this with rfl|rfl|rfl
 ·by_cases e:t=k
  ·subst e;simp [tkC]
  ·simp [tkC,e]
 ·by_cases e:t=k
  ·subst e;simp [tkC]
  ·simp [tkC,e]
 ·by_cases e:t=k
  ·subst e;simp [tkC,upd_same]
  ·simp [tkC,upd_other _ _ e,e]
structure FlRaw (w:World) (L:Lp) (pv:Value) (s:SS) (pc node ahd:Nat→Int):Prop where
 obj:w.heap[L.lb]? =some (.cells #[.pointer (some ⟨L.p,0,none⟩),pv,.int .i64 L.a1,.int .i64 L.a2,.slice (some ⟨L.tb,0,none⟩) s.n s.n] 187 (0,0))
 seat:SeatAt w L.p L.b s
 tick:w.heap[L.tb]? =some (.cells (tks s.n pc node ahd).toArray 195 (0,0))
 ne:L.lb≠L.b∧L.lb≠L.tb∧L.p≠L.tb∧L.b≠L.tb∧L.lb≠L.p
 rng:∀ k,(pc k=0∨pc k=1∨pc k=2)∧(0≤node k∧node k<4294967296)∧0≤ahd k∧ahd k<4294967296
 adr:0≤L.a2∧L.a2≤2000000
namespace FlRaw
variable {w w':World} {L:Lp} {pv:Value} {s:SS} {pc node ahd:Nat→Int}
theorem wrote {S:Nat→Prop} (h:FlRaw w L pv s pc node ahd) (k:Wr S w w') (h1:¬ S L.lb) (h2:¬ S L.p) (h3:¬ S L.b) (h4:¬ S L.tb):FlRaw w' L pv s pc node ahd:=
 ⟨(k.block _ (blk_lt h.obj) h1).trans h.obj,h.seat.wrote k h2 h3,(k.block _ (blk_lt h.tick) h4).trans h.tick,h.ne,h.rng,h.adr⟩
theorem seats {s':SS} (h:FlRaw w L pv s pc node ahd) (hS:SeatAt w' L.p L.b s') (hn:s'.n=s.n) (k:Wr (One L.b) w w'):FlRaw w' L pv s' pc node ahd:=by
 refine ⟨?_,hS,?_,h.ne,h.rng,h.adr⟩
 ·rw [hn];exact (k.block _ (blk_lt h.obj) h.ne.1).trans h.obj
 ·rw [hn];exact (k.block _ (blk_lt h.tick) (λe=>h.ne.2.2.2.1 e.symm)).trans h.tick
theorem cell0 (h:FlRaw w L pv s pc node ahd):w.cell? ⟨L.lb,0,none⟩=some (.pointer (some ⟨L.p,0,none⟩)):=by rw [blk_cell h.obj];rfl
theorem cell1 (h:FlRaw w L pv s pc node ahd):w.cell? ⟨L.lb,1,none⟩=some pv:=by rw [blk_cell h.obj];rfl
theorem cell2 (h:FlRaw w L pv s pc node ahd):w.cell? ⟨L.lb,2,none⟩=some (.int .i64 L.a1):=by rw [blk_cell h.obj];rfl
theorem cell3 (h:FlRaw w L pv s pc node ahd):w.cell? ⟨L.lb,3,none⟩=some (.int .i64 L.a2):=by rw [blk_cell h.obj];rfl
theorem cell4 (h:FlRaw w L pv s pc node ahd):w.cell? ⟨L.lb,4,none⟩=some (.slice (some ⟨L.tb,0,none⟩) s.n s.n):=by rw [blk_cell h.obj];rfl
theorem frozen (h:FlRaw w L pv s pc node ahd) (k:Nat):w.frozen? ⟨L.lb,k,none⟩=false:=blk_frozen h.obj k
theorem tk0 (h:FlRaw w L pv s pc node ahd) {k:Nat} (hk:k<s.n):w.cell? ⟨L.tb,k*3,none⟩=some (.int .i64 (pc k)):=by
 rw [blk_cell h.tick,List.getElem?_toArray]
 exact tks_at s.n pc node ahd hk (j:=0) (by decide)
theorem tk1 (h:FlRaw w L pv s pc node ahd) {k:Nat} (hk:k<s.n):w.cell? ⟨L.tb,k*3+1,none⟩=some (.int .u32 (node k)):=by
 rw [blk_cell h.tick,List.getElem?_toArray]
 exact tks_at s.n pc node ahd hk (j:=1) (by decide)
theorem tk2 (h:FlRaw w L pv s pc node ahd) {k:Nat} (hk:k<s.n):w.cell? ⟨L.tb,k*3+2,none⟩=some (.int .u32 (ahd k)):=by
 rw [blk_cell h.tick,List.getElem?_toArray]
 exact tks_at s.n pc node ahd hk (j:=2) (by decide)
theorem tkz (h:FlRaw w L pv s pc node ahd) (k:Nat):w.frozen? ⟨L.tb,k,none⟩=false:=blk_frozen h.tick k
theorem tset (h:FlRaw w L pv s pc node ahd) (j:Nat) (v:Value) {pc' node' ahd':Nat→Int} (hs:(tks s.n pc node ahd).set j v=tks s.n pc' node' ahd') (hr:∀ k,(pc' k=0∨pc' k=1∨pc' k=2)∧(0≤node' k∧node' k<4294967296)∧0≤ahd' k∧ahd' k<4294967296):
  FlRaw (w.setCell ⟨L.tb,j,none⟩ v) L pv s pc' node' ahd'∧Wr (One L.tb) w (w.setCell ⟨L.tb,j,none⟩ v):=by
 have hW:Wr (One L.tb) w (w.setCell ⟨L.tb,j,none⟩ v):=(Wr.refl _ w).setCell _ _ λ_=>rfl
 refine ⟨⟨(hW.block _ (blk_lt h.obj) h.ne.2.1).trans h.obj,h.seat.wrote hW h.ne.2.2.1 h.ne.2.2.2.1,?_,h.ne,hr,h.adr⟩,hW⟩
 rw [blk_setCell h.tick,List.setIfInBounds_toArray,hs]
theorem tset0 (h:FlRaw w L pv s pc node ahd) (k:Nat) (x:Int) (hx:x=0∨x=1∨x=2):
  FlRaw (w.setCell ⟨L.tb,k*3,none⟩ (.int .i64 x)) L pv s (upd pc k x) node ahd∧Wr (One L.tb) w (w.setCell ⟨L.tb,k*3,none⟩ (.int .i64 x)):=
 h.tset _ _ (tks_set0 _ _ _ _ k x) λj=>by
  by_cases e:j=k
  ·subst e;rw [upd_same];exact ⟨hx,(h.rng j).2⟩
  ·rw [upd_other _ _ e];exact h.rng j
theorem tset1 (h:FlRaw w L pv s pc node ahd) (k:Nat) (x:Int) (hx:0≤x∧x<4294967296):
  FlRaw (w.setCell ⟨L.tb,k*3+1,none⟩ (.int .u32 x)) L pv s pc (upd node k x) ahd∧Wr (One L.tb) w (w.setCell ⟨L.tb,k*3+1,none⟩ (.int .u32 x)):=
 h.tset _ _ (tks_set1 _ _ _ _ k x) λj=>by
  by_cases e:j=k
  ·subst e;rw [upd_same];exact ⟨(h.rng j).1,hx,(h.rng j).2.2⟩
  ·rw [upd_other _ _ e];exact h.rng j
theorem tset2 (h:FlRaw w L pv s pc node ahd) (k:Nat) (x:Int) (hx:0≤x∧x<4294967296):
  FlRaw (w.setCell ⟨L.tb,k*3+2,none⟩ (.int .u32 x)) L pv s pc node (upd ahd k x)∧Wr (One L.tb) w (w.setCell ⟨L.tb,k*3+2,none⟩ (.int .u32 x)):=
 h.tset _ _ (tks_set2 _ _ _ _ k x) λj=>by
  by_cases e:j=k
  ·subst e;rw [upd_same];exact ⟨(h.rng j).1,(h.rng j).2.1,hx⟩
  ·rw [upd_other _ _ e];exact h.rng j
theorem use (h:FlRaw w L pv s pc node ahd) (v:Value):FlRaw (w.setCell ⟨L.lb,1,none⟩ v) L v s pc node ahd:=by
 have hW:Wr (One L.lb) w (w.setCell ⟨L.lb,1,none⟩ v):=(Wr.refl _ w).setCell _ _ λ_=>rfl
 refine ⟨?_,h.seat.wrote hW (λe=>h.ne.2.2.2.2 e.symm) (λe=>h.ne.1 e.symm),(hW.block _ (blk_lt h.tick) (λe=>h.ne.2.1 e.symm)).trans h.tick,h.ne,h.rng,h.adr⟩
 rw [blk_setCell h.obj]
 rfl
theorem place (h:FlRaw w L pv s pc node ahd) (q:Place) (hs:List Int):FlRaw w {L with q:=q,hs:=hs} pv s pc node ahd:=⟨h.obj,h.seat,h.tick,h.ne,h.rng,h.adr⟩
end FlRaw
abbrev RawF (w:World) (L:Lp) (pv:Value) (f:FL):Prop:=FlRaw w L pv f.s f.pc f.node f.ahd
structure LkAt (w:World) (L:Lp) (f:FL):Prop where
 raw:FlRaw w L (.pointer (some ⟨L.q.p,0,none⟩)) f.s f.pc f.node f.ahd
 port:PortAt w L.q L.hs f.ps
 far:L.lb<L.q.k0∧L.p<L.q.k0∧L.b<L.q.k0∧L.tb<L.q.k0
 top:L.q.k3≤w.heap.size
def LF (L:Lp) (k:Nat):Prop:=k=L.b∨k=L.tb∨Rng L.q.k0 L.q.k3 k
namespace LkAt
variable {w w':World} {L:Lp} {f:FL}
theorem wrote {S:Nat→Prop} (h:LkAt w L f) (k:Wr S w w') (h1:¬ S L.lb) (h2:¬ S L.p) (h3:¬ S L.b) (h4:¬ S L.tb) (h5:∀ b,L.q.k0≤b→b<L.q.k3→¬ S b):LkAt w' L f:=
 ⟨h.raw.wrote k h1 h2 h3 h4,h.port.wrote k h5,h.far,Nat.le_trans h.top k.size⟩
theorem after (h:LkAt w L f) (k:Wr Nil w w'):LkAt w' L f:=h.wrote k id id id id λ_ _ _=>id
theorem seats {s':SS} (h:LkAt w L f) (hS:SeatAt w' L.p L.b s') (hn:s'.n=f.s.n) (k:Wr (One L.b) w w'):LkAt w' L {f with s:=s'}:=
 ⟨h.raw.seats hS hn k,h.port.wrote k λb b1 _ e=>by have:=h.far.2.2.1;cases e;omega,h.far,Nat.le_trans h.top k.size⟩
theorem ports {ps':PSta} (h:LkAt w L f) (hP:PortAt w' L.q L.hs ps') (k:Wr (Rng L.q.k0 L.q.k3) w w'):LkAt w' L {f with ps:=ps'}:=
 ⟨h.raw.wrote k (λe=>by have:=h.far.1;unfold Rng at e;omega) (λe=>by have:=h.far.2.1;unfold Rng at e;omega) (λe=>by have:=h.far.2.2.1;unfold Rng at e;omega) (λe=>by have:=h.far.2.2.2;unfold Rng at e;omega),hP,h.far,Nat.le_trans h.top k.size⟩
theorem turns (h:LkAt w L f) {pc' node' ahd':Nat→Int} (k:FlRaw w' L (.pointer (some ⟨L.q.p,0,none⟩)) f.s pc' node' ahd'∧Wr (One L.tb) w w'):
  LkAt w' L {f with pc:=pc',node:=node',ahd:=ahd'}∧Wr (One L.tb) w w':=
 ⟨⟨k.1,h.port.wrote k.2 λb b1 _ e=>by have:=h.far.2.2.2;cases e;omega,h.far,Nat.le_trans h.top k.2.size⟩,k.2⟩
theorem tick0 (h:LkAt w L f) (k:Nat) (x:Int) (hx:x=0∨x=1∨x=2):
  LkAt (w.setCell ⟨L.tb,k*3,none⟩ (.int .i64 x)) L {f with pc:=upd f.pc k x}∧Wr (One L.tb) w (w.setCell ⟨L.tb,k*3,none⟩ (.int .i64 x)):=h.turns (h.raw.tset0 k x hx)
theorem tick20 (h:LkAt w L f) (k:Nat) (x y:Int) (hx:x=0∨x=1∨x=2) (hy:0≤y∧y<4294967296):
  LkAt ((w.setCell ⟨L.tb,k*3+2,none⟩ (.int .u32 y)).setCell ⟨L.tb,k*3,none⟩ (.int .i64 x)) L {f with pc:=upd f.pc k x,ahd:=upd f.ahd k y}∧Wr (One L.tb) w ((w.setCell ⟨L.tb,k*3+2,none⟩ (.int .u32 y)).setCell ⟨L.tb,k*3,none⟩ (.int .i64 x)):=by
 obtain ⟨h1,k1⟩:=h.raw.tset2 k y hy
 obtain ⟨h2,k2⟩:=h1.tset0 k x hx
 exact h.turns ⟨h2,k1.trans k2 λ_ _ e=>e⟩
theorem tick3 (h:LkAt w L f) (k:Nat) (x y z:Int) (hx:x=0∨x=1∨x=2) (hy:0≤y∧y<4294967296) (hz:0≤z∧z<4294967296):
  LkAt (((w.setCell ⟨L.tb,k*3,none⟩ (.int .i64 x)).setCell ⟨L.tb,k*3+1,none⟩ (.int .u32 y)).setCell ⟨L.tb,k*3+2,none⟩ (.int .u32 z)) L {f with pc:=upd f.pc k x,node:=upd f.node k y,ahd:=upd f.ahd k z}∧Wr (One L.tb) w (((w.setCell ⟨L.tb,k*3,none⟩ (.int .i64 x)).setCell ⟨L.tb,k*3+1,none⟩ (.int .u32 y)).setCell ⟨L.tb,k*3+2,none⟩ (.int .u32 z)):=by
 obtain ⟨h1,k1⟩:=h.raw.tset0 k x hx
 obtain ⟨h2,k2⟩:=h1.tset1 k y hy
 obtain ⟨h3,k3⟩:=h2.tset2 k z hz
 exact h.turns ⟨h3,(k1.trans k2 λ_ _ e=>e).trans k3 λ_ _ e=>e⟩
theorem wf (h:LkAt w L f) (j:Int):0≤loadI f.ps.ws j∧loadI f.ps.ws j<4294967296:=h.port.mem.load_rng j
theorem tell (h:LkAt w L f) (t K a:Int):0≤tellS f.ps t K a∧tellS f.ps t K a<4294967296:=by
 unfold tellS tellI
 repeat' split
 ·exact h.wf a
 all_goals omega
end LkAt
def LkPost (w:World) (L:Lp) (f:FL) (v:Value) (e:Ending) (w':World):Prop:=e= .returned v∧LkAt w' L f∧Wr (LF L) w w'
theorem lf_b {w w':World} {L:Lp} (k:Wr (One L.b) w w'):Wr (LF L) w w':=k.mono λ_ _ e=> .inl e
theorem lf_t {w w':World} {L:Lp} (k:Wr (One L.tb) w w'):Wr (LF L) w w':=k.mono λ_ _ e=> .inr (.inl e)
theorem lf_q {w w':World} {L:Lp} (k:Wr (Rng L.q.k0 L.q.k3) w w'):Wr (LF L) w w':=k.mono λ_ _ e=> .inr (.inr e)
theorem LkAt.lf_lt {w:World} {L:Lp} {f:FL} (h:LkAt w L f) {k:Nat} (hk:LF L k):k<w.heap.size:=by
 rcases hk with rfl|rfl|hk
 ·exact blk_lt h.raw.seat.ctx
 ·exact blk_lt h.raw.tick
 ·exact Nat.lt_of_lt_of_le hk.2 h.top
def didC (d:Dd):Array Value:= #[.int .i64 d.ev,.bool d.enq,.bool d.arr,.bool d.lead]
structure Fr (w:World) (B:Nat) (Y:World) (L:Lp) (f:FL):Prop where
 lk:LkAt Y L f
 wr:Wr (LF L) w Y
 res:Y.heap[B]? =some (.cells (didC Dd.no) 71 (0,0))
 new:w.heap.size≤B
namespace Fr
variable {w X Y:World} {L:Lp} {f f':FL} {B:Nat}
theorem start (h:LkAt w L f):Fr w w.heap.size (w.alloc (.cells #[.int .i64 0,.bool false,.bool false,.bool false] 71)) L f:=
 ⟨h.after ((Wr.refl _ w).alloc _),(Wr.refl _ w).alloc _,Go.Deep.blk_alloc_new w _,Nat.le_refl _⟩
theorem after (h:Fr w B X L f) (k:Wr Nil X Y):Fr w B Y L f:=⟨h.lk.after k,h.wr.trans k λ_ _ e=>e.elim,(k.block _ (blk_lt h.res) id).trans h.res,h.new⟩
theorem drew (h:Fr w B X L f):Fr w B X.drew L f:=h.after ((Wr.refl _ X).drew)
theorem call {f0:FL} (h0:LkAt w L f') (h:Fr w B X L f) (hl:LkAt Y L f0) (k:Wr (LF L) X Y):Fr w B Y L f0:=
 ⟨hl,h.wr.trans k λ_ _ e=>e,(k.block _ (blk_lt h.res) (λe=>by have:=h0.lf_lt e;have:=h.new;omega)).trans h.res,h.new⟩
theorem cell (h:Fr w B X L f):X.cell? ⟨B,0,none⟩=some (.int .i64 0)∧X.cell? ⟨B,1,none⟩=some (.bool false)∧X.cell? ⟨B,2,none⟩=some (.bool false)∧X.cell? ⟨B,3,none⟩=some (.bool false):=by
 rw [blk_cell h.res,blk_cell h.res,blk_cell h.res,blk_cell h.res];exact ⟨rfl,rfl,rfl,rfl⟩
theorem frz (h:Fr w B X L f):X.frozen? ⟨B,0,none⟩=false∧X.frozen? ⟨B,1,none⟩=false∧X.frozen? ⟨B,2,none⟩=false∧X.frozen? ⟨B,3,none⟩=false:=
 ⟨blk_frozen h.res 0,blk_frozen h.res 1,blk_frozen h.res 2,blk_frozen h.res 3⟩
end Fr
theorem set4 {Y:World} {B:Nat} {t:TypeId} {cs:Array Value} (h:Y.heap[B]? =some (.cells cs t (0,0))) (h4:cs.size=4) (x0 x1 x2 x3:Value):
  ((((Y.setCell ⟨B,0,none⟩ x0).setCell ⟨B,1,none⟩ x1).setCell ⟨B,2,none⟩ x2).setCell ⟨B,3,none⟩ x3).heap[B]? =some (.cells #[x0,x1,x2,x3] t (0,0)):=by
 rw [blk_setCell (blk_setCell (blk_setCell (blk_setCell h 0 x0) 1 x1) 2 x2) 3 x3]
 obtain ⟨l⟩:=cs
 match l,h4 with
 |[a,b,c,d],_=>rfl
theorem wrote4 (Y:World) (B:Nat) (x0 x1 x2 x3:Value):Wr (One B) Y ((((Y.setCell ⟨B,0,none⟩ x0).setCell ⟨B,1,none⟩ x1).setCell ⟨B,2,none⟩ x2).setCell ⟨B,3,none⟩ x3):=
 ((((Wr.refl (One B) Y).setCell ⟨B,0,none⟩ x0 λ_=>rfl).setCell ⟨B,1,none⟩ x1 λ_=>rfl).setCell ⟨B,2,none⟩ x2 λ_=>rfl).setCell ⟨B,3,none⟩ x3 λ_=>rfl
theorem Fr.told {w Y:World} {L:Lp} {f f0:FL} {B:Nat} (h0:LkAt w L f0) (h:Fr w B Y L f) (d:Dd):
  LkPost w L f d.val (.returned d.val) ((((Y.setCell ⟨B,0,none⟩ (.int .i64 d.ev)).setCell ⟨B,1,none⟩ (.bool d.enq)).setCell ⟨B,2,none⟩ (.bool d.arr)).setCell ⟨B,3,none⟩ (.bool d.lead)):=by
 have k:=wrote4 Y B (.int .i64 d.ev) (.bool d.enq) (.bool d.arr) (.bool d.lead)
 have hB:∀ j,j<w.heap.size→¬ One B j:=λj hj e=>by have:=h.new;cases e;omega
 have hp:=blk_lt h0.raw.seat.obj
 refine ⟨rfl,h.lk.wrote k (hB _ (blk_lt h0.raw.obj)) (hB _ (blk_lt h0.raw.seat.obj)) (hB _ (blk_lt h0.raw.seat.ctx)) (hB _ (blk_lt h0.raw.tick)) (λb _ b2=>hB b (Nat.lt_of_lt_of_le b2 h0.top)),?_⟩
 exact h.wr.trans k λb hb e=>(hB b hb e).elim
theorem i_did:(prog.info? 71).map (·.size)=some 4:=by kernel_rfl
end Go.Proofs.YtkmikkjjnbikdaaGreat.Kc
namespace Go.Proofs.YtkmikkjjnbikdaaGreat.Km
open _root_.Go.Proofs.Tryz
open Go.RowKit
set_option linter.unusedVariables false
set_option maxRecDepth 100000
def _root_.Go.Proofs.YtkmikkjjnbikdaaGreat.SS.Kp (s s':SS) (pc:Nat→Int):Prop:=s'.n=s.n∧∀ k,s'.st k≠1→s.st k≠1∨pc k=0
theorem _root_.Go.Proofs.YtkmikkjjnbikdaaGreat.SS.lock_k (s:SS) (t d:Int) (pc:Nat→Int):s.Kp (s.lock t d) pc:=by
 refine ⟨s.lock_n t d,λk hk=> .inl ?_⟩
 unfold SS.lock at hk
 split at hk
 ·by_cases e:k=t.toNat
  ·subst e;exact absurd (upd_same _ _ _) hk
  ·exact λq=>hk ((upd_other _ _ e).trans q)
 ·exact hk
theorem _root_.Go.Proofs.YtkmikkjjnbikdaaGreat.SS.turn_k (s:SS) (t x:Int) (pc:Nat→Int):s.Kp (s.turn t x) pc:=by
 refine ⟨s.turn_n t x,λk hk=> .inl ?_⟩
 unfold SS.turn at hk
 split at hk
 ·rename_i ht
  by_cases e:k=t.toNat
  ·subst e
   unfold turnE at ht
   intro q
   rw [q] at ht
   repeat' split at ht
   all_goals omega
  ·exact λq=>hk ((upd_other _ _ e).trans q)
 ·exact hk
theorem _root_.Go.Proofs.YtkmikkjjnbikdaaGreat.SS.probe_k (s:SS) (t:Int) (pc:Nat→Int):s.Kp (s.probe t) pc:=by
 unfold SS.probe
 split
 ·exact s.turn_k t 4 pc
 ·exact ⟨rfl,λ_ h=> .inl h⟩
theorem _root_.Go.Proofs.YtkmikkjjnbikdaaGreat.SS.fin_k (s:SS) (t ev:Int) (pc:Nat→Int) (h:∀ k:Nat,(k:Int)=t→s.st k=1→ev≠0→pc k=0):s.Kp (s.fin t ev) pc:=by
 refine ⟨s.fin_n t ev,λk hk=> ?_⟩
 by_cases q:s.st k=1
 ·refine .inr ?_
  unfold SS.fin at hk
  split at hk
  ·rename_i y hy
   unfold endO at hy
   split at hy
   ·rename_i ht
    by_cases e:k=t.toNat
    ·subst e
     refine h t.toNat (by omega) q λe0=> ?_
     subst e0
     rw [q] at hy
     exact absurd (show (none:Option Int)=some y from hy) (by simp)
    ·exact absurd ((upd_other _ _ e).trans q) hk
   ·exact absurd hy (by simp)
  ·exact absurd q hk
 ·exact .inl q
def tkC (pc og:Nat→Int) (t:Nat):List Value:=[.int .i64 (pc t),.int .u32 (og t)]
theorem tkC_len (pc og:Nat→Int):∀ x,(tkC pc og x).length=2:=λ_=>rfl
def tks (n:Nat) (pc og:Nat→Int):List Value:=(List.range n).flatMap (tkC pc og)
theorem tks_at (n:Nat) (pc og:Nat→Int) {k:Nat} (hk:k<n) {j:Nat} (hj:j<2):(tks n pc og)[k*2+j]? =(tkC pc og k)[j]? :=flat_at' (tkC_len pc og) _ (by rw [List.getElem?_range hk]) hj
theorem range_at {n i t:Nat} (ht:(List.range n)[i]? =some t):i<n∧t=i:=by
 have hi:i<n:=by have:=(List.getElem?_eq_some_iff.1 ht).1;simpa using this
 rw [List.getElem?_range hi] at ht
 exact ⟨hi,by simpa using ht.symm⟩
theorem tks_set0 (n:Nat) (pc og:Nat→Int) (k:Nat) (x:Int):(tks n pc og).set (k*2) (.int .i64 x)=tks n (upd pc k x) og:=by
 refine flat_set (tkC_len pc og) (tkC_len _ _) _ k 0 (by decide) _ λi t ht l hl=> ?_
 obtain ⟨_,rfl⟩:=range_at ht
 have:l=0∨l=1:=by omega
 rcases this with rfl|rfl
 ·by_cases e:t=k
  ·subst e;simp [tkC,upd_same]
  ·simp [tkC,upd_other _ _ e,e]
 ·by_cases e:t=k
  ·subst e;simp [tkC]
  ·simp [tkC,e]
theorem tks_set1 (n:Nat) (pc og:Nat→Int) (k:Nat) (x:Int):(tks n pc og).set (k*2+1) (.int .u32 x)=tks n pc (upd og k x):=by
 refine flat_set (tkC_len pc og) (tkC_len _ _) _ k 1 (by decide) _ λi t ht l hl=> ?_
 obtain ⟨_,rfl⟩:=range_at ht
 have:l=0∨l=1:=by omega
 rcases this with rfl|rfl
 ·by_cases e:t=k
  ·subst e;simp [tkC]
  ·simp [tkC,e]
 ·by_cases e:t=k
  ·subst e;simp [tkC,upd_same]
  ·simp [tkC,upd_other _ _ e,e]
theorem upd_sf {α:Type} (f:Nat→α) (k j:Nat):f j=upd f k (f k) j:=by
 by_cases e:j=k
 ·subst e;rw [upd_same]
 ·rw [upd_other _ _ e]
def ogf (pc oth:Nat→Int) (k:Nat):Int:=if pc k≤1 then 0 else oth k
theorem ogf_upd (pc oth:Nat→Int) (k:Nat) {x z y:Int} (hy:y=if x≤1 then 0 else z):upd (ogf pc oth) k y=ogf (upd pc k x) (upd oth k z):=by
 funext j
 unfold ogf
 by_cases e:j=k
 ·subst e;rw [upd_same,upd_same,upd_same];exact hy
 ·rw [upd_other _ _ e,upd_other _ _ e,upd_other _ _ e]
theorem ogf_same (pc oth:Nat→Int) (k:Nat) {x z:Int} (hy:ogf pc oth k=if x≤1 then 0 else z):ogf pc oth=ogf (upd pc k x) (upd oth k z):=by
 rw [←ogf_upd pc oth k hy]
 exact funext λj=>upd_sf (ogf pc oth) k j
theorem upd_id (g:Nat→Int) (k:Nat) {x:Int} (h:x=g k):upd g k x=g:=by subst h;exact funext λj=>(upd_sf g k j).symm
structure FlRaw (w:World) (L:Lp) (pv:Value) (s:SS) (pc oth:Nat→Int):Prop where
 obj:w.heap[L.lb]? =some (.cells #[.pointer (some ⟨L.p,0,none⟩),pv,.int .i64 L.a1,.slice (some ⟨L.tb,0,none⟩) s.n s.n] 191 (0,0))
 seat:SeatAt w L.p L.b s
 tick:w.heap[L.tb]? =some (.cells (tks s.n pc (ogf pc oth)).toArray 242 (0,0))
 ne:L.lb≠L.b∧L.lb≠L.tb∧L.p≠L.tb∧L.b≠L.tb∧L.lb≠L.p
 rng:∀ k,(0≤pc k∧pc k≤4)∧0≤oth k∧oth k<4294967296
 inv:∀ k,s.st k≠1→pc k≤3∧(pc k=1∨pc k=2→oth k=0)
 adr:0≤L.a1∧L.a1≤2000000∧L.a2=L.a1+1
namespace FlRaw
variable {w w':World} {L:Lp} {pv:Value} {s:SS} {pc oth:Nat→Int}
theorem wrote {S:Nat→Prop} (h:FlRaw w L pv s pc oth) (k:Wr S w w') (h1:¬ S L.lb) (h2:¬ S L.p) (h3:¬ S L.b) (h4:¬ S L.tb):FlRaw w' L pv s pc oth:=
 ⟨(k.block _ (blk_lt h.obj) h1).trans h.obj,h.seat.wrote k h2 h3,(k.block _ (blk_lt h.tick) h4).trans h.tick,h.ne,h.rng,h.inv,h.adr⟩
theorem seats {s':SS} (h:FlRaw w L pv s pc oth) (hS:SeatAt w' L.p L.b s') (hn:s.Kp s' pc) (k:Wr (One L.b) w w'):FlRaw w' L pv s' pc oth:=by
 refine ⟨?_,hS,?_,h.ne,h.rng,λj hj=> ?_,h.adr⟩
 ·rw [hn.1];exact (k.block _ (blk_lt h.obj) h.ne.1).trans h.obj
 ·rw [hn.1];exact (k.block _ (blk_lt h.tick) (λe=>h.ne.2.2.2.1 e.symm)).trans h.tick
 ·rcases hn.2 j hj with q|q
  ·exact h.inv j q
  ·omega
theorem cell0 (h:FlRaw w L pv s pc oth):w.cell? ⟨L.lb,0,none⟩=some (.pointer (some ⟨L.p,0,none⟩)):=by rw [blk_cell h.obj];rfl
theorem cell1 (h:FlRaw w L pv s pc oth):w.cell? ⟨L.lb,1,none⟩=some pv:=by rw [blk_cell h.obj];rfl
theorem cell2 (h:FlRaw w L pv s pc oth):w.cell? ⟨L.lb,2,none⟩=some (.int .i64 L.a1):=by rw [blk_cell h.obj];rfl
theorem cell3 (h:FlRaw w L pv s pc oth):w.cell? ⟨L.lb,3,none⟩=some (.slice (some ⟨L.tb,0,none⟩) s.n s.n):=by rw [blk_cell h.obj];rfl
theorem frozen (h:FlRaw w L pv s pc oth) (k:Nat):w.frozen? ⟨L.lb,k,none⟩=false:=blk_frozen h.obj k
theorem tk0 (h:FlRaw w L pv s pc oth) {k:Nat} (hk:k<s.n):w.cell? ⟨L.tb,k*2,none⟩=some (.int .i64 (pc k)):=by
 rw [blk_cell h.tick,List.getElem?_toArray]
 exact tks_at s.n pc (ogf pc oth) hk (j:=0) (by decide)
theorem tk1 (h:FlRaw w L pv s pc oth) {k:Nat} (hk:k<s.n):w.cell? ⟨L.tb,k*2+1,none⟩=some (.int .u32 (ogf pc oth k)):=by
 rw [blk_cell h.tick,List.getElem?_toArray]
 exact tks_at s.n pc (ogf pc oth) hk (j:=1) (by decide)
theorem tkz (h:FlRaw w L pv s pc oth) (k:Nat):w.frozen? ⟨L.tb,k,none⟩=false:=blk_frozen h.tick k
theorem ranges (h:FlRaw w L pv s pc oth) (k:Nat) {x z:Int} (hx:0≤x∧x≤4) (hz:0≤z∧z<4294967296) (j:Nat):(0≤upd pc k x j∧upd pc k x j≤4)∧0≤upd oth k z j∧upd oth k z j<4294967296:=by
 by_cases e:j=k
 ·subst e;rw [upd_same,upd_same];exact ⟨hx,hz⟩
 ·rw [upd_other _ _ e,upd_other _ _ e];exact h.rng j
theorem invs (h:FlRaw w L pv s pc oth) (k:Nat) {x z:Int} (hi:s.st k≠1→x≤3∧(x=1∨x=2→z=0)) (j:Nat) (hj:s.st j≠1):upd pc k x j≤3∧(upd pc k x j=1∨upd pc k x j=2→upd oth k z j=0):=by
 by_cases e:j=k
 ·subst e;rw [upd_same,upd_same];exact hi hj
 ·rw [upd_other _ _ e,upd_other _ _ e];exact h.inv j hj
theorem set1 (h:FlRaw w L pv s pc oth) (k:Nat) (x z:Int) (hx:0≤x∧x≤4) (hz:0≤z∧z<4294967296) (hy:ogf pc oth k=if x≤1 then 0 else z) (hi:s.st k≠1→x≤3∧(x=1∨x=2→z=0)):
  FlRaw (w.setCell ⟨L.tb,k*2,none⟩ (.int .i64 x)) L pv s (upd pc k x) (upd oth k z)∧Wr (One L.tb) w (w.setCell ⟨L.tb,k*2,none⟩ (.int .i64 x)):=by
 have hW:Wr (One L.tb) w (w.setCell ⟨L.tb,k*2,none⟩ (.int .i64 x)):=(Wr.refl _ w).setCell _ _ λ_=>rfl
 refine ⟨⟨(hW.block _ (blk_lt h.obj) h.ne.2.1).trans h.obj,h.seat.wrote hW h.ne.2.2.1 h.ne.2.2.2.1,?_,h.ne,h.ranges k hx hz,h.invs k hi,h.adr⟩,hW⟩
 rw [blk_setCell h.tick,List.setIfInBounds_toArray,tks_set0,←ogf_same pc oth k hy]
theorem set2 (h:FlRaw w L pv s pc oth) (k:Nat) (x z y:Int) (hx:0≤x∧x≤4) (hz:0≤z∧z<4294967296) (hy:y=if x≤1 then 0 else z) (hi:s.st k≠1→x≤3∧(x=1∨x=2→z=0)):
  FlRaw ((w.setCell ⟨L.tb,k*2,none⟩ (.int .i64 x)).setCell ⟨L.tb,k*2+1,none⟩ (.int .u32 y)) L pv s (upd pc k x) (upd oth k z)∧Wr (One L.tb) w ((w.setCell ⟨L.tb,k*2,none⟩ (.int .i64 x)).setCell ⟨L.tb,k*2+1,none⟩ (.int .u32 y)):=by
 have hW:Wr (One L.tb) w ((w.setCell ⟨L.tb,k*2,none⟩ (.int .i64 x)).setCell ⟨L.tb,k*2+1,none⟩ (.int .u32 y)):=((Wr.refl (One L.tb) w).setCell ⟨L.tb,k*2,none⟩ (.int .i64 x) λ_=>rfl).setCell ⟨L.tb,k*2+1,none⟩ (.int .u32 y) λ_=>rfl
 refine ⟨⟨(hW.block _ (blk_lt h.obj) h.ne.2.1).trans h.obj,h.seat.wrote hW h.ne.2.2.1 h.ne.2.2.2.1,?_,h.ne,h.ranges k hx hz,h.invs k hi,h.adr⟩,hW⟩
 rw [blk_setCell (blk_setCell h.tick _ _),List.setIfInBounds_toArray,List.setIfInBounds_toArray,tks_set0,tks_set1,ogf_upd pc oth k hy]
theorem use (h:FlRaw w L pv s pc oth) (v:Value):FlRaw (w.setCell ⟨L.lb,1,none⟩ v) L v s pc oth:=by
 have hW:Wr (One L.lb) w (w.setCell ⟨L.lb,1,none⟩ v):=(Wr.refl _ w).setCell _ _ λ_=>rfl
 refine ⟨?_,h.seat.wrote hW (λe=>h.ne.2.2.2.2 e.symm) (λe=>h.ne.1 e.symm),(hW.block _ (blk_lt h.tick) (λe=>h.ne.2.1 e.symm)).trans h.tick,h.ne,h.rng,h.inv,h.adr⟩
 rw [blk_setCell h.obj]
 rfl
theorem place (h:FlRaw w L pv s pc oth) (q:Place) (hs:List Int):FlRaw w {L with q:=q,hs:=hs} pv s pc oth:=⟨h.obj,h.seat,h.tick,h.ne,h.rng,h.inv,h.adr⟩
end FlRaw
abbrev RawF (w:World) (L:Lp) (pv:Value) (f:FL):Prop:=FlRaw w L pv f.s f.pc f.oth
structure LkAt (w:World) (L:Lp) (f:FL):Prop where
 raw:FlRaw w L (.pointer (some ⟨L.q.p,0,none⟩)) f.s f.pc f.oth
 port:PortAt w L.q L.hs f.ps
 far:L.lb<L.q.k0∧L.p<L.q.k0∧L.b<L.q.k0∧L.tb<L.q.k0
 top:L.q.k3≤w.heap.size
def LF (L:Lp) (k:Nat):Prop:=k=L.b∨k=L.tb∨Rng L.q.k0 L.q.k3 k
namespace LkAt
variable {w w':World} {L:Lp} {f:FL}
theorem wrote {S:Nat→Prop} (h:LkAt w L f) (k:Wr S w w') (h1:¬ S L.lb) (h2:¬ S L.p) (h3:¬ S L.b) (h4:¬ S L.tb) (h5:∀ b,L.q.k0≤b→b<L.q.k3→¬ S b):LkAt w' L f:=
 ⟨h.raw.wrote k h1 h2 h3 h4,h.port.wrote k h5,h.far,Nat.le_trans h.top k.size⟩
theorem after (h:LkAt w L f) (k:Wr Nil w w'):LkAt w' L f:=h.wrote k id id id id λ_ _ _=>id
theorem seats {s':SS} (h:LkAt w L f) (hS:SeatAt w' L.p L.b s') (hn:f.s.Kp s' f.pc) (k:Wr (One L.b) w w'):LkAt w' L {f with s:=s'}:=
 ⟨h.raw.seats hS hn k,h.port.wrote k λb b1 _ e=>by have:=h.far.2.2.1;cases e;omega,h.far,Nat.le_trans h.top k.size⟩
theorem ports {ps':PSta} (h:LkAt w L f) (hP:PortAt w' L.q L.hs ps') (k:Wr (Rng L.q.k0 L.q.k3) w w'):LkAt w' L {f with ps:=ps'}:=
 ⟨h.raw.wrote k (λe=>by have:=h.far.1;unfold Rng at e;omega) (λe=>by have:=h.far.2.1;unfold Rng at e;omega) (λe=>by have:=h.far.2.2.1;unfold Rng at e;omega) (λe=>by have:=h.far.2.2.2;unfold Rng at e;omega),hP,h.far,Nat.le_trans h.top k.size⟩
theorem turns (h:LkAt w L f) {pc' oth':Nat→Int} (k:FlRaw w' L (.pointer (some ⟨L.q.p,0,none⟩)) f.s pc' oth'∧Wr (One L.tb) w w'):
  LkAt w' L {f with pc:=pc',oth:=oth'}∧Wr (One L.tb) w w':=
 ⟨⟨k.1,h.port.wrote k.2 λb b1 _ e=>by have:=h.far.2.2.2;cases e;omega,h.far,Nat.le_trans h.top k.2.size⟩,k.2⟩
theorem tick1 (h:LkAt w L f) (k:Nat) (x:Int) (hx:0≤x∧x≤4) (hy:ogf f.pc f.oth k=if x≤1 then 0 else f.oth k) (hi:f.s.st k≠1→x≤3∧(x=1∨x=2→f.oth k=0)):
  LkAt (w.setCell ⟨L.tb,k*2,none⟩ (.int .i64 x)) L {f with pc:=upd f.pc k x}∧Wr (One L.tb) w (w.setCell ⟨L.tb,k*2,none⟩ (.int .i64 x)):=by
 have:=h.turns (h.raw.set1 k x (f.oth k) hx (h.raw.rng k).2 hy hi)
 rw [upd_id f.oth k rfl] at this
 exact this
theorem tick0 (h:LkAt w L f) (k:Nat):
  LkAt ((w.setCell ⟨L.tb,k*2,none⟩ (.int .i64 0)).setCell ⟨L.tb,k*2+1,none⟩ (.int .u32 0)) L {f with pc:=upd f.pc k 0}∧Wr (One L.tb) w ((w.setCell ⟨L.tb,k*2,none⟩ (.int .i64 0)).setCell ⟨L.tb,k*2+1,none⟩ (.int .u32 0)):=by
 have:=h.turns (h.raw.set2 k 0 (f.oth k) 0 (by omega) (h.raw.rng k).2 rfl λ_=>⟨by omega,by omega⟩)
 rw [upd_id f.oth k rfl] at this
 exact this
theorem wf (h:LkAt w L f) (j:Int):0≤loadI f.ps.ws j∧loadI f.ps.ws j<4294967296:=h.port.mem.load_rng j
theorem tell (h:LkAt w L f) (t K a:Int):0≤tellS f.ps t K a∧tellS f.ps t K a<4294967296:=by
 unfold tellS tellI
 repeat' split
 ·exact h.wf a
 all_goals omega
end LkAt
def LkPost (w:World) (L:Lp) (f:FL) (v:Value) (e:Ending) (w':World):Prop:=e= .returned v∧LkAt w' L f∧Wr (LF L) w w'
theorem lf_b {w w':World} {L:Lp} (k:Wr (One L.b) w w'):Wr (LF L) w w':=k.mono λ_ _ e=> .inl e
theorem lf_t {w w':World} {L:Lp} (k:Wr (One L.tb) w w'):Wr (LF L) w w':=k.mono λ_ _ e=> .inr (.inl e)
theorem lf_q {w w':World} {L:Lp} (k:Wr (Rng L.q.k0 L.q.k3) w w'):Wr (LF L) w w':=k.mono λ_ _ e=> .inr (.inr e)
theorem LkAt.lf_lt {w:World} {L:Lp} {f:FL} (h:LkAt w L f) {k:Nat} (hk:LF L k):k<w.heap.size:=by
 rcases hk with rfl|rfl|hk
 ·exact blk_lt h.raw.seat.ctx
 ·exact blk_lt h.raw.tick
 ·exact Nat.lt_of_lt_of_le hk.2 h.top
def didC (d:Dd):Array Value:= #[.int .i64 d.ev,.bool d.enq,.bool d.arr,.bool d.lead]
structure Fr (w:World) (B:Nat) (Y:World) (L:Lp) (f:FL):Prop where
 lk:LkAt Y L f
 wr:Wr (LF L) w Y
 res:Y.heap[B]? =some (.cells (didC Dd.no) 71 (0,0))
 new:w.heap.size≤B
namespace Fr
variable {w X Y:World} {L:Lp} {f f':FL} {B:Nat}
theorem start (h:LkAt w L f):Fr w w.heap.size (w.alloc (.cells #[.int .i64 0,.bool false,.bool false,.bool false] 71)) L f:=
 ⟨h.after ((Wr.refl _ w).alloc _),(Wr.refl _ w).alloc _,Go.Deep.blk_alloc_new w _,Nat.le_refl _⟩
theorem after (h:Fr w B X L f) (k:Wr Nil X Y):Fr w B Y L f:=⟨h.lk.after k,h.wr.trans k λ_ _ e=>e.elim,(k.block _ (blk_lt h.res) id).trans h.res,h.new⟩
theorem drew (h:Fr w B X L f):Fr w B X.drew L f:=h.after ((Wr.refl _ X).drew)
theorem call {f0:FL} (h0:LkAt w L f') (h:Fr w B X L f) (hl:LkAt Y L f0) (k:Wr (LF L) X Y):Fr w B Y L f0:=
 ⟨hl,h.wr.trans k λ_ _ e=>e,(k.block _ (blk_lt h.res) (λe=>by have:=h0.lf_lt e;have:=h.new;omega)).trans h.res,h.new⟩
theorem cell (h:Fr w B X L f):X.cell? ⟨B,0,none⟩=some (.int .i64 0)∧X.cell? ⟨B,1,none⟩=some (.bool false)∧X.cell? ⟨B,2,none⟩=some (.bool false)∧X.cell? ⟨B,3,none⟩=some (.bool false):=by
 rw [blk_cell h.res,blk_cell h.res,blk_cell h.res,blk_cell h.res];exact ⟨rfl,rfl,rfl,rfl⟩
theorem frz (h:Fr w B X L f):X.frozen? ⟨B,0,none⟩=false∧X.frozen? ⟨B,1,none⟩=false∧X.frozen? ⟨B,2,none⟩=false∧X.frozen? ⟨B,3,none⟩=false:=
 ⟨blk_frozen h.res 0,blk_frozen h.res 1,blk_frozen h.res 2,blk_frozen h.res 3⟩
end Fr
theorem set4 {Y:World} {B:Nat} {t:TypeId} {cs:Array Value} (h:Y.heap[B]? =some (.cells cs t (0,0))) (h4:cs.size=4) (x0 x1 x2 x3:Value):
  ((((Y.setCell ⟨B,0,none⟩ x0).setCell ⟨B,1,none⟩ x1).setCell ⟨B,2,none⟩ x2).setCell ⟨B,3,none⟩ x3).heap[B]? =some (.cells #[x0,x1,x2,x3] t (0,0)):=by
 rw [blk_setCell (blk_setCell (blk_setCell (blk_setCell h 0 x0) 1 x1) 2 x2) 3 x3]
 obtain ⟨l⟩:=cs
 match l,h4 with
 |[a,b,c,d],_=>rfl
theorem wrote4 (Y:World) (B:Nat) (x0 x1 x2 x3:Value):Wr (One B) Y ((((Y.setCell ⟨B,0,none⟩ x0).setCell ⟨B,1,none⟩ x1).setCell ⟨B,2,none⟩ x2).setCell ⟨B,3,none⟩ x3):=
 ((((Wr.refl (One B) Y).setCell ⟨B,0,none⟩ x0 λ_=>rfl).setCell ⟨B,1,none⟩ x1 λ_=>rfl).setCell ⟨B,2,none⟩ x2 λ_=>rfl).setCell ⟨B,3,none⟩ x3 λ_=>rfl
theorem Fr.told {w Y:World} {L:Lp} {f f0:FL} {B:Nat} (h0:LkAt w L f0) (h:Fr w B Y L f) (d:Dd):
  LkPost w L f d.val (.returned d.val) ((((Y.setCell ⟨B,0,none⟩ (.int .i64 d.ev)).setCell ⟨B,1,none⟩ (.bool d.enq)).setCell ⟨B,2,none⟩ (.bool d.arr)).setCell ⟨B,3,none⟩ (.bool d.lead)):=by
 have k:=wrote4 Y B (.int .i64 d.ev) (.bool d.enq) (.bool d.arr) (.bool d.lead)
 have hB:∀ j,j<w.heap.size→¬ One B j:=λj hj e=>by have:=h.new;cases e;omega
 have hp:=blk_lt h0.raw.seat.obj
 refine ⟨rfl,h.lk.wrote k (hB _ (blk_lt h0.raw.obj)) (hB _ (blk_lt h0.raw.seat.obj)) (hB _ (blk_lt h0.raw.seat.ctx)) (hB _ (blk_lt h0.raw.tick)) (λb _ b2=>hB b (Nat.lt_of_lt_of_le b2 h0.top)),?_⟩
 exact h.wr.trans k λb hb e=>(hB b hb e).elim
theorem i_did:(prog.info? 71).map (·.size)=some 4:=by kernel_rfl
end Go.Proofs.YtkmikkjjnbikdaaGreat.Km
namespace Go.Proofs.YtkmikkjjnbikdaaGreat
open _root_.Go.Proofs.Tryz
open Go.RowKit
set_option linter.unusedVariables false
set_option maxRecDepth 100000
theorem hm_outside (x:Int) (w:World):Calls prog 63 #[.int .i64 x] w λe w'=>e= .returned (.bool (!okH x))∧w=w':=by
 by_cases h0:x<0
 ·have e:okH x=false:=decide_eq_false (by omega)
  rw [e]
  clear e
  go_enter func63,ntmps63
  go_wp2
  go_ret
  exact ⟨rfl,rfl⟩
 ·by_cases h8:8≤x
  ·have e:okH x=false:=decide_eq_false (by omega)
   rw [e]
   clear e
   go_enter func63,ntmps63
   go_wp2
   go_ret
   exact ⟨rfl,rfl⟩
  ·have e:okH x=true:=decide_eq_true (by omega)
   rw [e]
   clear e
   go_enter func63,ntmps63
   go_wp2
   go_ret
   exact ⟨rfl,rfl⟩
def IxPost (b:Bool) (w:World) (e:Ending) (w':World):Prop:=(∃ r:Int,e= .returned (.int .i64 r)∧decide (0≤r)=b)∧w=w'
theorem hm_index {w:World} {sa:Option Addr} {n cap:Nat} {hs:List Int} (h:RowAt .i64 w sa n hs) (hL:n≤1000000):
  Calls prog 75 #[.slice sa n cap,.func (.func 63) #[] #[]] w (IxPost (!homesOK hs) w):=by
 have hlen:=h.len
 have hat:=h.at
 clear h
 go_enter func75,ntmps75
 go_wp2
 go_loop [5,8] (λ_ i=>∃ k:Nat,k≤n∧i= .int .i64 k∧Hid ((hs.take k).all okH=true)) (λ_ i=>n-(intOf i).toNat)
 case atStart=>exact ⟨0,Nat.zero_le _,rfl,Lib.hid (by simp)⟩
 case round=>
  obtain ⟨k,hk,rfl,hok⟩:=hrel
  by_cases hlt:k<n
  ·rcases hat with h0|⟨b,o,rfl,hc⟩
   ·omega
   have c0:=hc k hlt
   have cx:=hm_outside (hs.getD k 0) w
   cases hx:okH (hs.getD k 0)
   ·have hb:Hid (homesOK hs=false):=Lib.hid (ok_bad (by omega) hx)
    rw [hx] at cx
    clear hok hx
    generalize hs.getD k 0=x at c0 cx
    clear hc
    go_wp2_with fail
    refine cx.mono ?_
    rintro e w' ⟨rfl,rfl⟩
    clear cx
    go_wp2
    go_ret
    refine ⟨⟨_,rfl,?_⟩,rfl⟩
    rw [hb.out]
    exact decide_eq_true (by omega)
   ·have hb:Hid ((hs.take (k+1)).all okH=true):=Lib.hid (ok_step (by omega) hok.out hx)
    rw [hx] at cx
    clear hok hx
    generalize hs.getD k 0=x at c0 cx
    clear hc
    go_wp2_with fail
    refine cx.mono ?_
    rintro e w' ⟨rfl,rfl⟩
    clear cx
    go_wp2
    go_round
    case rel=>exact ⟨k+1,by omega,by go_num,hb⟩
    case measure=>simp [intOf];omega
  ·have hb:Hid (homesOK hs=true):=Lib.hid (by have h:=hok.out;rw [List.take_of_length_le (by omega)] at h;exact h)
   obtain rfl:k=n:=by omega
   clear hat hok
   go_wp2
   go_ret
   refine ⟨⟨_,rfl,?_⟩,rfl⟩
   rw [hb.out]
   rfl
theorem hm_contains {w:World} {sa:Option Addr} {n cap:Nat} {hs:List Int} (h:RowAt .i64 w sa n hs) (hL:n≤1000000):
  Calls prog 64 #[.slice sa n cap,.func (.func 63) #[] #[]] w λe w'=>e= .returned (.bool (!homesOK hs))∧w=w':=by
 have c:=hm_index (cap:=cap) h hL
 clear h
 generalize (!homesOK hs)=b at*
 go_enter func64,ntmps64
 go_wp2_with (go_at_call 75;with_reducible refine c.mono ?_;intro e w' hq;unfold IxPost at hq;obtain ⟨⟨r,rfl,hr⟩,rfl⟩:=hq;have HR:=Lib.hid hr;clear hr)
 go_ret
 exact ⟨by rw [←HR.out];rfl,rfl⟩
theorem hm_seats {w:World} {sa:Option Addr} {n cap:Nat} {hs:List Int} (h:RowAt .i64 w sa n hs) (ho:homesOK hs=true) (timed probed:Bool) (n1:1≤n) (n2:n≤64):
  Calls prog 45 #[.slice sa n cap,.bool timed,.bool probed] w (NewSeatPost w n timed probed):=by
 have c:=hm_contains (cap:=cap) h (by omega)
 have cS:=se_new n timed probed n1 n2 w
 rw [ho] at c
 clear h ho
 go_enter func45,ntmps45
 go_wp2_with (first
  |(go_at_call 64;(with_reducible refine c.mono ?_);rintro e w' ⟨rfl,rfl⟩)
  |(go_at_call 65;(with_reducible refine cS.mono ?_);intro e wq hq;unfold NewSeatPost at hq;obtain ⟨p,sb,rfl,hS,hp,hsb,hW⟩:=hq;have HS:=Lib.hid (And.intro hS (And.intro hp (And.intro hsb hW)));clear hS hp hsb hW))
 go_ret2
 exact ⟨p,sb,rfl,HS.out.1,HS.out.2.1,HS.out.2.2.1,HS.out.2.2.2⟩
end Go.Proofs.YtkmikkjjnbikdaaGreat
