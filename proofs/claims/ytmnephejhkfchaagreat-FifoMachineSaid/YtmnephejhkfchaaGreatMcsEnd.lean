
import Derived.Test.YtmnephejhkfchaaGreatCoVia
import Derived.Deep.RegionHeld3
namespace Go.Proofs.YtmnephejhkfchaaGreat.Km
open _root_.Go.Proofs.Tryz
open Go.RowKit
set_option linter.unusedVariables false
set_option maxRecDepth 100000
def _root_.Go.Proofs.YtmnephejhkfchaaGreat.SS.Kp (s s':SS) (pc:Nat→Int):Prop:=s'.n=s.n∧∀ k,s'.st k≠1→s.st k≠1∨pc k=0
theorem _root_.Go.Proofs.YtmnephejhkfchaaGreat.SS.lock_k (s:SS) (t d:Int) (pc:Nat→Int):s.Kp (s.lock t d) pc:=by
 refine ⟨s.lock_n t d,λk hk=> .inl ?_⟩
 unfold SS.lock at hk
 split at hk
 ·by_cases e:k=t.toNat
  ·subst e;exact absurd (upd_same _ _ _) hk
  ·exact λq=>hk ((upd_other _ _ e).trans q)
 ·exact hk
theorem _root_.Go.Proofs.YtmnephejhkfchaaGreat.SS.turn_k (s:SS) (t x:Int) (pc:Nat→Int):s.Kp (s.turn t x) pc:=by
 refine ⟨s.turn_n t x,λk hk=> .inl ?_⟩
 unfold SS.turn at hk
 split at hk
 ·rename_i ht
  by_cases e:k=t.toNat
  ·subst e
   unfold turnE at ht
   intro q
   rw [q] at ht
   repeat' split at ht
   all_goals omega
  ·exact λq=>hk ((upd_other _ _ e).trans q)
 ·exact hk
theorem _root_.Go.Proofs.YtmnephejhkfchaaGreat.SS.fin_k (s:SS) (t ev:Int) (pc:Nat→Int) (h:∀ k:Nat,(k:Int)=t→s.st k=1→ev≠0→pc k=0):s.Kp (s.fin t ev) pc:=by
 refine ⟨s.fin_n t ev,λk hk=> ?_⟩
 by_cases q:s.st k=1
 ·refine .inr ?_
  unfold SS.fin at hk
  split at hk
  ·rename_i y hy
   unfold endO at hy
   split at hy
   ·rename_i ht
    by_cases e:k=t.toNat
    ·subst e
     refine h t.toNat (by omega) q λe0=> ?_
     subst e0
     rw [q] at hy
     exact absurd (show (none:Option Int)=some y from hy) (by simp)
    ·exact absurd ((upd_other _ _ e).trans q) hk
   ·exact absurd hy (by simp)
  ·exact absurd q hk
 ·exact .inl q
def tkC (pc og:Nat→Int) (t:Nat):List Value:=[.int .i64 (pc t),.int .u32 (og t)]
theorem tkC_len (pc og:Nat→Int):∀ x,(tkC pc og x).length=2:=λ_=>rfl
def tks (n:Nat) (pc og:Nat→Int):List Value:=(List.range n).flatMap (tkC pc og)
theorem tks_at (n:Nat) (pc og:Nat→Int) {k:Nat} (hk:k<n) {j:Nat} (hj:j<2):(tks n pc og)[k*2+j]? =(tkC pc og k)[j]? :=flat_at' (tkC_len pc og) _ (by rw [List.getElem?_range hk]) hj
theorem range_at {n i t:Nat} (ht:(List.range n)[i]? =some t):i<n∧t=i:=by
 have hi:i<n:=by have:=(List.getElem?_eq_some_iff.1 ht).1;simpa using this
 rw [List.getElem?_range hi] at ht
 exact ⟨hi,by simpa using ht.symm⟩
theorem tks_set0 (n:Nat) (pc og:Nat→Int) (k:Nat) (x:Int):(tks n pc og).set (k*2) (.int .i64 x)=tks n (upd pc k x) og:=by
 refine flat_set (tkC_len pc og) (tkC_len _ _) _ k 0 (by decide) _ λi t ht l hl=> ?_
 obtain ⟨_,rfl⟩:=range_at ht
 have:l=0∨l=1:=by omega
 rcases this with rfl|rfl
 ·by_cases e:t=k
  ·subst e;simp [tkC,upd_same]
  ·simp [tkC,upd_other _ _ e,e]
 ·by_cases e:t=k
  ·subst e;simp [tkC]
  ·simp [tkC,e]
theorem tks_set1 (n:Nat) (pc og:Nat→Int) (k:Nat) (x:Int):(tks n pc og).set (k*2+1) (.int .u32 x)=tks n pc (upd og k x):=by
 refine flat_set (tkC_len pc og) (tkC_len _ _) _ k 1 (by decide) _ λi t ht l hl=> ?_
 obtain ⟨_,rfl⟩:=range_at ht
 have:l=0∨l=1:=by omega
 rcases this with rfl|rfl
 ·by_cases e:t=k
  ·subst e;simp [tkC]
  ·simp [tkC,e]
 ·by_cases e:t=k
  ·subst e;simp [tkC,upd_same]
  ·simp [tkC,upd_other _ _ e,e]
theorem upd_sf {α:Type} (f:Nat→α) (k j:Nat):f j=upd f k (f k) j:=by
 by_cases e:j=k
 ·subst e;rw [upd_same]
 ·rw [upd_other _ _ e]
def ogf (pc oth:Nat→Int) (k:Nat):Int:=if pc k≤1 then 0 else oth k
theorem ogf_upd (pc oth:Nat→Int) (k:Nat) {x z y:Int} (hy:y=if x≤1 then 0 else z):upd (ogf pc oth) k y=ogf (upd pc k x) (upd oth k z):=by
 funext j
 unfold ogf
 by_cases e:j=k
 ·subst e;rw [upd_same,upd_same,upd_same];exact hy
 ·rw [upd_other _ _ e,upd_other _ _ e,upd_other _ _ e]
theorem ogf_same (pc oth:Nat→Int) (k:Nat) {x z:Int} (hy:ogf pc oth k=if x≤1 then 0 else z):ogf pc oth=ogf (upd pc k x) (upd oth k z):=by
 rw [←ogf_upd pc oth k hy]
 exact funext λj=>upd_sf (ogf pc oth) k j
theorem upd_id (g:Nat→Int) (k:Nat) {x:Int} (h:x=g k):upd g k x=g:=by subst h;exact funext λj=>(upd_sf g k j).symm
structure FlRaw (w:World) (L:Lp) (pv:Value) (s:SS) (pc oth:Nat→Int):Prop where
 obj:w.heap[L.lb]? =some (.cells #[.pointer (some ⟨L.p,0,none⟩),pv,.int .i64 L.a1,.slice (some ⟨L.tb,0,none⟩) s.n s.n] 127 (0,0))
 seat:SeatAt w L.p L.b s
 tick:w.heap[L.tb]? =some (.cells (tks s.n pc (ogf pc oth)).toArray 245 (0,0))
 ne:L.lb≠L.b∧L.lb≠L.tb∧L.p≠L.tb∧L.b≠L.tb∧L.lb≠L.p
 rng:∀ k,(0≤pc k∧pc k≤4)∧0≤oth k∧oth k<4294967296
 inv:∀ k,s.st k≠1→pc k≤3∧(pc k=1∨pc k=2→oth k=0)
 adr:0≤L.a1∧L.a1≤2000000∧L.a2=L.a1+1
namespace FlRaw
variable {w w':World} {L:Lp} {pv:Value} {s:SS} {pc oth:Nat→Int}
theorem wrote {S:Nat→Prop} (h:FlRaw w L pv s pc oth) (k:Wr S w w') (h1:¬ S L.lb) (h2:¬ S L.p) (h3:¬ S L.b) (h4:¬ S L.tb):FlRaw w' L pv s pc oth:=
 ⟨(k.block _ (blk_lt h.obj) h1).trans h.obj,h.seat.wrote k h2 h3,(k.block _ (blk_lt h.tick) h4).trans h.tick,h.ne,h.rng,h.inv,h.adr⟩
theorem after (h:FlRaw w L pv s pc oth) (k:Wr Nil w w'):FlRaw w' L pv s pc oth:=h.wrote k id id id id
theorem seats {s':SS} (h:FlRaw w L pv s pc oth) (hS:SeatAt w' L.p L.b s') (hn:s.Kp s' pc) (k:Wr (One L.b) w w'):FlRaw w' L pv s' pc oth:=by
 refine ⟨?_,hS,?_,h.ne,h.rng,λj hj=> ?_,h.adr⟩
 ·rw [hn.1];exact (k.block _ (blk_lt h.obj) h.ne.1).trans h.obj
 ·rw [hn.1];exact (k.block _ (blk_lt h.tick) (λe=>h.ne.2.2.2.1 e.symm)).trans h.tick
 ·rcases hn.2 j hj with q|q
  ·exact h.inv j q
  ·omega
theorem cell0 (h:FlRaw w L pv s pc oth):w.cell? ⟨L.lb,0,none⟩=some (.pointer (some ⟨L.p,0,none⟩)):=by rw [blk_cell h.obj];rfl
theorem cell1 (h:FlRaw w L pv s pc oth):w.cell? ⟨L.lb,1,none⟩=some pv:=by rw [blk_cell h.obj];rfl
theorem cell2 (h:FlRaw w L pv s pc oth):w.cell? ⟨L.lb,2,none⟩=some (.int .i64 L.a1):=by rw [blk_cell h.obj];rfl
theorem cell3 (h:FlRaw w L pv s pc oth):w.cell? ⟨L.lb,3,none⟩=some (.slice (some ⟨L.tb,0,none⟩) s.n s.n):=by rw [blk_cell h.obj];rfl
theorem frozen (h:FlRaw w L pv s pc oth) (k:Nat):w.frozen? ⟨L.lb,k,none⟩=false:=blk_frozen h.obj k
theorem tk0 (h:FlRaw w L pv s pc oth) {k:Nat} (hk:k<s.n):w.cell? ⟨L.tb,k*2,none⟩=some (.int .i64 (pc k)):=by
 rw [blk_cell h.tick,List.getElem?_toArray]
 exact tks_at s.n pc (ogf pc oth) hk (j:=0) (by decide)
theorem tk1 (h:FlRaw w L pv s pc oth) {k:Nat} (hk:k<s.n):w.cell? ⟨L.tb,k*2+1,none⟩=some (.int .u32 (ogf pc oth k)):=by
 rw [blk_cell h.tick,List.getElem?_toArray]
 exact tks_at s.n pc (ogf pc oth) hk (j:=1) (by decide)
theorem tkz (h:FlRaw w L pv s pc oth) (k:Nat):w.frozen? ⟨L.tb,k,none⟩=false:=blk_frozen h.tick k
theorem ranges (h:FlRaw w L pv s pc oth) (k:Nat) {x z:Int} (hx:0≤x∧x≤4) (hz:0≤z∧z<4294967296) (j:Nat):(0≤upd pc k x j∧upd pc k x j≤4)∧0≤upd oth k z j∧upd oth k z j<4294967296:=by
 by_cases e:j=k
 ·subst e;rw [upd_same,upd_same];exact ⟨hx,hz⟩
 ·rw [upd_other _ _ e,upd_other _ _ e];exact h.rng j
theorem invs (h:FlRaw w L pv s pc oth) (k:Nat) {x z:Int} (hi:s.st k≠1→x≤3∧(x=1∨x=2→z=0)) (j:Nat) (hj:s.st j≠1):upd pc k x j≤3∧(upd pc k x j=1∨upd pc k x j=2→upd oth k z j=0):=by
 by_cases e:j=k
 ·subst e;rw [upd_same,upd_same];exact hi hj
 ·rw [upd_other _ _ e,upd_other _ _ e];exact h.inv j hj
theorem set1 (h:FlRaw w L pv s pc oth) (k:Nat) (x z:Int) (hx:0≤x∧x≤4) (hz:0≤z∧z<4294967296) (hy:ogf pc oth k=if x≤1 then 0 else z) (hi:s.st k≠1→x≤3∧(x=1∨x=2→z=0)):
  FlRaw (w.setCell ⟨L.tb,k*2,none⟩ (.int .i64 x)) L pv s (upd pc k x) (upd oth k z)∧Wr (One L.tb) w (w.setCell ⟨L.tb,k*2,none⟩ (.int .i64 x)):=by
 have hW:Wr (One L.tb) w (w.setCell ⟨L.tb,k*2,none⟩ (.int .i64 x)):=(Wr.refl _ w).setCell _ _ λ_=>rfl
 refine ⟨⟨(hW.block _ (blk_lt h.obj) h.ne.2.1).trans h.obj,h.seat.wrote hW h.ne.2.2.1 h.ne.2.2.2.1,?_,h.ne,h.ranges k hx hz,h.invs k hi,h.adr⟩,hW⟩
 rw [blk_setCell h.tick,List.setIfInBounds_toArray,tks_set0,←ogf_same pc oth k hy]
theorem set2 (h:FlRaw w L pv s pc oth) (k:Nat) (x z y:Int) (hx:0≤x∧x≤4) (hz:0≤z∧z<4294967296) (hy:y=if x≤1 then 0 else z) (hi:s.st k≠1→x≤3∧(x=1∨x=2→z=0)):
  FlRaw ((w.setCell ⟨L.tb,k*2,none⟩ (.int .i64 x)).setCell ⟨L.tb,k*2+1,none⟩ (.int .u32 y)) L pv s (upd pc k x) (upd oth k z)∧Wr (One L.tb) w ((w.setCell ⟨L.tb,k*2,none⟩ (.int .i64 x)).setCell ⟨L.tb,k*2+1,none⟩ (.int .u32 y)):=by
 have hW:Wr (One L.tb) w ((w.setCell ⟨L.tb,k*2,none⟩ (.int .i64 x)).setCell ⟨L.tb,k*2+1,none⟩ (.int .u32 y)):=((Wr.refl (One L.tb) w).setCell ⟨L.tb,k*2,none⟩ (.int .i64 x) λ_=>rfl).setCell ⟨L.tb,k*2+1,none⟩ (.int .u32 y) λ_=>rfl
 refine ⟨⟨(hW.block _ (blk_lt h.obj) h.ne.2.1).trans h.obj,h.seat.wrote hW h.ne.2.2.1 h.ne.2.2.2.1,?_,h.ne,h.ranges k hx hz,h.invs k hi,h.adr⟩,hW⟩
 rw [blk_setCell (blk_setCell h.tick _ _),List.setIfInBounds_toArray,List.setIfInBounds_toArray,tks_set0,tks_set1,ogf_upd pc oth k hy]
theorem use (h:FlRaw w L pv s pc oth) (v:Value):FlRaw (w.setCell ⟨L.lb,1,none⟩ v) L v s pc oth:=by
 have hW:Wr (One L.lb) w (w.setCell ⟨L.lb,1,none⟩ v):=(Wr.refl _ w).setCell _ _ λ_=>rfl
 refine ⟨?_,h.seat.wrote hW (λe=>h.ne.2.2.2.2 e.symm) (λe=>h.ne.1 e.symm),(hW.block _ (blk_lt h.tick) (λe=>h.ne.2.1 e.symm)).trans h.tick,h.ne,h.rng,h.inv,h.adr⟩
 rw [blk_setCell h.obj]
 rfl
theorem place (h:FlRaw w L pv s pc oth) (q:Place) (hs:List Int):FlRaw w {L with q:=q,hs:=hs} pv s pc oth:=⟨h.obj,h.seat,h.tick,h.ne,h.rng,h.inv,h.adr⟩
end FlRaw
abbrev RawF (w:World) (L:Lp) (pv:Value) (f:FL):Prop:=FlRaw w L pv f.s f.pc f.oth
structure LkAt (w:World) (L:Lp) (f:FL):Prop where
 raw:FlRaw w L (.pointer (some ⟨L.q.p,0,none⟩)) f.s f.pc f.oth
 port:PortAt w L.q L.hs f.ps
 far:L.lb<L.q.k0∧L.p<L.q.k0∧L.b<L.q.k0∧L.tb<L.q.k0
 top:L.q.k3≤w.heap.size
def LF (L:Lp) (k:Nat):Prop:=k=L.b∨k=L.tb∨Rng L.q.k0 L.q.k3 k
namespace LkAt
variable {w w':World} {L:Lp} {f:FL}
theorem wrote {S:Nat→Prop} (h:LkAt w L f) (k:Wr S w w') (h1:¬ S L.lb) (h2:¬ S L.p) (h3:¬ S L.b) (h4:¬ S L.tb) (h5:∀ b,L.q.k0≤b→b<L.q.k3→¬ S b):LkAt w' L f:=
 ⟨h.raw.wrote k h1 h2 h3 h4,h.port.wrote k h5,h.far,Nat.le_trans h.top k.size⟩
theorem after (h:LkAt w L f) (k:Wr Nil w w'):LkAt w' L f:=h.wrote k id id id id λ_ _ _=>id
theorem seats {s':SS} (h:LkAt w L f) (hS:SeatAt w' L.p L.b s') (hn:f.s.Kp s' f.pc) (k:Wr (One L.b) w w'):LkAt w' L {f with s:=s'}:=
 ⟨h.raw.seats hS hn k,h.port.wrote k λb b1 _ e=>by have:=h.far.2.2.1;cases e;omega,h.far,Nat.le_trans h.top k.size⟩
theorem ports {ps':PSta} (h:LkAt w L f) (hP:PortAt w' L.q L.hs ps') (k:Wr (Rng L.q.k0 L.q.k3) w w'):LkAt w' L {f with ps:=ps'}:=
 ⟨h.raw.wrote k (λe=>by have:=h.far.1;unfold Rng at e;omega) (λe=>by have:=h.far.2.1;unfold Rng at e;omega) (λe=>by have:=h.far.2.2.1;unfold Rng at e;omega) (λe=>by have:=h.far.2.2.2;unfold Rng at e;omega),hP,h.far,Nat.le_trans h.top k.size⟩
theorem turns (h:LkAt w L f) {pc' oth':Nat→Int} (k:FlRaw w' L (.pointer (some ⟨L.q.p,0,none⟩)) f.s pc' oth'∧Wr (One L.tb) w w'):
  LkAt w' L {f with pc:=pc',oth:=oth'}∧Wr (One L.tb) w w':=
 ⟨⟨k.1,h.port.wrote k.2 λb b1 _ e=>by have:=h.far.2.2.2;cases e;omega,h.far,Nat.le_trans h.top k.2.size⟩,k.2⟩
theorem tick1 (h:LkAt w L f) (k:Nat) (x:Int) (hx:0≤x∧x≤4) (hy:ogf f.pc f.oth k=if x≤1 then 0 else f.oth k) (hi:f.s.st k≠1→x≤3∧(x=1∨x=2→f.oth k=0)):
  LkAt (w.setCell ⟨L.tb,k*2,none⟩ (.int .i64 x)) L {f with pc:=upd f.pc k x}∧Wr (One L.tb) w (w.setCell ⟨L.tb,k*2,none⟩ (.int .i64 x)):=by
 have:=h.turns (h.raw.set1 k x (f.oth k) hx (h.raw.rng k).2 hy hi)
 rw [upd_id f.oth k rfl] at this
 exact this
theorem tick0 (h:LkAt w L f) (k:Nat):
  LkAt ((w.setCell ⟨L.tb,k*2,none⟩ (.int .i64 0)).setCell ⟨L.tb,k*2+1,none⟩ (.int .u32 0)) L {f with pc:=upd f.pc k 0}∧Wr (One L.tb) w ((w.setCell ⟨L.tb,k*2,none⟩ (.int .i64 0)).setCell ⟨L.tb,k*2+1,none⟩ (.int .u32 0)):=by
 have:=h.turns (h.raw.set2 k 0 (f.oth k) 0 (by omega) (h.raw.rng k).2 rfl λ_=>⟨by omega,by omega⟩)
 rw [upd_id f.oth k rfl] at this
 exact this
theorem wf (h:LkAt w L f) (j:Int):0≤loadI f.ps.ws j∧loadI f.ps.ws j<4294967296:=h.port.mem.load_rng j
theorem tell (h:LkAt w L f) (t K a:Int):0≤tellS f.ps t K a∧tellS f.ps t K a<4294967296:=by
 unfold tellS tellI
 repeat' split
 ·exact h.wf a
 all_goals omega
end LkAt
def LkPost (w:World) (L:Lp) (f:FL) (v:Value) (e:Ending) (w':World):Prop:=e= .returned v∧LkAt w' L f∧Wr (LF L) w w'
theorem lf_b {w w':World} {L:Lp} (k:Wr (One L.b) w w'):Wr (LF L) w w':=k.mono λ_ _ e=> .inl e
theorem lf_t {w w':World} {L:Lp} (k:Wr (One L.tb) w w'):Wr (LF L) w w':=k.mono λ_ _ e=> .inr (.inl e)
theorem lf_q {w w':World} {L:Lp} (k:Wr (Rng L.q.k0 L.q.k3) w w'):Wr (LF L) w w':=k.mono λ_ _ e=> .inr (.inr e)
theorem LkAt.lf_lt {w:World} {L:Lp} {f:FL} (h:LkAt w L f) {k:Nat} (hk:LF L k):k<w.heap.size:=by
 rcases hk with rfl|rfl|hk
 ·exact blk_lt h.raw.seat.ctx
 ·exact blk_lt h.raw.tick
 ·exact Nat.lt_of_lt_of_le hk.2 h.top
def didC (d:Dd):Array Value:= #[.int .i64 d.ev,.bool d.enq,.bool d.arr,.bool d.lead]
structure Fr (w:World) (B:Nat) (Y:World) (L:Lp) (f:FL):Prop where
 lk:LkAt Y L f
 wr:Wr (LF L) w Y
 res:Y.heap[B]? =some (.cells (didC Dd.no) 102 (0,0))
 new:w.heap.size≤B
namespace Fr
variable {w X Y:World} {L:Lp} {f f':FL} {B:Nat}
theorem start (h:LkAt w L f):Fr w w.heap.size (w.alloc (.cells #[.int .i64 0,.bool false,.bool false,.bool false] 102)) L f:=
 ⟨h.after ((Wr.refl _ w).alloc _),(Wr.refl _ w).alloc _,Go.Deep.blk_alloc_new w _,Nat.le_refl _⟩
theorem after (h:Fr w B X L f) (k:Wr Nil X Y):Fr w B Y L f:=⟨h.lk.after k,h.wr.trans k λ_ _ e=>e.elim,(k.block _ (blk_lt h.res) id).trans h.res,h.new⟩
theorem drew (h:Fr w B X L f):Fr w B X.drew L f:=h.after ((Wr.refl _ X).drew)
theorem call {f0:FL} (h0:LkAt w L f') (h:Fr w B X L f) (hl:LkAt Y L f0) (k:Wr (LF L) X Y):Fr w B Y L f0:=
 ⟨hl,h.wr.trans k λ_ _ e=>e,(k.block _ (blk_lt h.res) (λe=>by have:=h0.lf_lt e;have:=h.new;omega)).trans h.res,h.new⟩
theorem cell (h:Fr w B X L f):X.cell? ⟨B,0,none⟩=some (.int .i64 0)∧X.cell? ⟨B,1,none⟩=some (.bool false)∧X.cell? ⟨B,2,none⟩=some (.bool false)∧X.cell? ⟨B,3,none⟩=some (.bool false):=by
 rw [blk_cell h.res,blk_cell h.res,blk_cell h.res,blk_cell h.res];exact ⟨rfl,rfl,rfl,rfl⟩
theorem frz (h:Fr w B X L f):X.frozen? ⟨B,0,none⟩=false∧X.frozen? ⟨B,1,none⟩=false∧X.frozen? ⟨B,2,none⟩=false∧X.frozen? ⟨B,3,none⟩=false:=
 ⟨blk_frozen h.res 0,blk_frozen h.res 1,blk_frozen h.res 2,blk_frozen h.res 3⟩
end Fr
theorem set4 {Y:World} {B:Nat} {t:TypeId} {cs:Array Value} (h:Y.heap[B]? =some (.cells cs t (0,0))) (h4:cs.size=4) (x0 x1 x2 x3:Value):
  ((((Y.setCell ⟨B,0,none⟩ x0).setCell ⟨B,1,none⟩ x1).setCell ⟨B,2,none⟩ x2).setCell ⟨B,3,none⟩ x3).heap[B]? =some (.cells #[x0,x1,x2,x3] t (0,0)):=by
 rw [blk_setCell (blk_setCell (blk_setCell (blk_setCell h 0 x0) 1 x1) 2 x2) 3 x3]
 obtain ⟨l⟩:=cs
 match l,h4 with
 |[a,b,c,d],_=>rfl
theorem wrote4 (Y:World) (B:Nat) (x0 x1 x2 x3:Value):Wr (One B) Y ((((Y.setCell ⟨B,0,none⟩ x0).setCell ⟨B,1,none⟩ x1).setCell ⟨B,2,none⟩ x2).setCell ⟨B,3,none⟩ x3):=
 ((((Wr.refl (One B) Y).setCell ⟨B,0,none⟩ x0 λ_=>rfl).setCell ⟨B,1,none⟩ x1 λ_=>rfl).setCell ⟨B,2,none⟩ x2 λ_=>rfl).setCell ⟨B,3,none⟩ x3 λ_=>rfl
theorem Fr.told {w Y:World} {L:Lp} {f f0:FL} {B:Nat} (h0:LkAt w L f0) (h:Fr w B Y L f) (d:Dd):
  LkPost w L f d.val (.returned d.val) ((((Y.setCell ⟨B,0,none⟩ (.int .i64 d.ev)).setCell ⟨B,1,none⟩ (.bool d.enq)).setCell ⟨B,2,none⟩ (.bool d.arr)).setCell ⟨B,3,none⟩ (.bool d.lead)):=by
 have k:=wrote4 Y B (.int .i64 d.ev) (.bool d.enq) (.bool d.arr) (.bool d.lead)
 have hB:∀ j,j<w.heap.size→¬ One B j:=λj hj e=>by have:=h.new;cases e;omega
 have hp:=blk_lt h0.raw.seat.obj
 refine ⟨rfl,h.lk.wrote k (hB _ (blk_lt h0.raw.obj)) (hB _ (blk_lt h0.raw.seat.obj)) (hB _ (blk_lt h0.raw.seat.ctx)) (hB _ (blk_lt h0.raw.tick)) (λb _ b2=>hB b (Nat.lt_of_lt_of_le b2 h0.top)),?_⟩
 exact h.wr.trans k λb hb e=>(hB b hb e).elim
theorem i_did:(prog.info? 102).map (·.size)=some 4:=by kernel_rfl
set_option maxHeartbeats 8000000
open Go.RowKit Go.BigFrame
theorem fl_use {w:World} {L:Lp} {pv:Value} {s:SS} {pc oth:Nat→Int} (h:FlRaw w L pv s pc oth) (a:Addr):
  Calls prog 161 #[.pointer (some ⟨L.lb,0,none⟩),.pointer (some a)] w λe w'=>e= .returned (.tuple #[])∧w'=w.setCell ⟨L.lb,1,none⟩ (.pointer (some a)):=by
 have c1:=h.cell1
 have f1:=h.frozen 1
 clear h
 go_enter func161,ntmps161
 go_wp2
 go_end0
 exact ⟨rfl,rfl⟩
theorem LkAt.bd {w:World} {L:Lp} {f:FL} (h:LkAt w L f) (k:Nat):(0≤f.oth k∧f.oth k<4294967296)∧0≤L.a1∧L.a1≤2000000∧L.a2=L.a1+1:=⟨(h.raw.rng k).2,h.raw.adr⟩
theorem fl_number (w:World) (k:Nat) (hk:k<64):
  Calls prog 165 #[.int .i64 (k:Int)] w λe w'=>e= .returned (.int .u32 ((k:Int)+1))∧w=w':=by
 have w1:IntKind.u32.wrap (k:Int)=k:=by rw [IntKind.wrap_u32];omega
 have w2:IntKind.u32.wrap ((k:Int)+1)=(k:Int)+1:=by rw [IntKind.wrap_u32];omega
 clear hk
 go_enter func165,ntmps165
 go_wp2
 go_ret
 exact ⟨rfl,rfl⟩
theorem wraps {a x:Int} (h0:0≤a) (h1:a≤2000000) (h2:0≤x) (h3:x<4294967296):IntKind.i64.wrap x=x∧IntKind.i64.wrap (2*x)=2*x∧IntKind.i64.wrap (a+2*x)=a+2*x∧IntKind.i64.wrap (a+2*x-1)=a+2*x-1:=by
 rw [IntKind.wrap_i64,IntKind.wrap_i64,IntKind.wrap_i64,IntKind.wrap_i64];omega
theorem fl_next {w:World} {L:Lp} {f:FL} (h:LkAt w L f) (x y:Int) (hx:0≤x∧x<4294967296) (hy:y=x-1):
  Calls prog 166 #[.pointer (some ⟨L.lb,0,none⟩),.int .u32 x] w λe w'=>e= .returned (.int .i64 (L.nx y))∧w=w':=by
 have c2:=h.raw.cell2
 obtain ⟨_,a0,a1,a2⟩:=h.bd 0
 obtain ⟨w1,w2,w3,w4⟩:=wraps a0 a1 hx.1 hx.2
 have e:L.nx y=L.a1+2*x-1:=by unfold Lp.nx;omega
 rw [e]
 clear h e hy
 go_enter func166,ntmps166
 go_wp2
 go_ret
 exact ⟨rfl,rfl⟩
theorem fl_locked {w:World} {L:Lp} {f:FL} (h:LkAt w L f) (x y:Int) (hx:0≤x∧x<4294967296) (hy:y=x-1):
  Calls prog 168 #[.pointer (some ⟨L.lb,0,none⟩),.int .u32 x] w λe w'=>e= .returned (.int .i64 (L.lk y))∧w=w':=by
 have c2:=h.raw.cell2
 obtain ⟨_,a0,a1,a2⟩:=h.bd 0
 obtain ⟨w1,w2,w3,w4⟩:=wraps a0 a1 hx.1 hx.2
 have e:L.lk y=L.a1+2*x:=by unfold Lp.lk;omega
 rw [e]
 clear h e hy w4
 go_enter func168,ntmps168
 go_wp2
 go_ret
 exact ⟨rfl,rfl⟩
theorem fl_ends {w:World} {L:Lp} {f:FL} (h:LkAt w L f) (k:Nat) (hk:k<f.s.n) (ev:Int):
  Calls prog 169 #[.pointer (some ⟨L.tb,k*2,none⟩),.int .i64 ev] w (LkPost w L {f with pc:=upd f.pc k 0} (Dd.val ⟨ev,false,false,false⟩)):=by
 have hF:=Fr.start h
 have t0:=hF.lk.raw.tk0 hk
 have t1:=hF.lk.raw.tk1 hk
 have z0:=hF.lk.raw.tkz (k*2)
 have z1:=hF.lk.raw.tkz (k*2+1)
 have hT:=hF.lk.tick0 k
 have hA:=Fr.call h hF hT.1 (lf_t hT.2)
 obtain ⟨v0,v1,v2,v3⟩:=hA.cell
 obtain ⟨x0,x1,x2,x3⟩:=hA.frz
 have HE:=Lib.hid (And.intro h hA)
 clear h hF hT hA
 go_enter func169,ntmps169
 go_wp2
 refine bodyPost_ret (v:=Dd.val ⟨ev,false,false,false⟩) (results_cell_row rfl _ _ w.heap.size 102 _ (0,0) _ rfl (set4 HE.out.2.res rfl _ _ _ _) underlying102 rfl i_did) rfl (HE.out.2.told HE.out.1 ⟨ev,false,false,false⟩)
theorem fl_ent0 {w:World} {L:Lp} {f:FL} (h:LkAt w L f) (k:Nat) (hk:k<f.s.n) (hs:f.s.st k=1) (a:Int) (ha:0≤a∧a<4294967296) (hz:a=0):
  Calls prog 167 #[.pointer (some ⟨L.tb,k*2,none⟩),.int .u32 a] w (LkPost w L {f with pc:=upd f.pc k 0,oth:=upd f.oth k a} (Dd.val ⟨1,true,false,false⟩)):=by
 have hF:=Fr.start h
 have t0:=hF.lk.raw.tk0 hk
 have t1:=hF.lk.raw.tk1 hk
 have z0:=hF.lk.raw.tkz (k*2)
 have z1:=hF.lk.raw.tkz (k*2+1)
 have hT:=hF.lk.turns (hF.lk.raw.set2 k 0 a 0 (by omega) ha rfl λq=>absurd hs q)
 have hA:=Fr.call h hF hT.1 (lf_t hT.2)
 obtain ⟨v0,v1,v2,v3⟩:=hA.cell
 obtain ⟨x0,x1,x2,x3⟩:=hA.frz
 have HE:=Lib.hid (And.intro h hA)
 clear h hF hT hA hs
 have b1:(a==0)=true:=by rw [hz];rfl
 clear hz
 go_enter func167,ntmps167
 go_wp2
 refine bodyPost_ret (v:=Dd.val ⟨1,true,false,false⟩) (results_cell_row rfl _ _ w.heap.size 102 _ (0,0) _ rfl (set4 HE.out.2.res rfl _ _ _ _) underlying102 rfl i_did) rfl (HE.out.2.told HE.out.1 ⟨1,true,false,false⟩)
theorem fl_ent1 {w:World} {L:Lp} {f:FL} (h:LkAt w L f) (k:Nat) (hk:k<f.s.n) (hs:f.s.st k=1) (a:Int) (ha:0≤a∧a<4294967296) (hz:a≠0):
  Calls prog 167 #[.pointer (some ⟨L.tb,k*2,none⟩),.int .u32 a] w (LkPost w L {f with pc:=upd f.pc k 2,oth:=upd f.oth k a} (Dd.val ⟨0,true,false,false⟩)):=by
 have hF:=Fr.start h
 have t0:=hF.lk.raw.tk0 hk
 have t1:=hF.lk.raw.tk1 hk
 have z0:=hF.lk.raw.tkz (k*2)
 have z1:=hF.lk.raw.tkz (k*2+1)
 have hT:=hF.lk.turns (hF.lk.raw.set2 k 2 a a (by omega) ha rfl λq=>absurd hs q)
 have hA:=Fr.call h hF hT.1 (lf_t hT.2)
 obtain ⟨v0,v1,v2,v3⟩:=hA.cell
 obtain ⟨x0,x1,x2,x3⟩:=hA.frz
 have HE:=Lib.hid (And.intro h hA)
 clear h hF hT hA hs
 have b1:(a==0)=false:=beq_false_of_ne hz
 clear hz
 go_enter func167,ntmps167
 go_wp2
 refine bodyPost_ret (v:=Dd.val ⟨0,true,false,false⟩) (results_cell_row rfl _ _ w.heap.size 102 _ (0,0) _ rfl (set4 HE.out.2.res rfl _ _ _ _) underlying102 rfl i_did) rfl (HE.out.2.told HE.out.1 ⟨0,true,false,false⟩)
theorem fl_enters {w:World} {L:Lp} {f:FL} (h:LkAt w L f) (k:Nat) (hk:k<f.s.n) (hs:f.s.st k=1) (a:Int) (ha:0≤a∧a<4294967296):
  Calls prog 167 #[.pointer (some ⟨L.tb,k*2,none⟩),.int .u32 a] w (LkPost w L {f with pc:=upd f.pc k (if a=0 then 0 else 2),oth:=upd f.oth k a} (Dd.val ⟨if a=0 then 1 else 0,true,false,false⟩)):=by
 by_cases hz:a=0
 ·rw [if_pos hz,if_pos hz];exact fl_ent0 h k hk hs a ha hz
 ·rw [if_neg hz,if_neg hz];exact fl_ent1 h k hk hs a ha hz
def FiPost (w:World) (L:Lp) (f:FL) (e:Ending) (w':World):Prop:=e= .returned (.tuple #[])∧LkAt w' L f∧Wr (LF L) w w'
theorem fl_fin0 {w:World} {L:Lp} {f:FL} (h:LkAt w L f) (k:Nat) (hk:k<f.s.n) (a:Int) (ha:0≤a∧a<4294967296) (hz:a≠0):
  Calls prog 170 #[.pointer (some ⟨L.tb,k*2,none⟩),.int .u32 a] w (FiPost w L {f with pc:=upd f.pc k 3,oth:=upd f.oth k a}):=by
 have t0:=h.raw.tk0 hk
 have t1:=h.raw.tk1 hk
 have z0:=h.raw.tkz (k*2)
 have z1:=h.raw.tkz (k*2+1)
 have hT:=h.turns (h.raw.set2 k 3 a a (by omega) ha rfl λq=>⟨by omega,by omega⟩)
 have HE:=Lib.hid hT
 have b1:(a != 0)=true:=by simpa [bne,BEq.beq] using hz
 clear h hT hz
 go_enter func170,ntmps170
 go_wp2
 go_end0
 exact ⟨rfl,HE.out.1,lf_t HE.out.2⟩
theorem fl_fin1 {w:World} {L:Lp} {f:FL} (h:LkAt w L f) (k:Nat) (hk:k<f.s.n) (hp:f.pc k=0):
  Calls prog 170 #[.pointer (some ⟨L.tb,k*2,none⟩),.int .u32 0] w (FiPost w L {f with pc:=upd f.pc k 1,oth:=upd f.oth k 0}):=by
 have t0:=h.raw.tk0 hk
 rw [hp] at t0
 have z0:=h.raw.tkz (k*2)
 have hT:=h.turns (h.raw.set1 k 1 0 (by omega) (by omega) (by unfold ogf;rw [hp];rfl) λq=>⟨by omega,λ_=>rfl⟩)
 have HE:=Lib.hid hT
 clear h hT hp
 go_enter func170,ntmps170
 go_wp2
 go_end0
 exact ⟨rfl,HE.out.1,lf_t HE.out.2⟩
theorem fl_fin2 {w:World} {L:Lp} {f:FL} (h:LkAt w L f) (k:Nat) (hk:k<f.s.n) (hp:f.pc k=2) (hs:f.s.st k≠1):
  Calls prog 170 #[.pointer (some ⟨L.tb,k*2,none⟩),.int .u32 0] w (FiPost w L {f with pc:=upd f.pc k 2,oth:=upd f.oth k 0}):=by
 have t0:=h.raw.tk0 hk
 rw [hp] at t0
 have e:({f with pc:=upd f.pc k 2,oth:=upd f.oth k 0}:FL)=f:=by
  rw [upd_id f.pc k hp.symm,upd_id f.oth k ((h.raw.inv k hs).2 (.inr hp)).symm]
 rw [e]
 have HE:=Lib.hid h
 clear h hp hs e
 go_enter func170,ntmps170
 go_wp2
 go_end0
 exact ⟨rfl,HE.out,Wr.refl _ _⟩
theorem fl_finds {w:World} {L:Lp} {f:FL} (h:LkAt w L f) (k:Nat) (hk:k<f.s.n) (hs:f.s.st k≠1) (x:Int) (hp:(f.pc k=0∧x=1)∨(f.pc k=2∧x=2)) (a:Int) (ha:0≤a∧a<4294967296):
  Calls prog 170 #[.pointer (some ⟨L.tb,k*2,none⟩),.int .u32 a] w (FiPost w L {f with pc:=upd f.pc k (if a=0 then x else 3),oth:=upd f.oth k a}):=by
 by_cases hz:a=0
 ·subst hz
  rw [if_pos rfl]
  rcases hp with ⟨hp,rfl⟩|⟨hp,rfl⟩
  ·exact fl_fin1 h k hk hp
  ·exact fl_fin2 h k hk hp hs
 ·rw [if_neg hz];exact fl_fin0 h k hk a ha hz
theorem fl_acq0 {w:World} {L:Lp} {f:FL} (h:LkAt w L f) (k:Nat) (hk:k<f.s.n) (u:Int) (hs:f.s.st k=1) (hd:f.pc k=0) (hD:f.ps.D.length<4611686018427387904):
  Calls prog 162 #[.pointer (some ⟨L.lb,0,none⟩),.int .i64 (k:Int),.int .i64 u] w (LkPost w L (f.acq L k u) (f.acqD L k u).val):=by
 have e1:f.acq L k u={f with pc:=upd f.pc k 1,ps:=doS f.ps u 2 (L.nx k) 0 (0)}:=by unfold FL.acq;rw [if_pos hd]
 have e2:f.acqD L k u=Dd.no:=by unfold FL.acqD;rw [if_pos hd]
 rw [e1,e2]
 clear e1 e2
 obtain ⟨bo,a0,a1,a2⟩:=h.bd k
 have hF:=Fr.start h
 obtain ⟨Z,hZ⟩:∃ Z,Z=w.alloc (.cells #[.int .i64 0,.bool false,.bool false,.bool false] 102):=⟨_,rfl⟩
 rw [←hZ] at hF
 have hn64:=h.raw.seat.n2
 have kn:0≤(k:Int)+1∧(k:Int)+1<4294967296:=by omega
 have c1:=hF.drew.lk.raw.cell1
 have c2:=hF.drew.lk.raw.cell2
 have c3:=hF.lk.raw.cell3
 have t0:=hF.drew.lk.raw.tk0 hk
 have t1:=hF.drew.lk.raw.tk1 hk
 rw [hd] at t0
 have hog:ogf f.pc f.oth k=0:=by unfold ogf;rw [hd];rfl
 have cN:=fl_number Z.drew k (by omega)
 have cG:=fl_next hF.drew.drew.lk ((k:Int)+1) k kn (by omega)
 have cA:=pstore_any hF.drew.drew.lk.port u (L.nx k) 0 (by omega) (by omega) hD
 have HE:=Lib.hid (And.intro h (And.intro hk (And.intro (And.intro hs hd) hF)))
 have HO:=Lib.hid hog
 have HI:=Lib.hid (And.intro h.raw.inv (And.intro bo kn))
 have hkI:(k:Int)<f.s.n:=by omega
 clear h hF bo a0 a1 a2 hog hs hd kn
 go_enter func162,ntmps162
 go_wp2
 rw [←hZ]
 clear hZ
 go_region_held3 (λw'=>w'.cell? ⟨L.lb,3,none⟩=some (.slice (some ⟨L.tb,0,none⟩) f.s.n f.s.n)) (exact c3) (first|(go_at_call 165;(with_reducible refine cN.mono ?_);rintro e w' ⟨rfl,rfl⟩))
 go_wp2
 go_region_held3 (λw'=>w'.cell? ⟨L.lb,1,none⟩=some (.pointer (some ⟨L.q.p,0,none⟩))) (first|exact c1|exact d1) (first|(go_at_call 166;(with_reducible refine cG.mono ?_);rintro e w' ⟨rfl,rfl⟩)|(go_at_call 98;(with_reducible refine cA.mono ?_);intro e w2 hq;unfold AccPost at hq;obtain ⟨rfl,hP,hW⟩:=hq;have hA:=HE.out.2.2.2.drew.drew.lk.ports hP hW;have hA3:=Fr.call HE.out.1 HE.out.2.2.2.drew.drew hA (lf_q hW);have d1:=hA.raw.cell1;have d2:=hA.raw.cell2;have y0:=hA.raw.tk0 HE.out.2.1;have y1:=hA.raw.tk1 HE.out.2.1;rw [HE.out.2.2.1.2] at y0;have z0:=hA.raw.tkz (k*2);have hT:=hA.tick1 k 1 (by omega) (HO.out.trans rfl) λq=>absurd HE.out.2.2.1.1 q;have hA4:=Fr.call HE.out.1 hA3 hT.1 (lf_t hT.2);obtain ⟨v0,v1,v2,v3⟩:=hA4.cell;obtain ⟨x0,x1,x2,x3⟩:=hA4.frz;have HT:=Lib.hid hA4;clear hA4 hT;clear hA hA3 hP hW))
 go_wp2
 refine bodyPost_ret (v:=Dd.val ⟨0,false,false,false⟩) (results_cell_row rfl _ _ w.heap.size 102 _ (0,0) _ rfl (set4 HT.out.res rfl _ _ _ _) underlying102 rfl i_did) rfl (HT.out.told HE.out.1 ⟨0,false,false,false⟩)
theorem fl_acq2 {w:World} {L:Lp} {f:FL} (h:LkAt w L f) (k:Nat) (hk:k<f.s.n) (u:Int) (hs:f.s.st k=1) (hd:f.pc k=2) (hD:f.ps.D.length<4611686018427387904):
  Calls prog 162 #[.pointer (some ⟨L.lb,0,none⟩),.int .i64 (k:Int),.int .i64 u] w (LkPost w L (f.acq L k u) (f.acqD L k u).val):=by
 have e1:f.acq L k u={f with pc:=upd f.pc k 3,ps:=doS f.ps u 2 (L.lk k) 0 (1)}:=by unfold FL.acq;rw [if_neg (by omega),if_neg (by omega),if_pos hd]
 have e2:f.acqD L k u=Dd.no:=by unfold FL.acqD;rw [if_neg (by omega),if_neg (by omega),if_pos hd]
 rw [e1,e2]
 clear e1 e2
 obtain ⟨bo,a0,a1,a2⟩:=h.bd k
 have hF:=Fr.start h
 obtain ⟨Z,hZ⟩:∃ Z,Z=w.alloc (.cells #[.int .i64 0,.bool false,.bool false,.bool false] 102):=⟨_,rfl⟩
 rw [←hZ] at hF
 have hn64:=h.raw.seat.n2
 have kn:0≤(k:Int)+1∧(k:Int)+1<4294967296:=by omega
 have c1:=hF.drew.lk.raw.cell1
 have c2:=hF.drew.lk.raw.cell2
 have c3:=hF.lk.raw.cell3
 have t0:=hF.drew.lk.raw.tk0 hk
 have t1:=hF.drew.lk.raw.tk1 hk
 rw [hd] at t0
 have hog:ogf f.pc f.oth k=f.oth k:=by unfold ogf;rw [hd];rfl
 have cN:=fl_number Z.drew k (by omega)
 have cG:=fl_locked hF.drew.drew.lk ((k:Int)+1) k kn (by omega)
 have cA:=pstore_any hF.drew.drew.lk.port u (L.lk k) 1 (by omega) (by omega) hD
 have HE:=Lib.hid (And.intro h (And.intro hk (And.intro (And.intro hs hd) hF)))
 have HO:=Lib.hid hog
 have HI:=Lib.hid (And.intro h.raw.inv (And.intro bo kn))
 have hkI:(k:Int)<f.s.n:=by omega
 clear h hF bo a0 a1 a2 hog hs hd kn
 go_enter func162,ntmps162
 go_wp2
 rw [←hZ]
 clear hZ
 go_region_held3 (λw'=>w'.cell? ⟨L.lb,3,none⟩=some (.slice (some ⟨L.tb,0,none⟩) f.s.n f.s.n)) (exact c3) (first|(go_at_call 165;(with_reducible refine cN.mono ?_);rintro e w' ⟨rfl,rfl⟩))
 go_wp2
 go_region_held3 (λw'=>w'.cell? ⟨L.lb,1,none⟩=some (.pointer (some ⟨L.q.p,0,none⟩))) (first|exact c1|exact d1) (first|(go_at_call 168;(with_reducible refine cG.mono ?_);rintro e w' ⟨rfl,rfl⟩)|(go_at_call 98;(with_reducible refine cA.mono ?_);intro e w2 hq;unfold AccPost at hq;obtain ⟨rfl,hP,hW⟩:=hq;have hA:=HE.out.2.2.2.drew.drew.lk.ports hP hW;have hA3:=Fr.call HE.out.1 HE.out.2.2.2.drew.drew hA (lf_q hW);have d1:=hA.raw.cell1;have d2:=hA.raw.cell2;have y0:=hA.raw.tk0 HE.out.2.1;have y1:=hA.raw.tk1 HE.out.2.1;rw [HE.out.2.2.1.2] at y0;have z0:=hA.raw.tkz (k*2);have hT:=hA.tick1 k 3 (by omega) (HO.out.trans rfl) λq=>absurd HE.out.2.2.1.1 q;have hA4:=Fr.call HE.out.1 hA3 hT.1 (lf_t hT.2);obtain ⟨v0,v1,v2,v3⟩:=hA4.cell;obtain ⟨x0,x1,x2,x3⟩:=hA4.frz;have HT:=Lib.hid hA4;clear hA4 hT;clear hA hA3 hP hW))
 go_wp2
 refine bodyPost_ret (v:=Dd.val ⟨0,false,false,false⟩) (results_cell_row rfl _ _ w.heap.size 102 _ (0,0) _ rfl (set4 HT.out.res rfl _ _ _ _) underlying102 rfl i_did) rfl (HT.out.told HE.out.1 ⟨0,false,false,false⟩)
theorem fl_acq3 {w:World} {L:Lp} {f:FL} (h:LkAt w L f) (k:Nat) (hk:k<f.s.n) (u:Int) (hs:f.s.st k=1) (hd:f.pc k=3) (hD:f.ps.D.length<4611686018427387904):
  Calls prog 162 #[.pointer (some ⟨L.lb,0,none⟩),.int .i64 (k:Int),.int .i64 u] w (LkPost w L (f.acq L k u) (f.acqD L k u).val):=by
 have e1:f.acq L k u={f with pc:=upd f.pc k 4,ps:=doS f.ps u 2 (L.nx (f.oth k-1)) 0 ((k:Int)+1)}:=by unfold FL.acq;rw [if_neg (by omega),if_neg (by omega),if_neg (by omega),if_pos hd]
 have e2:f.acqD L k u=Dd.no:=by unfold FL.acqD;rw [if_neg (by omega),if_neg (by omega),if_neg (by omega),if_pos hd]
 rw [e1,e2]
 clear e1 e2
 obtain ⟨bo,a0,a1,a2⟩:=h.bd k
 have hF:=Fr.start h
 obtain ⟨Z,hZ⟩:∃ Z,Z=w.alloc (.cells #[.int .i64 0,.bool false,.bool false,.bool false] 102):=⟨_,rfl⟩
 rw [←hZ] at hF
 have hn64:=h.raw.seat.n2
 have kn:0≤(k:Int)+1∧(k:Int)+1<4294967296:=by omega
 have c1:=hF.drew.lk.raw.cell1
 have c2:=hF.drew.lk.raw.cell2
 have c3:=hF.lk.raw.cell3
 have t0:=hF.drew.lk.raw.tk0 hk
 have t1:=hF.drew.lk.raw.tk1 hk
 rw [hd] at t0
 have hog:ogf f.pc f.oth k=f.oth k:=by unfold ogf;rw [hd];rfl
 have cN:=fl_number Z.drew k (by omega)
 rw [hog] at t1
 have cG:=fl_next hF.drew.drew.lk (f.oth k) (f.oth k-1) bo rfl
 have cA:=pstore_any hF.drew.drew.lk.port u (L.nx (f.oth k-1)) ((k:Int)+1) kn.1 kn.2 hD
 have HE:=Lib.hid (And.intro h (And.intro hk (And.intro (And.intro hs hd) hF)))
 have HO:=Lib.hid hog
 have HI:=Lib.hid (And.intro h.raw.inv (And.intro bo kn))
 have hkI:(k:Int)<f.s.n:=by omega
 clear h hF bo a0 a1 a2 hog hs hd kn
 go_enter func162,ntmps162
 go_wp2
 rw [←hZ]
 clear hZ
 go_region_held3 (λw'=>w'.cell? ⟨L.lb,3,none⟩=some (.slice (some ⟨L.tb,0,none⟩) f.s.n f.s.n)) (exact c3) (first|(go_at_call 165;(with_reducible refine cN.mono ?_);rintro e w' ⟨rfl,rfl⟩))
 go_wp2
 go_region_held3 (λw'=>w'.cell? ⟨L.lb,1,none⟩=some (.pointer (some ⟨L.q.p,0,none⟩))∧w'.cell? ⟨L.tb,k*2+1,none⟩=some (.int .u32 (f.oth k))) (first|exact ⟨c1,t1⟩|exact ⟨d1,y1⟩) (first|(go_at_call 166;(with_reducible refine cG.mono ?_);rintro e w' ⟨rfl,rfl⟩)|(go_at_call 98;(with_reducible refine cA.mono ?_);intro e w2 hq;unfold AccPost at hq;obtain ⟨rfl,hP,hW⟩:=hq;have hA:=HE.out.2.2.2.drew.drew.lk.ports hP hW;have hA3:=Fr.call HE.out.1 HE.out.2.2.2.drew.drew hA (lf_q hW);have d1:=hA.raw.cell1;have d2:=hA.raw.cell2;have y0:=hA.raw.tk0 HE.out.2.1;have y1:=hA.raw.tk1 HE.out.2.1;rw [HE.out.2.2.1.2] at y0;rw [HO.out] at y1;have z0:=hA.raw.tkz (k*2);have hT:=hA.tick1 k 4 (by omega) (HO.out.trans rfl) λq=>absurd HE.out.2.2.1.1 q;have hA4:=Fr.call HE.out.1 hA3 hT.1 (lf_t hT.2);obtain ⟨v0,v1,v2,v3⟩:=hA4.cell;obtain ⟨x0,x1,x2,x3⟩:=hA4.frz;have HT:=Lib.hid hA4;clear hA4 hT;clear hA hA3 hP hW))
 go_wp2
 refine bodyPost_ret (v:=Dd.val ⟨0,false,false,false⟩) (results_cell_row rfl _ _ w.heap.size 102 _ (0,0) _ rfl (set4 HT.out.res rfl _ _ _ _) underlying102 rfl i_did) rfl (HT.out.told HE.out.1 ⟨0,false,false,false⟩)
theorem fl_acq1 {w:World} {L:Lp} {f:FL} (h:LkAt w L f) (k:Nat) (hk:k<f.s.n) (u:Int) (hs:f.s.st k=1) (hd:f.pc k=1) (hD:f.ps.D.length<4611686018427387904):
  Calls prog 162 #[.pointer (some ⟨L.lb,0,none⟩),.int .i64 (k:Int),.int .i64 u] w (LkPost w L (f.acq L k u) (f.acqD L k u).val):=by
 have e1:f.acq L k u={f with pc:=upd f.pc k (if tellS f.ps u 3 L.a1=0 then 0 else 2),oth:=upd f.oth k (tellS f.ps u 3 L.a1),ps:=doS f.ps u 3 L.a1 0 ((k:Int)+1)}:=by unfold FL.acq;rw [if_neg (by omega),if_pos hd]
 have e2:f.acqD L k u=⟨if tellS f.ps u 3 L.a1=0 then 1 else 0,true,false,false⟩:=by unfold FL.acqD;rw [if_neg (by omega),if_pos hd]
 rw [e1,e2]
 clear e1 e2
 obtain ⟨bo,a0,a1,a2⟩:=h.bd k
 have hF:=Fr.start h
 obtain ⟨Z,hZ⟩:∃ Z,Z=w.alloc (.cells #[.int .i64 0,.bool false,.bool false,.bool false] 102):=⟨_,rfl⟩
 rw [←hZ] at hF
 have hn64:=h.raw.seat.n2
 have kn:0≤(k:Int)+1∧(k:Int)+1<4294967296:=by omega
 have c1:=hF.drew.lk.raw.cell1
 have c2:=hF.drew.lk.raw.cell2
 have c3:=hF.lk.raw.cell3
 have t0:=hF.drew.lk.raw.tk0 hk
 have t1:=hF.drew.lk.raw.tk1 hk
 rw [hd] at t0
 have hog:ogf f.pc f.oth k=0:=by unfold ogf;rw [hd];rfl
 have cN:=fl_number Z.drew k (by omega)
 have cA:=pswap_any hF.drew.drew.lk.port u L.a1 ((k:Int)+1) kn.1 kn.2 hD
 have hT0:=h.tell u 3 L.a1
 generalize tellS f.ps u 3 L.a1=v at*
 have HE:=Lib.hid (And.intro h (And.intro hk (And.intro (And.intro hs hd) hF)))
 have HO:=Lib.hid hog
 have HI:=Lib.hid (And.intro h.raw.inv (And.intro bo kn))
 have hkI:(k:Int)<f.s.n:=by omega
 clear h hF bo a0 a1 a2 hog hs hd kn
 have HV:=Lib.hid hT0
 clear hT0
 obtain ⟨x,hx⟩:∃ x:Int,x=if v=0 then 0 else 2:=⟨_,rfl⟩
 obtain ⟨y,hy⟩:∃ y:Int,y=if v=0 then 1 else 0:=⟨_,rfl⟩
 rw [←hx,←hy]
 have HX:=Lib.hid hx
 have HY:=Lib.hid hy
 clear hx hy
 go_enter func162,ntmps162
 go_wp2
 rw [←hZ]
 clear hZ
 go_region_held3 (λw'=>w'.cell? ⟨L.lb,3,none⟩=some (.slice (some ⟨L.tb,0,none⟩) f.s.n f.s.n)) (exact c3) (first|(go_at_call 165;(with_reducible refine cN.mono ?_);rintro e w' ⟨rfl,rfl⟩))
 go_wp2
 go_region_held3 (λw'=>w'.cell? ⟨L.lb,1,none⟩=some (.pointer (some ⟨L.q.p,0,none⟩))∧w'.cell? ⟨L.lb,2,none⟩=some (.int .i64 L.a1)) (first|with_reducible exact ⟨d1,d2⟩|with_reducible exact ⟨q1,q2⟩|with_reducible exact ⟨r1,r2⟩|exact ⟨c1,c2⟩) (first|(go_at_call 156;(with_reducible refine cA.mono ?_);intro e w2 hq;unfold AccPost at hq;obtain ⟨rfl,hP,hW⟩:=hq;have hA:=HE.out.2.2.2.drew.drew.lk.ports hP hW;have hA3:=Fr.call HE.out.1 HE.out.2.2.2.drew.drew hA (lf_q hW);have d1:=hA.raw.cell1;have d2:=hA.raw.cell2;have y0:=hA.raw.tk0 HE.out.2.1;have y1:=hA.raw.tk1 HE.out.2.1;have HA:=Lib.hid hA3;have cE:=fl_enters hA k HE.out.2.1 HE.out.2.2.1.1 v HV.out;rw [←HX.out,←HY.out] at cE;clear hA hA3 hP hW)|(go_at_call 167;(with_reducible refine cE.mono ?_);intro e w3 hq;unfold LkPost at hq;obtain ⟨rfl,hB,hW2⟩:=hq;dsimp only [Dd.val];have hB3:=Fr.call HE.out.1 HA.out hB hW2;have q1:=hB.raw.cell1;have q2:=hB.raw.cell2;have hC:=(hB3.told HE.out.1 ⟨y,true,false,false⟩).2.1;have r1:=hC.raw.cell1;have r2:=hC.raw.cell2;obtain ⟨v0,v1,v2,v3⟩:=hB3.cell;obtain ⟨x0,x1,x2,x3⟩:=hB3.frz;have HT:=Lib.hid hB3;clear hB hB3 hW2 hC))
 go_wp2
 refine bodyPost_ret (v:=Dd.val ⟨y,true,false,false⟩) (results_cell_row rfl _ _ w.heap.size 102 _ (0,0) _ rfl (set4 HT.out.res rfl _ _ _ _) underlying102 rfl i_did) rfl (HT.out.told HE.out.1 ⟨y,true,false,false⟩)
theorem fl_acq4 {w:World} {L:Lp} {f:FL} (h:LkAt w L f) (k:Nat) (hk:k<f.s.n) (u:Int) (hs:f.s.st k=1) (hd:f.pc k=4) (hD:f.ps.D.length<4611686018427387904):
  Calls prog 162 #[.pointer (some ⟨L.lb,0,none⟩),.int .i64 (k:Int),.int .i64 u] w (LkPost w L (f.acq L k u) (f.acqD L k u).val):=by
 have e1:f.acq L k u={f with pc:=upd f.pc k (if tellS f.ps u 1 (L.lk k)=0 then 0 else 4),ps:=doS f.ps u 1 (L.lk k) 0 0}:=by unfold FL.acq;rw [if_neg (by omega),if_neg (by omega),if_neg (by omega),if_neg (by omega)]
 have e2:f.acqD L k u=if tellS f.ps u 1 (L.lk k)=0 then ⟨1,false,false,false⟩ else Dd.no:=by unfold FL.acqD;rw [if_neg (by omega),if_neg (by omega),if_neg (by omega),if_neg (by omega)]
 rw [e1,e2]
 clear e1 e2
 obtain ⟨bo,a0,a1,a2⟩:=h.bd k
 have hF:=Fr.start h
 obtain ⟨Z,hZ⟩:∃ Z,Z=w.alloc (.cells #[.int .i64 0,.bool false,.bool false,.bool false] 102):=⟨_,rfl⟩
 rw [←hZ] at hF
 have hn64:=h.raw.seat.n2
 have kn:0≤(k:Int)+1∧(k:Int)+1<4294967296:=by omega
 have c1:=hF.drew.lk.raw.cell1
 have c2:=hF.drew.lk.raw.cell2
 have c3:=hF.lk.raw.cell3
 have t0:=hF.drew.lk.raw.tk0 hk
 have t1:=hF.drew.lk.raw.tk1 hk
 rw [hd] at t0
 have hog:ogf f.pc f.oth k=f.oth k:=by unfold ogf;rw [hd];rfl
 have cN:=fl_number Z.drew k (by omega)
 have cG:=fl_locked hF.drew.drew.lk ((k:Int)+1) k kn (by omega)
 have cA:=pload_any hF.drew.drew.lk.port u (L.lk k) hD
 have hpd:upd f.pc k 4=f.pc:=upd_id f.pc k hd.symm
 generalize tellS f.ps u 1 (L.lk k)=v at*
 have HE:=Lib.hid (And.intro h (And.intro hk (And.intro (And.intro hs hd) hF)))
 have HO:=Lib.hid hog
 have HI:=Lib.hid (And.intro h.raw.inv (And.intro bo kn))
 have hkI:(k:Int)<f.s.n:=by omega
 clear h hF bo a0 a1 a2 hog hs hd kn
 by_cases hx:v=0
 ·rw [if_pos hx,if_pos hx]
  subst hx
  clear hpd
  go_enter func162,ntmps162
  go_wp2
  rw [←hZ]
  clear hZ
  go_region_held3 (λw'=>w'.cell? ⟨L.lb,3,none⟩=some (.slice (some ⟨L.tb,0,none⟩) f.s.n f.s.n)) (exact c3) (first|(go_at_call 165;(with_reducible refine cN.mono ?_);rintro e w' ⟨rfl,rfl⟩))
  go_wp2
  go_region_held3 (λw'=>w'.cell? ⟨L.lb,1,none⟩=some (.pointer (some ⟨L.q.p,0,none⟩))) (first|exact c1|exact d1) (first|(go_at_call 168;(with_reducible refine cG.mono ?_);rintro e w' ⟨rfl,rfl⟩)|(go_at_call 85;(with_reducible refine cA.mono ?_);intro e w2 hq;unfold AccPost at hq;obtain ⟨rfl,hP,hW⟩:=hq;have hA:=HE.out.2.2.2.drew.drew.lk.ports hP hW;have hA3:=Fr.call HE.out.1 HE.out.2.2.2.drew.drew hA (lf_q hW);have d1:=hA.raw.cell1;have d2:=hA.raw.cell2;have y0:=hA.raw.tk0 HE.out.2.1;have y1:=hA.raw.tk1 HE.out.2.1;have HA:=Lib.hid hA3;have cE:=fl_ends hA k HE.out.2.1 1;clear hA hA3 hP hW))
  go_wp2_with (first|(go_at_call 169;(with_reducible refine cE.mono ?_);intro e w3 hq;unfold LkPost at hq;obtain ⟨rfl,hB,hW2⟩:=hq;dsimp only [Dd.val];have hB3:=Fr.call HE.out.1 HA.out hB hW2;obtain ⟨v0,v1,v2,v3⟩:=hB3.cell;obtain ⟨x0,x1,x2,x3⟩:=hB3.frz;have HT:=Lib.hid hB3;clear hB hB3 hW2))
  refine bodyPost_ret (v:=Dd.val ⟨1,false,false,false⟩) (results_cell_row rfl _ _ w.heap.size 102 _ (0,0) _ rfl (set4 HT.out.res rfl _ _ _ _) underlying102 rfl i_did) rfl (HT.out.told HE.out.1 ⟨1,false,false,false⟩)
 ·rw [if_neg hx,if_neg hx,hpd]
  have b1:(v==0)=false:=beq_false_of_ne hx
  clear hx hpd
  go_enter func162,ntmps162
  go_wp2
  rw [←hZ]
  clear hZ
  go_region_held3 (λw'=>w'.cell? ⟨L.lb,3,none⟩=some (.slice (some ⟨L.tb,0,none⟩) f.s.n f.s.n)) (exact c3) (first|(go_at_call 165;(with_reducible refine cN.mono ?_);rintro e w' ⟨rfl,rfl⟩))
  go_wp2
  go_region_held3 (λw'=>w'.cell? ⟨L.lb,1,none⟩=some (.pointer (some ⟨L.q.p,0,none⟩))) (first|exact c1|exact d1) (first|(go_at_call 168;(with_reducible refine cG.mono ?_);rintro e w' ⟨rfl,rfl⟩)|(go_at_call 85;(with_reducible refine cA.mono ?_);intro e w2 hq;unfold AccPost at hq;obtain ⟨rfl,hP,hW⟩:=hq;have hA:=HE.out.2.2.2.drew.drew.lk.ports hP hW;have hA3:=Fr.call HE.out.1 HE.out.2.2.2.drew.drew hA (lf_q hW);have d1:=hA.raw.cell1;have d2:=hA.raw.cell2;have y0:=hA.raw.tk0 HE.out.2.1;have y1:=hA.raw.tk1 HE.out.2.1;obtain ⟨v0,v1,v2,v3⟩:=hA3.cell;obtain ⟨x0,x1,x2,x3⟩:=hA3.frz;have HT:=Lib.hid hA3;clear hA hA3 hP hW))
  go_wp2
  refine bodyPost_ret (v:=Dd.val ⟨0,false,false,false⟩) (results_cell_row rfl _ _ w.heap.size 102 _ (0,0) _ rfl (set4 HT.out.res rfl _ _ _ _) underlying102 rfl i_did) rfl (HT.out.told HE.out.1 ⟨0,false,false,false⟩)
theorem fl_acq {w:World} {L:Lp} {f:FL} (h:LkAt w L f) (k:Nat) (hk:k<f.s.n) (u:Int) (hs:f.s.st k=1) (hD:f.ps.D.length<4611686018427387904):
  Calls prog 162 #[.pointer (some ⟨L.lb,0,none⟩),.int .i64 (k:Int),.int .i64 u] w (LkPost w L (f.acq L k u) (f.acqD L k u).val):=by
 have hr:=(h.raw.rng k).1
 have:f.pc k=0∨f.pc k=1∨f.pc k=2∨f.pc k=3∨f.pc k=4:=by omega
 rcases this with hd|hd|hd|hd|hd
 ·exact fl_acq0 h k hk u hs hd hD
 ·exact fl_acq1 h k hk u hs hd hD
 ·exact fl_acq2 h k hk u hs hd hD
 ·exact fl_acq3 h k hk u hs hd hD
 ·exact fl_acq4 h k hk u hs hd hD
theorem fl_rel0 {w:World} {L:Lp} {f:FL} (h:LkAt w L f) (k:Nat) (hk:k<f.s.n) (u:Int) (hs:f.s.st k=3) (hd:f.pc k=0) (hD:f.ps.D.length<4611686018427387904):
  Calls prog 163 #[.pointer (some ⟨L.lb,0,none⟩),.int .i64 (k:Int),.int .i64 u] w (LkPost w L (f.rel L k u) (f.relD L k u).val):=by
 have e1:f.rel L k u={f with pc:=upd f.pc k (if tellS f.ps u 1 (L.nx k)=0 then 1 else 3),oth:=upd f.oth k (tellS f.ps u 1 (L.nx k)),ps:=doS f.ps u 1 (L.nx k) 0 0}:=by unfold FL.rel;rw [if_pos hd]
 have e2:f.relD L k u=Dd.no:=by unfold FL.relD;rw [if_pos hd]
 rw [e1,e2]
 clear e1 e2
 obtain ⟨bo,a0,a1,a2⟩:=h.bd k
 have hF:=Fr.start h
 obtain ⟨Z,hZ⟩:∃ Z,Z=w.alloc (.cells #[.int .i64 0,.bool false,.bool false,.bool false] 102):=⟨_,rfl⟩
 rw [←hZ] at hF
 have hn64:=h.raw.seat.n2
 have kn:0≤(k:Int)+1∧(k:Int)+1<4294967296:=by omega
 have c1:=hF.drew.lk.raw.cell1
 have c2:=hF.drew.lk.raw.cell2
 have c3:=hF.lk.raw.cell3
 have t0:=hF.drew.lk.raw.tk0 hk
 have t1:=hF.drew.lk.raw.tk1 hk
 rw [hd] at t0
 have hog:ogf f.pc f.oth k=0:=by unfold ogf;rw [hd];rfl
 have cN:=fl_number Z.drew k (by omega)
 have cG:=fl_next hF.drew.drew.lk ((k:Int)+1) k kn (by omega)
 have cA:=pload_any hF.drew.drew.lk.port u (L.nx k) hD
 have hT0:=h.tell u 1 (L.nx k)
 generalize tellS f.ps u 1 (L.nx k)=v at*
 have HE:=Lib.hid (And.intro h (And.intro hk (And.intro (And.intro hs hd) hF)))
 have HO:=Lib.hid hog
 have HI:=Lib.hid (And.intro h.raw.inv (And.intro bo kn))
 have hkI:(k:Int)<f.s.n:=by omega
 clear h hF bo a0 a1 a2 hog hs hd kn
 have HV:=Lib.hid hT0
 clear hT0
 obtain ⟨x,hx⟩:∃ x:Int,x=if v=0 then 1 else 3:=⟨_,rfl⟩
 rw [←hx]
 have HX:=Lib.hid hx
 clear hx
 go_enter func163,ntmps163
 go_wp2
 rw [←hZ]
 clear hZ
 go_region_held3 (λw'=>w'.cell? ⟨L.lb,3,none⟩=some (.slice (some ⟨L.tb,0,none⟩) f.s.n f.s.n)) (exact c3) (first|(go_at_call 165;(with_reducible refine cN.mono ?_);rintro e w' ⟨rfl,rfl⟩))
 go_wp2
 go_region_held3 (λw'=>w'.cell? ⟨L.lb,1,none⟩=some (.pointer (some ⟨L.q.p,0,none⟩))) (first|exact c1|exact d1|exact q1) (first|(go_at_call 166;(with_reducible refine cG.mono ?_);rintro e w' ⟨rfl,rfl⟩)|(go_at_call 85;(with_reducible refine cA.mono ?_);intro e w2 hq;unfold AccPost at hq;obtain ⟨rfl,hP,hW⟩:=hq;have hA:=HE.out.2.2.2.drew.drew.lk.ports hP hW;have hA3:=Fr.call HE.out.1 HE.out.2.2.2.drew.drew hA (lf_q hW);have d1:=hA.raw.cell1;have d2:=hA.raw.cell2;have y0:=hA.raw.tk0 HE.out.2.1;have y1:=hA.raw.tk1 HE.out.2.1;have HA:=Lib.hid hA3;have cE:=fl_finds hA k HE.out.2.1 (by rw [HE.out.2.2.1.1];decide) 1 (.inl ⟨HE.out.2.2.1.2,rfl⟩) v HV.out;rw [←HX.out] at cE;clear hA hA3 hP hW)|(go_at_call 170;(with_reducible refine cE.mono ?_);intro e w3 hq;unfold FiPost at hq;obtain ⟨rfl,hB,hW2⟩:=hq;have hB3:=Fr.call HE.out.1 HA.out hB hW2;have q1:=hB.raw.cell1;obtain ⟨v0,v1,v2,v3⟩:=hB3.cell;obtain ⟨x0,x1,x2,x3⟩:=hB3.frz;have HT:=Lib.hid hB3;clear hB hB3 hW2))
 go_wp2
 refine bodyPost_ret (v:=Dd.val ⟨0,false,false,false⟩) (results_cell_row rfl _ _ w.heap.size 102 _ (0,0) _ rfl (set4 HT.out.res rfl _ _ _ _) underlying102 rfl i_did) rfl (HT.out.told HE.out.1 ⟨0,false,false,false⟩)
theorem fl_rel2 {w:World} {L:Lp} {f:FL} (h:LkAt w L f) (k:Nat) (hk:k<f.s.n) (u:Int) (hs:f.s.st k=3) (hd:f.pc k=2) (hD:f.ps.D.length<4611686018427387904):
  Calls prog 163 #[.pointer (some ⟨L.lb,0,none⟩),.int .i64 (k:Int),.int .i64 u] w (LkPost w L (f.rel L k u) (f.relD L k u).val):=by
 have e1:f.rel L k u={f with pc:=upd f.pc k (if tellS f.ps u 1 (L.nx k)=0 then 2 else 3),oth:=upd f.oth k (tellS f.ps u 1 (L.nx k)),ps:=doS f.ps u 1 (L.nx k) 0 0}:=by unfold FL.rel;rw [if_neg (by omega),if_neg (by omega),if_pos hd]
 have e2:f.relD L k u=Dd.no:=by unfold FL.relD;rw [if_neg (by omega),if_neg (by omega),if_pos hd]
 rw [e1,e2]
 clear e1 e2
 obtain ⟨bo,a0,a1,a2⟩:=h.bd k
 have hF:=Fr.start h
 obtain ⟨Z,hZ⟩:∃ Z,Z=w.alloc (.cells #[.int .i64 0,.bool false,.bool false,.bool false] 102):=⟨_,rfl⟩
 rw [←hZ] at hF
 have hn64:=h.raw.seat.n2
 have kn:0≤(k:Int)+1∧(k:Int)+1<4294967296:=by omega
 have c1:=hF.drew.lk.raw.cell1
 have c2:=hF.drew.lk.raw.cell2
 have c3:=hF.lk.raw.cell3
 have t0:=hF.drew.lk.raw.tk0 hk
 have t1:=hF.drew.lk.raw.tk1 hk
 rw [hd] at t0
 have hog:ogf f.pc f.oth k=f.oth k:=by unfold ogf;rw [hd];rfl
 have cN:=fl_number Z.drew k (by omega)
 have cG:=fl_next hF.drew.drew.lk ((k:Int)+1) k kn (by omega)
 have cA:=pload_any hF.drew.drew.lk.port u (L.nx k) hD
 have hT0:=h.tell u 1 (L.nx k)
 generalize tellS f.ps u 1 (L.nx k)=v at*
 have HE:=Lib.hid (And.intro h (And.intro hk (And.intro (And.intro hs hd) hF)))
 have HO:=Lib.hid hog
 have HI:=Lib.hid (And.intro h.raw.inv (And.intro bo kn))
 have hkI:(k:Int)<f.s.n:=by omega
 clear h hF bo a0 a1 a2 hog hs hd kn
 have HV:=Lib.hid hT0
 clear hT0
 obtain ⟨x,hx⟩:∃ x:Int,x=if v=0 then 2 else 3:=⟨_,rfl⟩
 rw [←hx]
 have HX:=Lib.hid hx
 clear hx
 go_enter func163,ntmps163
 go_wp2
 rw [←hZ]
 clear hZ
 go_region_held3 (λw'=>w'.cell? ⟨L.lb,3,none⟩=some (.slice (some ⟨L.tb,0,none⟩) f.s.n f.s.n)) (exact c3) (first|(go_at_call 165;(with_reducible refine cN.mono ?_);rintro e w' ⟨rfl,rfl⟩))
 go_wp2
 go_region_held3 (λw'=>w'.cell? ⟨L.lb,1,none⟩=some (.pointer (some ⟨L.q.p,0,none⟩))) (first|exact c1|exact d1|exact q1) (first|(go_at_call 166;(with_reducible refine cG.mono ?_);rintro e w' ⟨rfl,rfl⟩)|(go_at_call 85;(with_reducible refine cA.mono ?_);intro e w2 hq;unfold AccPost at hq;obtain ⟨rfl,hP,hW⟩:=hq;have hA:=HE.out.2.2.2.drew.drew.lk.ports hP hW;have hA3:=Fr.call HE.out.1 HE.out.2.2.2.drew.drew hA (lf_q hW);have d1:=hA.raw.cell1;have d2:=hA.raw.cell2;have y0:=hA.raw.tk0 HE.out.2.1;have y1:=hA.raw.tk1 HE.out.2.1;have HA:=Lib.hid hA3;have cE:=fl_finds hA k HE.out.2.1 (by rw [HE.out.2.2.1.1];decide) 2 (.inr ⟨HE.out.2.2.1.2,rfl⟩) v HV.out;rw [←HX.out] at cE;clear hA hA3 hP hW)|(go_at_call 170;(with_reducible refine cE.mono ?_);intro e w3 hq;unfold FiPost at hq;obtain ⟨rfl,hB,hW2⟩:=hq;have hB3:=Fr.call HE.out.1 HA.out hB hW2;have q1:=hB.raw.cell1;obtain ⟨v0,v1,v2,v3⟩:=hB3.cell;obtain ⟨x0,x1,x2,x3⟩:=hB3.frz;have HT:=Lib.hid hB3;clear hB hB3 hW2))
 go_wp2
 refine bodyPost_ret (v:=Dd.val ⟨0,false,false,false⟩) (results_cell_row rfl _ _ w.heap.size 102 _ (0,0) _ rfl (set4 HT.out.res rfl _ _ _ _) underlying102 rfl i_did) rfl (HT.out.told HE.out.1 ⟨0,false,false,false⟩)
theorem fl_rel1 {w:World} {L:Lp} {f:FL} (h:LkAt w L f) (k:Nat) (hk:k<f.s.n) (u:Int) (hs:f.s.st k=3) (hd:f.pc k=1) (hD:f.ps.D.length<4611686018427387904):
  Calls prog 163 #[.pointer (some ⟨L.lb,0,none⟩),.int .i64 (k:Int),.int .i64 u] w (LkPost w L (f.rel L k u) (f.relD L k u).val):=by
 have e1:f.rel L k u={f with pc:=upd f.pc k (if casT f.ps u L.a1 ((k:Int)+1)=true then 0 else 2),ps:=doS f.ps u 4 L.a1 ((k:Int)+1) 0}:=by unfold FL.rel;rw [if_neg (by omega),if_pos hd]
 have e2:f.relD L k u=if casT f.ps u L.a1 ((k:Int)+1)=true then ⟨3,false,false,false⟩ else Dd.no:=by unfold FL.relD;rw [if_neg (by omega),if_pos hd]
 rw [e1,e2]
 clear e1 e2
 obtain ⟨bo,a0,a1,a2⟩:=h.bd k
 have hF:=Fr.start h
 obtain ⟨Z,hZ⟩:∃ Z,Z=w.alloc (.cells #[.int .i64 0,.bool false,.bool false,.bool false] 102):=⟨_,rfl⟩
 rw [←hZ] at hF
 have hn64:=h.raw.seat.n2
 have kn:0≤(k:Int)+1∧(k:Int)+1<4294967296:=by omega
 have c1:=hF.drew.lk.raw.cell1
 have c2:=hF.drew.lk.raw.cell2
 have c3:=hF.lk.raw.cell3
 have t0:=hF.drew.lk.raw.tk0 hk
 have t1:=hF.drew.lk.raw.tk1 hk
 rw [hd] at t0
 have hog:ogf f.pc f.oth k=0:=by unfold ogf;rw [hd];rfl
 have cN:=fl_number Z.drew k (by omega)
 have cA:=pcas_any hF.drew.drew.lk.port u L.a1 ((k:Int)+1) 0 (by omega) (by omega) hD
 have e0:f.oth k=0:=(h.raw.inv k (by rw [hs];decide)).2 (.inl hd)
 change Calls _ _ _ _ (AccPost _ _ _ (.bool (casT f.ps u L.a1 ((k:Int)+1))) _) at cA
 generalize casT f.ps u L.a1 ((k:Int)+1)=v at*
 have HE:=Lib.hid (And.intro h (And.intro hk (And.intro (And.intro hs hd) hF)))
 have HO:=Lib.hid hog
 have HI:=Lib.hid (And.intro h.raw.inv (And.intro bo kn))
 have hkI:(k:Int)<f.s.n:=by omega
 clear h hF bo a0 a1 a2 hog hs hd kn
 have H0:=Lib.hid e0
 clear e0
 cases v
 ·rw [if_neg (by decide),if_neg (by decide)]
  go_enter func163,ntmps163
  go_wp2
  rw [←hZ]
  clear hZ
  go_region_held3 (λw'=>w'.cell? ⟨L.lb,3,none⟩=some (.slice (some ⟨L.tb,0,none⟩) f.s.n f.s.n)) (exact c3) (first|(go_at_call 165;(with_reducible refine cN.mono ?_);rintro e w' ⟨rfl,rfl⟩))
  go_wp2
  go_region_held3 (λw'=>w'.cell? ⟨L.lb,1,none⟩=some (.pointer (some ⟨L.q.p,0,none⟩))∧w'.cell? ⟨L.lb,2,none⟩=some (.int .i64 L.a1)) (first|exact ⟨c1,c2⟩|exact ⟨d1,d2⟩) (first|(go_at_call 171;(with_reducible refine cA.mono ?_);intro e w2 hq;unfold AccPost at hq;obtain ⟨rfl,hP,hW⟩:=hq;have hA:=HE.out.2.2.2.drew.drew.lk.ports hP hW;have hA3:=Fr.call HE.out.1 HE.out.2.2.2.drew.drew hA (lf_q hW);have d1:=hA.raw.cell1;have d2:=hA.raw.cell2;have y0:=hA.raw.tk0 HE.out.2.1;have y1:=hA.raw.tk1 HE.out.2.1;rw [HE.out.2.2.1.2] at y0;have z0:=hA.raw.tkz (k*2);have hT:=hA.tick1 k 2 (by omega) (HO.out.trans H0.out.symm) (λq=>⟨by omega,λ_=>H0.out⟩);have hA4:=Fr.call HE.out.1 hA3 hT.1 (lf_t hT.2);obtain ⟨v0,v1,v2,v3⟩:=hA4.cell;obtain ⟨x0,x1,x2,x3⟩:=hA4.frz;have HT:=Lib.hid hA4;clear hA4 hT;clear hA hA3 hP hW))
  go_wp2
  refine bodyPost_ret (v:=Dd.val ⟨0,false,false,false⟩) (results_cell_row rfl _ _ w.heap.size 102 _ (0,0) _ rfl (set4 HT.out.res rfl _ _ _ _) underlying102 rfl i_did) rfl (HT.out.told HE.out.1 ⟨0,false,false,false⟩)
 ·rw [if_pos rfl,if_pos rfl]
  go_enter func163,ntmps163
  go_wp2
  rw [←hZ]
  clear hZ
  go_region_held3 (λw'=>w'.cell? ⟨L.lb,3,none⟩=some (.slice (some ⟨L.tb,0,none⟩) f.s.n f.s.n)) (exact c3) (first|(go_at_call 165;(with_reducible refine cN.mono ?_);rintro e w' ⟨rfl,rfl⟩))
  go_wp2
  go_region_held3 (λw'=>w'.cell? ⟨L.lb,1,none⟩=some (.pointer (some ⟨L.q.p,0,none⟩))∧w'.cell? ⟨L.lb,2,none⟩=some (.int .i64 L.a1)) (first|exact ⟨c1,c2⟩|exact ⟨d1,d2⟩) (first|(go_at_call 171;(with_reducible refine cA.mono ?_);intro e w2 hq;unfold AccPost at hq;obtain ⟨rfl,hP,hW⟩:=hq;have hA:=HE.out.2.2.2.drew.drew.lk.ports hP hW;have hA3:=Fr.call HE.out.1 HE.out.2.2.2.drew.drew hA (lf_q hW);have d1:=hA.raw.cell1;have d2:=hA.raw.cell2;have y0:=hA.raw.tk0 HE.out.2.1;have y1:=hA.raw.tk1 HE.out.2.1;have HA:=Lib.hid hA3;have cE:=fl_ends hA k HE.out.2.1 3;clear hA hA3 hP hW))
  go_wp2_with (first|(go_at_call 169;(with_reducible refine cE.mono ?_);intro e w3 hq;unfold LkPost at hq;obtain ⟨rfl,hB,hW2⟩:=hq;dsimp only [Dd.val];have hB3:=Fr.call HE.out.1 HA.out hB hW2;obtain ⟨v0,v1,v2,v3⟩:=hB3.cell;obtain ⟨x0,x1,x2,x3⟩:=hB3.frz;have HT:=Lib.hid hB3;clear hB hB3 hW2))
  refine bodyPost_ret (v:=Dd.val ⟨3,false,false,false⟩) (results_cell_row rfl _ _ w.heap.size 102 _ (0,0) _ rfl (set4 HT.out.res rfl _ _ _ _) underlying102 rfl i_did) rfl (HT.out.told HE.out.1 ⟨3,false,false,false⟩)
theorem fl_rel3 {w:World} {L:Lp} {f:FL} (h:LkAt w L f) (k:Nat) (hk:k<f.s.n) (u:Int) (hs:f.s.st k=3) (hd:f.pc k=3) (hD:f.ps.D.length<4611686018427387904):
  Calls prog 163 #[.pointer (some ⟨L.lb,0,none⟩),.int .i64 (k:Int),.int .i64 u] w (LkPost w L (f.rel L k u) (f.relD L k u).val):=by
 have e1:f.rel L k u={f with pc:=upd f.pc k 0,ps:=doS f.ps u 2 (L.lk (f.oth k-1)) 0 0}:=by unfold FL.rel;rw [if_neg (by omega),if_neg (by omega),if_neg (by omega)]
 have e2:f.relD L k u=⟨3,false,false,false⟩:=by unfold FL.relD;rw [if_neg (by omega),if_neg (by omega),if_neg (by omega)]
 rw [e1,e2]
 clear e1 e2
 obtain ⟨bo,a0,a1,a2⟩:=h.bd k
 have hF:=Fr.start h
 obtain ⟨Z,hZ⟩:∃ Z,Z=w.alloc (.cells #[.int .i64 0,.bool false,.bool false,.bool false] 102):=⟨_,rfl⟩
 rw [←hZ] at hF
 have hn64:=h.raw.seat.n2
 have kn:0≤(k:Int)+1∧(k:Int)+1<4294967296:=by omega
 have c1:=hF.drew.lk.raw.cell1
 have c2:=hF.drew.lk.raw.cell2
 have c3:=hF.lk.raw.cell3
 have t0:=hF.drew.lk.raw.tk0 hk
 have t1:=hF.drew.lk.raw.tk1 hk
 rw [hd] at t0
 have hog:ogf f.pc f.oth k=f.oth k:=by unfold ogf;rw [hd];rfl
 have cN:=fl_number Z.drew k (by omega)
 rw [hog] at t1
 have cG:=fl_locked hF.drew.drew.lk (f.oth k) (f.oth k-1) bo rfl
 have cA:=pstore_any hF.drew.drew.lk.port u (L.lk (f.oth k-1)) 0 (by omega) (by omega) hD
 have HE:=Lib.hid (And.intro h (And.intro hk (And.intro (And.intro hs hd) hF)))
 have HO:=Lib.hid hog
 have HI:=Lib.hid (And.intro h.raw.inv (And.intro bo kn))
 have hkI:(k:Int)<f.s.n:=by omega
 clear h hF bo a0 a1 a2 hog hs hd kn
 go_enter func163,ntmps163
 go_wp2
 rw [←hZ]
 clear hZ
 go_region_held3 (λw'=>w'.cell? ⟨L.lb,3,none⟩=some (.slice (some ⟨L.tb,0,none⟩) f.s.n f.s.n)) (exact c3) (first|(go_at_call 165;(with_reducible refine cN.mono ?_);rintro e w' ⟨rfl,rfl⟩))
 go_wp2
 go_region_held3 (λw'=>w'.cell? ⟨L.lb,1,none⟩=some (.pointer (some ⟨L.q.p,0,none⟩))∧w'.cell? ⟨L.tb,k*2+1,none⟩=some (.int .u32 (f.oth k))) (first|exact ⟨c1,t1⟩|exact ⟨d1,y1⟩) (first|(go_at_call 168;(with_reducible refine cG.mono ?_);rintro e w' ⟨rfl,rfl⟩)|(go_at_call 98;(with_reducible refine cA.mono ?_);intro e w2 hq;unfold AccPost at hq;obtain ⟨rfl,hP,hW⟩:=hq;have hA:=HE.out.2.2.2.drew.drew.lk.ports hP hW;have hA3:=Fr.call HE.out.1 HE.out.2.2.2.drew.drew hA (lf_q hW);have d1:=hA.raw.cell1;have d2:=hA.raw.cell2;have y0:=hA.raw.tk0 HE.out.2.1;have y1:=hA.raw.tk1 HE.out.2.1;rw [HO.out] at y1;have HA:=Lib.hid hA3;have cE:=fl_ends hA k HE.out.2.1 3;clear hA hA3 hP hW))
 go_wp2_with (first|(go_at_call 169;(with_reducible refine cE.mono ?_);intro e w3 hq;unfold LkPost at hq;obtain ⟨rfl,hB,hW2⟩:=hq;dsimp only [Dd.val];have hB3:=Fr.call HE.out.1 HA.out hB hW2;obtain ⟨v0,v1,v2,v3⟩:=hB3.cell;obtain ⟨x0,x1,x2,x3⟩:=hB3.frz;have HT:=Lib.hid hB3;clear hB hB3 hW2))
 refine bodyPost_ret (v:=Dd.val ⟨3,false,false,false⟩) (results_cell_row rfl _ _ w.heap.size 102 _ (0,0) _ rfl (set4 HT.out.res rfl _ _ _ _) underlying102 rfl i_did) rfl (HT.out.told HE.out.1 ⟨3,false,false,false⟩)
theorem fl_rel {w:World} {L:Lp} {f:FL} (h:LkAt w L f) (k:Nat) (hk:k<f.s.n) (u:Int) (hs:f.s.st k=3) (hD:f.ps.D.length<4611686018427387904):
  Calls prog 163 #[.pointer (some ⟨L.lb,0,none⟩),.int .i64 (k:Int),.int .i64 u] w (LkPost w L (f.rel L k u) (f.relD L k u).val):=by
 have hr:=(h.raw.rng k).1
 have hi:=(h.raw.inv k (by rw [hs];decide)).1
 have:f.pc k=0∨f.pc k=1∨f.pc k=2∨f.pc k=3:=by omega
 rcases this with hd|hd|hd|hd
 ·exact fl_rel0 h k hk u hs hd hD
 ·exact fl_rel1 h k hk u hs hd hD
 ·exact fl_rel2 h k hk u hs hd hD
 ·exact fl_rel3 h k hk u hs hd hD
theorem fl_ask {w:World} {L:Lp} {f:FL} (h:LkAt w L f) (k:Nat) (hk:k<f.s.n) (u:Int) (hD:f.ps.D.length<4611686018427387904):
  Calls prog 164 #[.pointer (some ⟨L.lb,0,none⟩),.int .i64 (k:Int),.int .i64 u] w (LkPost w L (f.ask L k u) (f.askD L k u).val):=by
 unfold FL.ask FL.askD
 have hF:=Fr.start h
 obtain ⟨Z,hZ⟩:∃ Z,Z=w.alloc (.cells #[.int .i64 0,.bool false,.bool false,.bool false] 102):=⟨_,rfl⟩
 rw [←hZ] at hF
 have hn64:=h.raw.seat.n2
 have kn:0≤(k:Int)+1∧(k:Int)+1<4294967296:=by omega
 have c1:=hF.lk.raw.cell1
 have cN:=fl_number Z.drew k (by omega)
 have cG:=fl_next hF.drew.lk ((k:Int)+1) k kn (by omega)
 have cA:=pload_any hF.drew.lk.port u (L.nx k) hD
 generalize tellS f.ps u 1 (L.nx k)=v at*
 have HE:=Lib.hid (And.intro h (And.intro hk hF))
 clear h hF kn
 by_cases hx:v=0
 ·rw [if_pos hx]
  subst hx
  go_enter func164,ntmps164
  go_wp2
  rw [←hZ]
  clear hZ
  go_region_held3 (λw'=>w'.cell? ⟨L.lb,1,none⟩=some (.pointer (some ⟨L.q.p,0,none⟩))) (first|exact c1|exact d1) (first|(go_at_call 165;(with_reducible refine cN.mono ?_);rintro e w' ⟨rfl,rfl⟩)|(go_at_call 166;(with_reducible refine cG.mono ?_);rintro e w' ⟨rfl,rfl⟩)|(go_at_call 85;(with_reducible refine cA.mono ?_);intro e w2 hq;unfold AccPost at hq;obtain ⟨rfl,hP,hW⟩:=hq;have hA:=HE.out.2.2.drew.lk.ports hP hW;have hA3:=Fr.call HE.out.1 HE.out.2.2.drew hA (lf_q hW);have d1:=hA.raw.cell1;have d2:=hA.raw.cell2;obtain ⟨v0,v1,v2,v3⟩:=hA3.cell;obtain ⟨x0,x1,x2,x3⟩:=hA3.frz;have HT:=Lib.hid hA3;clear hA hA3 hP hW))
  go_wp2
  refine bodyPost_ret (v:=Dd.val ⟨4,false,false,false⟩) (results_cell_row rfl _ _ w.heap.size 102 _ (0,0) _ rfl (set4 HT.out.res rfl _ _ _ _) underlying102 rfl i_did) rfl (HT.out.told HE.out.1 ⟨4,false,false,false⟩)
 ·rw [if_neg hx]
  have b1:(v != 0)=true:=by simpa [bne,BEq.beq] using hx
  clear hx
  go_enter func164,ntmps164
  go_wp2
  rw [←hZ]
  clear hZ
  go_region_held3 (λw'=>w'.cell? ⟨L.lb,1,none⟩=some (.pointer (some ⟨L.q.p,0,none⟩))) (first|exact c1|exact d1) (first|(go_at_call 165;(with_reducible refine cN.mono ?_);rintro e w' ⟨rfl,rfl⟩)|(go_at_call 166;(with_reducible refine cG.mono ?_);rintro e w' ⟨rfl,rfl⟩)|(go_at_call 85;(with_reducible refine cA.mono ?_);intro e w2 hq;unfold AccPost at hq;obtain ⟨rfl,hP,hW⟩:=hq;have hA:=HE.out.2.2.drew.lk.ports hP hW;have hA3:=Fr.call HE.out.1 HE.out.2.2.drew hA (lf_q hW);have d1:=hA.raw.cell1;have d2:=hA.raw.cell2;obtain ⟨v0,v1,v2,v3⟩:=hA3.cell;obtain ⟨x0,x1,x2,x3⟩:=hA3.frz;have HT:=Lib.hid hA3;clear hA hA3 hP hW))
  go_wp2
  refine bodyPost_ret (v:=Dd.val ⟨5,false,false,false⟩) (results_cell_row rfl _ _ w.heap.size 102 _ (0,0) _ rfl (set4 HT.out.res rfl _ _ _ _) underlying102 rfl i_did) rfl (HT.out.told HE.out.1 ⟨5,false,false,false⟩)
open _root_.Go.Proofs.Tryz Go.Deep
theorem FL.mid_k (f:FL) (L:Lp) (t u:Int):∀ j:Nat,(j:Int)=t→(f.mid L t u).s.st j=1→(f.did L t u).ev≠0→(f.mid L t u).pc j=0:=by
 intro j hj h1 hd
 rw [f.mid_s] at h1
 subst hj
 unfold FL.did at hd
 unfold FL.mid
 by_cases hr:0≤(j:Int)∧(j:Int)<f.s.n
 ·rw [if_pos hr,Int.toNat_natCast,if_pos h1] at hd ⊢
  unfold FL.acqD at hd
  unfold FL.acq
  by_cases p0:f.pc j=0
  ·rw [if_pos p0] at hd;exact absurd rfl hd
  rw [if_neg p0] at hd ⊢
  by_cases p1:f.pc j=1
  ·rw [if_pos p1] at hd ⊢
   by_cases q:tellS f.ps u 3 L.a1=0
   ·rw [if_pos q];exact upd_same _ _ _
   ·rw [if_neg q] at hd;exact absurd rfl hd
  rw [if_neg p1] at hd ⊢
  by_cases p2:f.pc j=2
  ·rw [if_pos p2] at hd;exact absurd rfl hd
  rw [if_neg p2] at hd ⊢
  by_cases p3:f.pc j=3
  ·rw [if_pos p3] at hd;exact absurd rfl hd
  rw [if_neg p3] at hd ⊢
  by_cases q:tellS f.ps u 1 (L.lk j)=0
  ·rw [if_pos q];exact upd_same _ _ _
  ·rw [if_neg q] at hd;exact absurd rfl hd
 ·rw [if_neg hr] at hd;exact absurd rfl hd
structure Fd (w:World) (B:Nat) (X:World) (L:Lp) (f:FL) (C:Nat) (d:Dd):Prop where
 fr:Fr w B X L f
 did:X.heap[C]? =some (.cells (didC d) 102 (0,0))
 far:w.heap.size≤C
 ne:C≠B
theorem Fd.cell {w X:World} {B C:Nat} {L:Lp} {f:FL} {d:Dd} (h:Fd w B X L f C d):X.cell? ⟨C,0,none⟩=some (.int .i64 d.ev)∧X.cell? ⟨C,1,none⟩=some (.bool d.enq)∧X.cell? ⟨C,2,none⟩=some (.bool d.arr)∧X.cell? ⟨C,3,none⟩=some (.bool d.lead):=by
 rw [blk_cell h.did,blk_cell h.did,blk_cell h.did,blk_cell h.did];exact ⟨rfl,rfl,rfl,rfl⟩
theorem Fd.frz {w X:World} {B C:Nat} {L:Lp} {f:FL} {d:Dd} (h:Fd w B X L f C d):X.frozen? ⟨C,0,none⟩=false∧X.frozen? ⟨C,1,none⟩=false∧X.frozen? ⟨C,2,none⟩=false∧X.frozen? ⟨C,3,none⟩=false:=
 ⟨blk_frozen h.did 0,blk_frozen h.did 1,blk_frozen h.did 2,blk_frozen h.did 3⟩
theorem Fd.call {w X Y:World} {B C:Nat} {L:Lp} {f g f0:FL} {d:Dd} (h0:LkAt w L f0) (h:Fd w B X L f C d) (hl:LkAt Y L g) (k:Wr (LF L) X Y):Fd w B Y L g C d:=
 ⟨Fr.call h0 h.fr hl k,(k.block C (blk_lt h.did) (λe=>by have:=h0.lf_lt e;have:=h.far;omega)).trans h.did,h.far,h.ne⟩
theorem Fd.keep {w X:World} {B C:Nat} {L:Lp} {f f0:FL} {d:Dd} (h0:LkAt w L f0) (h:Fd w B X L f C d) (d':Dd):
  Fd w B ((((X.setCell ⟨C,0,none⟩ (.int .i64 d'.ev)).setCell ⟨C,1,none⟩ (.bool d'.enq)).setCell ⟨C,2,none⟩ (.bool d'.arr)).setCell ⟨C,3,none⟩ (.bool d'.lead)) L f C d':=by
 have k:=wrote4 X C (.int .i64 d'.ev) (.bool d'.enq) (.bool d'.arr) (.bool d'.lead)
 have hf:=h.far
 have hC:∀ j,j<w.heap.size→¬ One C j:=λj hj e=>by cases e;omega
 refine ⟨⟨h.fr.lk.wrote k (hC _ (blk_lt h0.raw.obj)) (hC _ (blk_lt h0.raw.seat.obj)) (hC _ (blk_lt h0.raw.seat.ctx)) (hC _ (blk_lt h0.raw.tick)) (λb _ b2=>hC b (Nat.lt_of_lt_of_le b2 h0.top)),h.fr.wr.trans k λb hb e=>(hC b hb e).elim,(k.block B (blk_lt h.fr.res) λe=>h.ne e.symm).trans h.fr.res,h.fr.new⟩,set4 h.did rfl _ _ _ _,h.far,h.ne⟩
theorem Fd.ends {w X Y:World} {B C:Nat} {L:Lp} {f g:FL} {d:Dd} (h0:LkAt w L f) (h:Fd w B X L g C d) {s':SS} (hS:SeatAt Y L.p L.b s') (hn:g.s.Kp s' g.pc) (k:Wr (One L.b) X Y):Fd w B Y L {g with s:=s'} C d:=
 h.call h0 (h.fr.lk.seats hS hn k) (lf_b k)
theorem hs_start {w:World} {L:Lp} {f:FL} (h:LkAt w L f) (cs:Array Value):
  Fd w (w.heap.size+1) (((w.alloc (.cells cs 229)).alloc (.cells #[.int .i64 0,.bool false,.bool false,.bool false] 102)).alloc (.cells #[.int .i64 0,.bool false,.bool false,.bool false] 102)) L f (w.heap.size+1+1) Dd.no∧
  (((w.alloc (.cells cs 229)).alloc (.cells #[.int .i64 0,.bool false,.bool false,.bool false] 102)).alloc (.cells #[.int .i64 0,.bool false,.bool false,.bool false] 102)).heap[w.heap.size]? =some (.cells cs 229 (0,0)):=by
 have e1:(w.alloc (.cells cs 229)).heap.size=w.heap.size+1:=nblk_alloc _ _
 have e2:((w.alloc (.cells cs 229)).alloc (.cells #[.int .i64 0,.bool false,.bool false,.bool false] 102)).heap.size=w.heap.size+1+1:=by rw [nblk_alloc,e1]
 have k:Wr Nil w (((w.alloc (.cells cs 229)).alloc (.cells #[.int .i64 0,.bool false,.bool false,.bool false] 102)).alloc (.cells #[.int .i64 0,.bool false,.bool false,.bool false] 102)):=(((Wr.refl _ w).alloc _).alloc _).alloc _
 refine ⟨⟨⟨h.after k,k.mono λ_ _ e=>e.elim,?_,Nat.le_succ _⟩,?_,by omega,by omega⟩,?_⟩
 ·rw [blk_alloc_lt _ _ _ (by rw [e2];omega),←e1,blk_alloc_new];rfl
 ·rw [←e2,blk_alloc_new];rfl
 ·rw [blk_alloc_lt _ _ _ (by rw [e2];omega),blk_alloc_lt _ _ _ (by rw [e1];omega),blk_alloc_new]
theorem hs_step {w:World} {L:Lp} {f:FL} (h:LkAt w L f) (t u:Int) (hD:f.ps.D.length<4611686018427387904):
  Calls prog 136 #[.pointer (some ⟨L.p,0,none⟩),.int .i64 t,.int .i64 u,.agg #[Value.func (.func 162) #[.pointer (some ⟨L.lb,0,none⟩)] #[],Value.func (.func 163) #[.pointer (some ⟨L.lb,0,none⟩)] #[],Value.func (.func 164) #[.pointer (some ⟨L.lb,0,none⟩)] #[]]] w (LkPost w L (f.step L t u) (f.did L t u).val):=by
 obtain ⟨hF,hB⟩:=hs_start h #[Value.func (.func 162) #[.pointer (some ⟨L.lb,0,none⟩)] #[],Value.func (.func 163) #[.pointer (some ⟨L.lb,0,none⟩)] #[],Value.func (.func 164) #[.pointer (some ⟨L.lb,0,none⟩)] #[]]
 obtain ⟨Z,hZ⟩:∃ Z,Z=((w.alloc (.cells #[Value.func (.func 162) #[.pointer (some ⟨L.lb,0,none⟩)] #[],Value.func (.func 163) #[.pointer (some ⟨L.lb,0,none⟩)] #[],Value.func (.func 164) #[.pointer (some ⟨L.lb,0,none⟩)] #[]] 229)).alloc (.cells #[.int .i64 0,.bool false,.bool false,.bool false] 102)).alloc (.cells #[.int .i64 0,.bool false,.bool false,.bool false] 102):=⟨_,rfl⟩
 rw [←hZ] at hF hB
 have b0:Z.cell? ⟨w.heap.size,0,none⟩=some (Value.func (.func 162) #[.pointer (some ⟨L.lb,0,none⟩)] #[]):=(blk_cell hB 0).trans rfl
 have b1:Z.cell? ⟨w.heap.size,1,none⟩=some (Value.func (.func 163) #[.pointer (some ⟨L.lb,0,none⟩)] #[]):=(blk_cell hB 1).trans rfl
 have b2:Z.cell? ⟨w.heap.size,2,none⟩=some (Value.func (.func 164) #[.pointer (some ⟨L.lb,0,none⟩)] #[]):=(blk_cell hB 2).trans rfl
 have cS:=se_state hF.fr.lk.raw.seat t
 obtain ⟨v0,v1,v2,v3⟩:=hF.fr.cell
 obtain ⟨x0,x1,x2,x3⟩:=hF.fr.frz
 obtain ⟨p0,p1,p2,p3⟩:=hF.cell
 have hn:=h.raw.seat.n2
 by_cases ht:0≤t∧t<f.s.n
 ·obtain ⟨k,rfl⟩:=Int.eq_ofNat_of_zero_le ht.1
  have hk:k<f.s.n:=by omega
  have eS:f.s.stI (k:Int)=f.s.st k:=by unfold SS.stI;rw [if_pos ht,Int.toNat_natCast]
  rw [eS] at cS
  by_cases h1:f.s.st k=1
  ·have e1:f.mid L k u=f.acq L k u:=by unfold FL.mid;rw [if_pos ht,Int.toNat_natCast,if_pos h1]
   have e2:f.did L k u=f.acqD L k u:=by unfold FL.did;rw [if_pos ht,Int.toNat_natCast,if_pos h1]
   have es:=f.mid_s L k u
   have ek:=f.mid_k L k u
   unfold FL.step
   rw [e1] at es
   rw [e1,e2] at ek
   rw [e1,e2]
   rw [h1] at cS
   have cA:=fl_acq hF.fr.lk k hk u h1 hD
   generalize f.acq L k u=g at*
   generalize f.acqD L k u=d at*
   have HE:=Lib.hid (And.intro h (And.intro hF (And.intro es ek)))
   have HZ:=Lib.hid hZ
   clear h hF eS e1 e2 hB es ek hZ h1
   generalize f.s.n=n at*
   go_enter func136,ntmps136
   go_wp2_with (first
    |(go_at_call 129;rw [←HZ.out];(with_reducible refine cS.mono ?_);rintro e w' ⟨rfl,rfl⟩)
    |(go_at_call 162;(with_reducible refine cA.mono ?_);intro e w2 hq;unfold LkPost at hq;obtain ⟨rfl,hA,hW⟩:=hq;dsimp only [Dd.val];have hA3:=HE.out.2.1.call HE.out.1 hA hW;obtain ⟨p0,p1,p2,p3⟩:=hA3.cell;obtain ⟨y0,y1,y2,y3⟩:=hA3.frz;have hK:=hA3.keep HE.out.1 d;have cE:=se_end hK.fr.lk.raw.seat (k:Int) d.ev;have HK:=Lib.hid hK;clear hA hA3 hK hW)
    |(go_at_call 140;(with_reducible refine cE.mono ?_);intro e w3 hq;unfold SeatPost at hq;obtain ⟨rfl,hS,hW⟩:=hq;have hY:=HK.out.ends HE.out.1 hS (SS.fin_k _ _ _ _ HE.out.2.2.2) hW;obtain ⟨e0,e1,e2,e3⟩:=hY.cell;obtain ⟨v0,v1,v2,v3⟩:=hY.fr.cell;obtain ⟨x0,x1,x2,x3⟩:=hY.fr.frz;have HT:=Lib.hid hY;clear hY hS hW))
   rw [←HE.out.2.2.1]
   refine bodyPost_ret (v:=Dd.val d) (results_cell_row rfl _ _ (w.heap.size+1) 102 _ (0,0) _ rfl (set4 HT.out.fr.res rfl _ _ _ _) underlying102 rfl i_did) rfl (HT.out.fr.told HE.out.1 d)
  by_cases h3:f.s.st k=3
  ·have e1:f.mid L k u=f.rel L k u:=by unfold FL.mid;rw [if_pos ht,Int.toNat_natCast,if_neg h1,if_pos h3]
   have e2:f.did L k u=f.relD L k u:=by unfold FL.did;rw [if_pos ht,Int.toNat_natCast,if_neg h1,if_pos h3]
   have es:=f.mid_s L k u
   have ek:=f.mid_k L k u
   unfold FL.step
   rw [e1] at es
   rw [e1,e2] at ek
   rw [e1,e2]
   rw [h3] at cS
   have cA:=fl_rel hF.fr.lk k hk u h3 hD
   generalize f.rel L k u=g at*
   generalize f.relD L k u=d at*
   have HE:=Lib.hid (And.intro h (And.intro hF (And.intro es ek)))
   have HZ:=Lib.hid hZ
   clear h hF eS e1 e2 hB es ek hZ h1 h3
   generalize f.s.n=n at*
   go_enter func136,ntmps136
   go_wp2_with (first
    |(go_at_call 129;rw [←HZ.out];(with_reducible refine cS.mono ?_);rintro e w' ⟨rfl,rfl⟩)
    |(go_at_call 163;(with_reducible refine cA.mono ?_);intro e w2 hq;unfold LkPost at hq;obtain ⟨rfl,hA,hW⟩:=hq;dsimp only [Dd.val];have hA3:=HE.out.2.1.call HE.out.1 hA hW;obtain ⟨p0,p1,p2,p3⟩:=hA3.cell;obtain ⟨y0,y1,y2,y3⟩:=hA3.frz;have hK:=hA3.keep HE.out.1 d;have cE:=se_end hK.fr.lk.raw.seat (k:Int) d.ev;have HK:=Lib.hid hK;clear hA hA3 hK hW)
    |(go_at_call 140;(with_reducible refine cE.mono ?_);intro e w3 hq;unfold SeatPost at hq;obtain ⟨rfl,hS,hW⟩:=hq;have hY:=HK.out.ends HE.out.1 hS (SS.fin_k _ _ _ _ HE.out.2.2.2) hW;obtain ⟨e0,e1,e2,e3⟩:=hY.cell;obtain ⟨v0,v1,v2,v3⟩:=hY.fr.cell;obtain ⟨x0,x1,x2,x3⟩:=hY.fr.frz;have HT:=Lib.hid hY;clear hY hS hW))
   rw [←HE.out.2.2.1]
   refine bodyPost_ret (v:=Dd.val d) (results_cell_row rfl _ _ (w.heap.size+1) 102 _ (0,0) _ rfl (set4 HT.out.fr.res rfl _ _ _ _) underlying102 rfl i_did) rfl (HT.out.fr.told HE.out.1 d)
  by_cases h4:f.s.st k=4
  ·have e1:f.mid L k u=f.ask L k u:=by unfold FL.mid;rw [if_pos ht,Int.toNat_natCast,if_neg h1,if_neg h3,if_pos h4]
   have e2:f.did L k u=f.askD L k u:=by unfold FL.did;rw [if_pos ht,Int.toNat_natCast,if_neg h1,if_neg h3,if_pos h4]
   have es:=f.mid_s L k u
   have ek:=f.mid_k L k u
   unfold FL.step
   rw [e1] at es
   rw [e1,e2] at ek
   rw [e1,e2]
   rw [h4] at cS
   have cA:=fl_ask hF.fr.lk k hk u hD
   generalize f.ask L k u=g at*
   generalize f.askD L k u=d at*
   have HE:=Lib.hid (And.intro h (And.intro hF (And.intro es ek)))
   have HZ:=Lib.hid hZ
   clear h hF eS e1 e2 hB es ek hZ h1 h3 h4
   generalize f.s.n=n at*
   go_enter func136,ntmps136
   go_wp2_with (first
    |(go_at_call 129;rw [←HZ.out];(with_reducible refine cS.mono ?_);rintro e w' ⟨rfl,rfl⟩)
    |(go_at_call 164;(with_reducible refine cA.mono ?_);intro e w2 hq;unfold LkPost at hq;obtain ⟨rfl,hA,hW⟩:=hq;dsimp only [Dd.val];have hA3:=HE.out.2.1.call HE.out.1 hA hW;obtain ⟨p0,p1,p2,p3⟩:=hA3.cell;obtain ⟨y0,y1,y2,y3⟩:=hA3.frz;have hK:=hA3.keep HE.out.1 d;have cE:=se_end hK.fr.lk.raw.seat (k:Int) d.ev;have HK:=Lib.hid hK;clear hA hA3 hK hW)
    |(go_at_call 140;(with_reducible refine cE.mono ?_);intro e w3 hq;unfold SeatPost at hq;obtain ⟨rfl,hS,hW⟩:=hq;have hY:=HK.out.ends HE.out.1 hS (SS.fin_k _ _ _ _ HE.out.2.2.2) hW;obtain ⟨e0,e1,e2,e3⟩:=hY.cell;obtain ⟨v0,v1,v2,v3⟩:=hY.fr.cell;obtain ⟨x0,x1,x2,x3⟩:=hY.fr.frz;have HT:=Lib.hid hY;clear hY hS hW))
   rw [←HE.out.2.2.1]
   refine bodyPost_ret (v:=Dd.val d) (results_cell_row rfl _ _ (w.heap.size+1) 102 _ (0,0) _ rfl (set4 HT.out.fr.res rfl _ _ _ _) underlying102 rfl i_did) rfl (HT.out.fr.told HE.out.1 d)
  have e1:f.mid L k u=f:=by unfold FL.mid;rw [if_pos ht,Int.toNat_natCast,if_neg h1,if_neg h3,if_neg h4]
  have e2:f.did L k u=Dd.no:=by unfold FL.did;rw [if_pos ht,Int.toNat_natCast,if_neg h1,if_neg h3,if_neg h4]
  have ek:=f.mid_k L k u
  rw [e1,e2] at ek
  have hK:=hF
  have cE:=se_end hK.fr.lk.raw.seat (k:Int) Dd.no.ev
  have HE:=Lib.hid (And.intro h (And.intro hF ek))
  have HK:=Lib.hid hK
  have HZ:=Lib.hid hZ
  unfold FL.step
  rw [e1,e2]
  clear h hF hK eS e1 e2 ek hB hZ b0 b1 b2
  generalize f.s.st k=x at*
  generalize f.s.n=n at*
  go_enter func136,ntmps136
  go_wp2_with (first
   |(go_at_call 129;rw [←HZ.out];(with_reducible refine cS.mono ?_);rintro e w' ⟨rfl,rfl⟩)
   |(go_at_call 140;(with_reducible refine cE.mono ?_);intro e w3 hq;unfold SeatPost at hq;obtain ⟨rfl,hS,hW⟩:=hq;have hY:=HK.out.ends HE.out.1 hS (SS.fin_k _ _ _ _ HE.out.2.2) hW;obtain ⟨e0,e1,e2,e3⟩:=hY.cell;obtain ⟨v0,v1,v2,v3⟩:=hY.fr.cell;obtain ⟨x0,x1,x2,x3⟩:=hY.fr.frz;have HT:=Lib.hid hY;clear hY hS hW))
  refine bodyPost_ret (v:=Dd.val Dd.no) (results_cell_row rfl _ _ (w.heap.size+1) 102 _ (0,0) _ rfl (set4 HT.out.fr.res rfl _ _ _ _) underlying102 rfl i_did) rfl (HT.out.fr.told HE.out.1 Dd.no)
 ·have eS:f.s.stI t=0:=if_neg ht
  rw [eS] at cS
  have e1:f.mid L t u=f:=by unfold FL.mid;rw [if_neg ht]
  have e2:f.did L t u=Dd.no:=by unfold FL.did;rw [if_neg ht]
  have ek:=f.mid_k L t u
  rw [e1,e2] at ek
  have hK:=hF
  have cE:=se_end hK.fr.lk.raw.seat t Dd.no.ev
  have HE:=Lib.hid (And.intro h (And.intro hF ek))
  have HK:=Lib.hid hK
  have HZ:=Lib.hid hZ
  unfold FL.step
  rw [e1,e2]
  clear h hF hK eS e1 e2 ek hB hZ b0 b1 b2 ht
  go_enter func136,ntmps136
  go_wp2_with (first
   |(go_at_call 129;rw [←HZ.out];(with_reducible refine cS.mono ?_);rintro e w' ⟨rfl,rfl⟩)
   |(go_at_call 140;(with_reducible refine cE.mono ?_);intro e w3 hq;unfold SeatPost at hq;obtain ⟨rfl,hS,hW⟩:=hq;have hY:=HK.out.ends HE.out.1 hS (SS.fin_k _ _ _ _ HE.out.2.2) hW;obtain ⟨e0,e1,e2,e3⟩:=hY.cell;obtain ⟨v0,v1,v2,v3⟩:=hY.fr.cell;obtain ⟨x0,x1,x2,x3⟩:=hY.fr.frz;have HT:=Lib.hid hY;clear hY hS hW))
  refine bodyPost_ret (v:=Dd.val Dd.no) (results_cell_row rfl _ _ (w.heap.size+1) 102 _ (0,0) _ rfl (set4 HT.out.fr.res rfl _ _ _ _) underlying102 rfl i_did) rfl (HT.out.fr.told HE.out.1 Dd.no)
theorem fl_step {w:World} {L:Lp} {f:FL} (h:LkAt w L f) (t u x:Int) (hD:f.ps.D.length<4611686018427387904):
  Calls prog 160 #[.pointer (some ⟨L.lb,0,none⟩),.int .i64 t,.int .i64 u,.int .i64 x] w (LkPost w L (f.step L t u) (f.did L t u).val):=by
 have hF:=Fr.start h
 obtain ⟨Z,hZ⟩:∃ Z,Z=w.alloc (.cells #[.int .i64 0,.bool false,.bool false,.bool false] 102):=⟨_,rfl⟩
 rw [←hZ] at hF
 have cM:=hs_step hF.lk t u hD
 have c0:=hF.lk.raw.cell0
 rw [hZ] at c0
 generalize f.step L t u=g at*
 generalize f.did L t u=d at*
 have HE:=Lib.hid (And.intro h hF)
 have HZ:=Lib.hid hZ
 clear h hF hZ
 go_enter func160,ntmps160
 go_wp2_with (first
  |(go_at_call 136;rw [←HZ.out];(with_reducible refine cM.mono ?_);intro e w2 hq;unfold LkPost at hq;obtain ⟨rfl,hA,hW⟩:=hq;dsimp only [Dd.val];have hA3:=Fr.call HE.out.1 HE.out.2 hA hW;obtain ⟨v0,v1,v2,v3⟩:=hA3.cell;obtain ⟨x0,x1,x2,x3⟩:=hA3.frz;have HT:=Lib.hid hA3;clear hA hA3 hW))
 refine bodyPost_ret (v:=Dd.val d) (results_cell_row rfl _ _ w.heap.size 102 _ (0,0) _ rfl (set4 HT.out.res rfl _ _ _ _) underlying102 rfl i_did) rfl (HT.out.told HE.out.1 d)
end Go.Proofs.YtmnephejhkfchaaGreat.Km
