
import Derived.Test.YtmnephejhkfchaaGreatCoVia
import Derived.Test.YtmnephejhkfchaaGreatPack
import Derived.Deep.RegionHeld3
namespace Go.Proofs.YtmnephejhkfchaaGreat.Ks
open _root_.Go.Proofs.Tryz
open Go.RowKit
set_option linter.unusedVariables false
set_option maxRecDepth 100000
structure FL where
 s:SS
 sz:Nat
 pc:Nat→Int
 own:Nat→Int
 ps:PSta
structure Lp where
 lb:Nat
 p:Nat
 b:Nat
 tb:Nat
 a1:Int
 a2:Int
 q:Place
 hs:List Int
def FL.acq (f:FL) (L:Lp) (t:Nat) (u:Int):FL:=
 if f.pc t=0 then {f with pc:=upd f.pc t 1,own:=upd f.own t (tellS f.ps u 5 L.a1%f.sz),ps:=doS f.ps u 5 L.a1 0 1}
 else if f.pc t=1 then (if tellS f.ps u 1 (L.a2+f.own t)=0 then {f with ps:=doS f.ps u 1 (L.a2+f.own t) 0 0} else {f with pc:=upd f.pc t 2,ps:=doS f.ps u 1 (L.a2+f.own t) 0 0})
 else {f with ps:=doS f.ps u 2 (L.a2+f.own t) 0 0}
def FL.acqD (f:FL) (L:Lp) (t:Nat) (u:Int):Dd:=if f.pc t=0 then ⟨0,true,false,false⟩ else if f.pc t=1 then Dd.no else ⟨1,false,false,false⟩
def FL.rel (f:FL) (L:Lp) (t:Nat) (u:Int):FL:={f with pc:=upd f.pc t 0,own:=upd f.own t 0,ps:=doS f.ps u 2 (L.a2+(f.own t+1)%f.sz) 0 1}
def FL.mid (f:FL) (L:Lp) (t u:Int):FL:=if 0≤t∧t<f.s.n then (if f.s.st t.toNat=1 then f.acq L t.toNat u else if f.s.st t.toNat=3 then f.rel L t.toNat u else f) else f
def FL.did (f:FL) (L:Lp) (t u:Int):Dd:=if 0≤t∧t<f.s.n then (if f.s.st t.toNat=1 then f.acqD L t.toNat u else if f.s.st t.toNat=3 then ⟨3,false,false,false⟩ else Dd.no) else Dd.no
def FL.step (f:FL) (L:Lp) (t u:Int):FL:={f.mid L t u with s:=f.s.fin t (f.did L t u).ev}
def FL.lock (f:FL) (t d:Int):FL:={f with s:=f.s.lock t d}
def FL.turn (f:FL) (t x:Int):FL:={f with s:=f.s.turn t x}
theorem FL.acq_s (f:FL) (L:Lp) (t:Nat) (u:Int):(f.acq L t u).s=f.s:=by unfold FL.acq;repeat' split<;>try rfl
theorem FL.mid_s (f:FL) (L:Lp) (t u:Int):(f.mid L t u).s=f.s:=by
 unfold FL.mid
 repeat' split
 ·exact f.acq_s L _ u
 all_goals rfl
def tkC (pc own:Nat→Int) (t:Nat):List Value:=[.int .i64 (pc t),.int .i64 (own t)]
theorem tkC_len (pc own:Nat→Int):∀ x,(tkC pc own x).length=2:=λ_=>rfl
def tks (n:Nat) (pc own:Nat→Int):List Value:=(List.range n).flatMap (tkC pc own)
theorem tks_at (n:Nat) (pc own:Nat→Int) {k:Nat} (hk:k<n) {j:Nat} (hj:j<2):(tks n pc own)[k*2+j]? =(tkC pc own k)[j]? :=flat_at' (tkC_len pc own) _ (by rw [List.getElem?_range hk]) hj
def _root_.Go.Proofs.YtmnephejhkfchaaGreat.SS.NpS (s:SS):Prop:=s.probed=false∧∀ k,s.st k≠4
def _root_.Go.Proofs.YtmnephejhkfchaaGreat.SS.KeS (s s':SS):Prop:=s'.n=s.n∧(s.NpS→s'.NpS)
theorem _root_.Go.Proofs.YtmnephejhkfchaaGreat.SS.set_npS {s:SS} (h:s.NpS) (k:Nat) (x d:Int) (hx:x≠4):(s.set k x d).NpS:=by
 refine ⟨h.1,λj=> ?_⟩
 show upd s.st k x j≠4
 by_cases e:j=k
 ·subst e;rw [upd_same];exact hx
 ·rw [upd_other _ _ e];exact h.2 j
theorem _root_.Go.Proofs.YtmnephejhkfchaaGreat.SS.lock_kS (s:SS) (t d:Int):s.KeS (s.lock t d):=by
 refine ⟨s.lock_n t d,λh=> ?_⟩
 unfold SS.lock
 split
 ·exact SS.set_npS h _ _ _ (by decide)
 ·exact h
theorem _root_.Go.Proofs.YtmnephejhkfchaaGreat.SS.turn_kS (s:SS) (t x:Int) (hx:x≠4):s.KeS (s.turn t x):=by
 refine ⟨s.turn_n t x,λh=> ?_⟩
 unfold SS.turn
 split
 ·exact SS.set_npS h _ _ _ hx
 ·exact h
theorem _root_.Go.Proofs.YtmnephejhkfchaaGreat.SS.fin_kS (s:SS) (t ev:Int):s.KeS (s.fin t ev):=by
 refine ⟨s.fin_n t ev,λh=> ?_⟩
 unfold SS.fin
 split
 ·rename_i y e
  refine SS.set_npS h _ _ _ ?_
  unfold endO behindI at e
  repeat' split at e
  all_goals first|(cases e;decide)|cases e
 ·exact h
structure FlRaw (w:World) (L:Lp) (pv:Value) (s:SS) (sz:Nat) (pc own:Nat→Int):Prop where
 obj:w.heap[L.lb]? =some (.cells #[.pointer (some ⟨L.p,0,none⟩),pv,.int .i64 L.a1,.int .i64 L.a2,.int .i64 (sz:Nat),.slice (some ⟨L.tb,0,none⟩) s.n s.n] 119 (0,0))
 seat:SeatAt w L.p L.b s
 tick:w.heap[L.tb]? =some (.cells (tks s.n pc own).toArray 240 (0,0))
 ne:L.lb≠L.b∧L.lb≠L.tb∧L.p≠L.tb∧L.b≠L.tb∧L.lb≠L.p
 rng:∀ k,(pc k=0∨pc k=1∨pc k=2)∧0≤own k∧own k<sz
 siz:sizeB sz=true
 adr:0≤L.a2∧L.a2≤2000000
 np:s.NpS
namespace FlRaw
variable {w w':World} {L:Lp} {pv:Value} {s:SS} {sz:Nat} {pc own:Nat→Int}
theorem wrote {S:Nat→Prop} (h:FlRaw w L pv s sz pc own) (k:Wr S w w') (h1:¬ S L.lb) (h2:¬ S L.p) (h3:¬ S L.b) (h4:¬ S L.tb):FlRaw w' L pv s sz pc own:=
 ⟨(k.block _ (blk_lt h.obj) h1).trans h.obj,h.seat.wrote k h2 h3,(k.block _ (blk_lt h.tick) h4).trans h.tick,h.ne,h.rng,h.siz,h.adr,h.np⟩
theorem after (h:FlRaw w L pv s sz pc own) (k:Wr Nil w w'):FlRaw w' L pv s sz pc own:=h.wrote k id id id id
theorem seats {s':SS} (h:FlRaw w L pv s sz pc own) (hS:SeatAt w' L.p L.b s') (hk:s.KeS s') (k:Wr (One L.b) w w'):FlRaw w' L pv s' sz pc own:=by
 have hn:=hk.1
 refine ⟨?_,hS,?_,h.ne,h.rng,h.siz,h.adr,hk.2 h.np⟩
 ·rw [hn];exact (k.block _ (blk_lt h.obj) h.ne.1).trans h.obj
 ·rw [hn];exact (k.block _ (blk_lt h.tick) (λe=>h.ne.2.2.2.1 e.symm)).trans h.tick
theorem cell0 (h:FlRaw w L pv s sz pc own):w.cell? ⟨L.lb,0,none⟩=some (.pointer (some ⟨L.p,0,none⟩)):=by rw [blk_cell h.obj];rfl
theorem cell1 (h:FlRaw w L pv s sz pc own):w.cell? ⟨L.lb,1,none⟩=some pv:=by rw [blk_cell h.obj];rfl
theorem cell2 (h:FlRaw w L pv s sz pc own):w.cell? ⟨L.lb,2,none⟩=some (.int .i64 L.a1):=by rw [blk_cell h.obj];rfl
theorem cell3 (h:FlRaw w L pv s sz pc own):w.cell? ⟨L.lb,3,none⟩=some (.int .i64 L.a2):=by rw [blk_cell h.obj];rfl
theorem cell4 (h:FlRaw w L pv s sz pc own):w.cell? ⟨L.lb,4,none⟩=some (.int .i64 (sz:Nat)):=by rw [blk_cell h.obj];rfl
theorem cell5 (h:FlRaw w L pv s sz pc own):w.cell? ⟨L.lb,5,none⟩=some (.slice (some ⟨L.tb,0,none⟩) s.n s.n):=by rw [blk_cell h.obj];rfl
theorem frozen (h:FlRaw w L pv s sz pc own) (k:Nat):w.frozen? ⟨L.lb,k,none⟩=false:=blk_frozen h.obj k
theorem tk0 (h:FlRaw w L pv s sz pc own) {k:Nat} (hk:k<s.n):w.cell? ⟨L.tb,k*2,none⟩=some (.int .i64 (pc k)):=by
 rw [blk_cell h.tick,List.getElem?_toArray]
 exact tks_at s.n pc own hk (j:=0) (by decide)
theorem tk1 (h:FlRaw w L pv s sz pc own) {k:Nat} (hk:k<s.n):w.cell? ⟨L.tb,k*2+1,none⟩=some (.int .i64 (own k)):=by
 rw [blk_cell h.tick,List.getElem?_toArray]
 exact tks_at s.n pc own hk (j:=1) (by decide)
theorem tkz (h:FlRaw w L pv s sz pc own) (k:Nat):w.frozen? ⟨L.tb,k,none⟩=false:=blk_frozen h.tick k
theorem tset0 (h:FlRaw w L pv s sz pc own) {k:Nat} (hk:k<s.n) (x:Int) (hx:x=0∨x=1∨x=2):
  FlRaw (w.setCell ⟨L.tb,k*2,none⟩ (.int .i64 x)) L pv s sz (upd pc k x) own∧Wr (One L.tb) w (w.setCell ⟨L.tb,k*2,none⟩ (.int .i64 x)):=by
 have hW:Wr (One L.tb) w (w.setCell ⟨L.tb,k*2,none⟩ (.int .i64 x)):=(Wr.refl _ w).setCell _ _ λ_=>rfl
 refine ⟨⟨(hW.block _ (blk_lt h.obj) h.ne.2.1).trans h.obj,h.seat.wrote hW h.ne.2.2.1 h.ne.2.2.2.1,?_,h.ne,λj=> ?_,h.siz,h.adr,h.np⟩,hW⟩
 ·rw [blk_setCell h.tick,List.setIfInBounds_toArray]
  congr 3
  refine flat_set (tkC_len pc own) (tkC_len _ _) _ k 0 (by decide) _ λi t ht l hl=> ?_
  obtain ⟨_,rfl⟩:i<s.n∧t=i:=by
   have hi:i<s.n:=by have:=(List.getElem?_eq_some_iff.1 ht).1;simpa using this
   rw [List.getElem?_range hi] at ht
   exact ⟨hi,by simpa using ht.symm⟩
  have:l=0∨l=1:=by omega
  rcases this with rfl|rfl
  ·by_cases e:t=k
   ·subst e;simp [tkC,upd_same]
   ·simp [tkC,upd_other _ _ e,e]
  ·by_cases e:t=k
   ·subst e;simp [tkC]
   ·simp [tkC,e]
 ·by_cases e:j=k
  ·subst e;rw [upd_same];exact ⟨hx,(h.rng j).2⟩
  ·rw [upd_other _ _ e];exact h.rng j
theorem tset1 (h:FlRaw w L pv s sz pc own) {k:Nat} (hk:k<s.n) (y:Int) (hy:0≤y∧y<sz):
  FlRaw (w.setCell ⟨L.tb,k*2+1,none⟩ (.int .i64 y)) L pv s sz pc (upd own k y)∧Wr (One L.tb) w (w.setCell ⟨L.tb,k*2+1,none⟩ (.int .i64 y)):=by
 have hW:Wr (One L.tb) w (w.setCell ⟨L.tb,k*2+1,none⟩ (.int .i64 y)):=(Wr.refl _ w).setCell _ _ λ_=>rfl
 refine ⟨⟨(hW.block _ (blk_lt h.obj) h.ne.2.1).trans h.obj,h.seat.wrote hW h.ne.2.2.1 h.ne.2.2.2.1,?_,h.ne,λj=> ?_,h.siz,h.adr,h.np⟩,hW⟩
 rotate_left
 ·by_cases e:j=k
  ·subst e;rw [upd_same];exact ⟨(h.rng j).1,hy⟩
  ·rw [upd_other _ _ e];exact h.rng j
 rw [blk_setCell h.tick,List.setIfInBounds_toArray]
 congr 3
 refine flat_set (tkC_len pc own) (tkC_len _ _) _ k 1 (by decide) _ λi t ht l hl=> ?_
 obtain ⟨_,rfl⟩:i<s.n∧t=i:=by
  have hi:i<s.n:=by have:=(List.getElem?_eq_some_iff.1 ht).1;simpa using this
  rw [List.getElem?_range hi] at ht
  exact ⟨hi,by simpa using ht.symm⟩
 have:l=0∨l=1:=by omega
 rcases this with rfl|rfl
 ·by_cases e:t=k
  ·subst e;simp [tkC]
  ·simp [tkC,e]
 ·by_cases e:t=k
  ·subst e;simp [tkC,upd_same]
  ·simp [tkC,upd_other _ _ e,e]
theorem tset2 (h:FlRaw w L pv s sz pc own) {k:Nat} (hk:k<s.n) (x y:Int) (hx:x=0∨x=1∨x=2) (hy:0≤y∧y<sz):
  FlRaw ((w.setCell ⟨L.tb,k*2,none⟩ (.int .i64 x)).setCell ⟨L.tb,k*2+1,none⟩ (.int .i64 y)) L pv s sz (upd pc k x) (upd own k y)∧Wr (One L.tb) w ((w.setCell ⟨L.tb,k*2,none⟩ (.int .i64 x)).setCell ⟨L.tb,k*2+1,none⟩ (.int .i64 y)):=by
 obtain ⟨h1,hW1⟩:=h.tset0 hk x hx
 obtain ⟨h2,hW2⟩:=h1.tset1 hk y hy
 exact ⟨h2,hW1.trans hW2 λ_ _ x=>x⟩
theorem use (h:FlRaw w L pv s sz pc own) (v:Value):FlRaw (w.setCell ⟨L.lb,1,none⟩ v) L v s sz pc own:=by
 have hW:Wr (One L.lb) w (w.setCell ⟨L.lb,1,none⟩ v):=(Wr.refl _ w).setCell _ _ λ_=>rfl
 refine ⟨?_,h.seat.wrote hW (λe=>h.ne.2.2.2.2 e.symm) (λe=>h.ne.1 e.symm),(hW.block _ (blk_lt h.tick) (λe=>h.ne.2.1 e.symm)).trans h.tick,h.ne,h.rng,h.siz,h.adr,h.np⟩
 rw [blk_setCell h.obj]
 rfl
theorem place (h:FlRaw w L pv s sz pc own) (q:Place) (hs:List Int):FlRaw w {L with q:=q,hs:=hs} pv s sz pc own:=⟨h.obj,h.seat,h.tick,h.ne,h.rng,h.siz,h.adr,h.np⟩
theorem size_cases (h:FlRaw w L pv s sz pc own):sz=1∨sz=2∨sz=4∨sz=8∨sz=16∨sz=32∨sz=64:=by
 have:=h.siz
 unfold sizeB at this
 have:=of_decide_eq_true this
 omega
end FlRaw
abbrev RawF (w:World) (L:Lp) (pv:Value) (f:FL):Prop:=FlRaw w L pv f.s f.sz f.pc f.own
structure LkAt (w:World) (L:Lp) (f:FL):Prop where
 raw:FlRaw w L (.pointer (some ⟨L.q.p,0,none⟩)) f.s f.sz f.pc f.own
 port:PortAt w L.q L.hs f.ps
 far:L.lb<L.q.k0∧L.p<L.q.k0∧L.b<L.q.k0∧L.tb<L.q.k0
 top:L.q.k3≤w.heap.size
def LF (L:Lp) (k:Nat):Prop:=k=L.b∨k=L.tb∨Rng L.q.k0 L.q.k3 k
namespace LkAt
variable {w w':World} {L:Lp} {f:FL}
theorem wrote {S:Nat→Prop} (h:LkAt w L f) (k:Wr S w w') (h1:¬ S L.lb) (h2:¬ S L.p) (h3:¬ S L.b) (h4:¬ S L.tb) (h5:∀ b,L.q.k0≤b→b<L.q.k3→¬ S b):LkAt w' L f:=
 ⟨h.raw.wrote k h1 h2 h3 h4,h.port.wrote k h5,h.far,Nat.le_trans h.top k.size⟩
theorem after (h:LkAt w L f) (k:Wr Nil w w'):LkAt w' L f:=h.wrote k id id id id λ_ _ _=>id
theorem seats {s':SS} (h:LkAt w L f) (hS:SeatAt w' L.p L.b s') (hn:f.s.KeS s') (k:Wr (One L.b) w w'):LkAt w' L {f with s:=s'}:=
 ⟨h.raw.seats hS hn k,h.port.wrote k λb b1 _ e=>by have:=h.far.2.2.1;cases e;omega,h.far,Nat.le_trans h.top k.size⟩
theorem ports {ps':PSta} (h:LkAt w L f) (hP:PortAt w' L.q L.hs ps') (k:Wr (Rng L.q.k0 L.q.k3) w w'):LkAt w' L {f with ps:=ps'}:=
 ⟨h.raw.wrote k (λe=>by have:=h.far.1;unfold Rng at e;omega) (λe=>by have:=h.far.2.1;unfold Rng at e;omega) (λe=>by have:=h.far.2.2.1;unfold Rng at e;omega) (λe=>by have:=h.far.2.2.2;unfold Rng at e;omega),hP,h.far,Nat.le_trans h.top k.size⟩
theorem ticks (h:LkAt w L f) {k:Nat} (hk:k<f.s.n) (x y:Int) (hx:x=0∨x=1∨x=2) (hy:0≤y∧y<f.sz):
  LkAt ((w.setCell ⟨L.tb,k*2,none⟩ (.int .i64 x)).setCell ⟨L.tb,k*2+1,none⟩ (.int .i64 y)) L {f with pc:=upd f.pc k x,own:=upd f.own k y}∧Wr (One L.tb) w ((w.setCell ⟨L.tb,k*2,none⟩ (.int .i64 x)).setCell ⟨L.tb,k*2+1,none⟩ (.int .i64 y)):=by
 obtain ⟨h1,hW⟩:=h.raw.tset2 hk x y hx hy
 exact ⟨⟨h1,h.port.wrote hW λb b1 _ e=>by have:=h.far.2.2.2;cases e;omega,h.far,Nat.le_trans h.top hW.size⟩,hW⟩
theorem tick0 (h:LkAt w L f) {k:Nat} (hk:k<f.s.n) (x:Int) (hx:x=0∨x=1∨x=2):
  LkAt (w.setCell ⟨L.tb,k*2,none⟩ (.int .i64 x)) L {f with pc:=upd f.pc k x}∧Wr (One L.tb) w (w.setCell ⟨L.tb,k*2,none⟩ (.int .i64 x)):=by
 obtain ⟨h1,hW⟩:=h.raw.tset0 hk x hx
 exact ⟨⟨h1,h.port.wrote hW λb b1 _ e=>by have:=h.far.2.2.2;cases e;omega,h.far,Nat.le_trans h.top hW.size⟩,hW⟩
theorem wf (h:LkAt w L f) (j:Int):0≤loadI f.ps.ws j∧loadI f.ps.ws j<4294967296:=h.port.mem.load_rng j
theorem tell (h:LkAt w L f) (t K a:Int):0≤tellS f.ps t K a∧tellS f.ps t K a<4294967296:=by
 unfold tellS tellI
 repeat' split
 ·exact h.wf a
 all_goals omega
end LkAt
def LkPost (w:World) (L:Lp) (f:FL) (v:Value) (e:Ending) (w':World):Prop:=e= .returned v∧LkAt w' L f∧Wr (LF L) w w'
theorem lf_b {w w':World} {L:Lp} (k:Wr (One L.b) w w'):Wr (LF L) w w':=k.mono λ_ _ e=> .inl e
theorem lf_t {w w':World} {L:Lp} (k:Wr (One L.tb) w w'):Wr (LF L) w w':=k.mono λ_ _ e=> .inr (.inl e)
theorem lf_q {w w':World} {L:Lp} (k:Wr (Rng L.q.k0 L.q.k3) w w'):Wr (LF L) w w':=k.mono λ_ _ e=> .inr (.inr e)
theorem LkAt.lf_lt {w:World} {L:Lp} {f:FL} (h:LkAt w L f) {k:Nat} (hk:LF L k):k<w.heap.size:=by
 rcases hk with rfl|rfl|hk
 ·exact blk_lt h.raw.seat.ctx
 ·exact blk_lt h.raw.tick
 ·exact Nat.lt_of_lt_of_le hk.2 h.top
def didC (d:Dd):Array Value:= #[.int .i64 d.ev,.bool d.enq,.bool d.arr,.bool d.lead]
structure Fr (w:World) (B:Nat) (Y:World) (L:Lp) (f:FL):Prop where
 lk:LkAt Y L f
 wr:Wr (LF L) w Y
 res:Y.heap[B]? =some (.cells (didC Dd.no) 102 (0,0))
 new:w.heap.size≤B
namespace Fr
variable {w X Y:World} {L:Lp} {f f':FL} {B:Nat}
theorem start (h:LkAt w L f):Fr w w.heap.size (w.alloc (.cells #[.int .i64 0,.bool false,.bool false,.bool false] 102)) L f:=
 ⟨h.after ((Wr.refl _ w).alloc _),(Wr.refl _ w).alloc _,Go.Deep.blk_alloc_new w _,Nat.le_refl _⟩
theorem after (h:Fr w B X L f) (k:Wr Nil X Y):Fr w B Y L f:=⟨h.lk.after k,h.wr.trans k λ_ _ e=>e.elim,(k.block _ (blk_lt h.res) id).trans h.res,h.new⟩
theorem drew (h:Fr w B X L f):Fr w B X.drew L f:=h.after ((Wr.refl _ X).drew)
theorem call {f0:FL} (h0:LkAt w L f') (h:Fr w B X L f) (hl:LkAt Y L f0) (k:Wr (LF L) X Y):Fr w B Y L f0:=
 ⟨hl,h.wr.trans k λ_ _ e=>e,(k.block _ (blk_lt h.res) (λe=>by have:=h0.lf_lt e;have:=h.new;omega)).trans h.res,h.new⟩
theorem cell (h:Fr w B X L f):X.cell? ⟨B,0,none⟩=some (.int .i64 0)∧X.cell? ⟨B,1,none⟩=some (.bool false)∧X.cell? ⟨B,2,none⟩=some (.bool false)∧X.cell? ⟨B,3,none⟩=some (.bool false):=by
 rw [blk_cell h.res,blk_cell h.res,blk_cell h.res,blk_cell h.res];exact ⟨rfl,rfl,rfl,rfl⟩
theorem frz (h:Fr w B X L f):X.frozen? ⟨B,0,none⟩=false∧X.frozen? ⟨B,1,none⟩=false∧X.frozen? ⟨B,2,none⟩=false∧X.frozen? ⟨B,3,none⟩=false:=
 ⟨blk_frozen h.res 0,blk_frozen h.res 1,blk_frozen h.res 2,blk_frozen h.res 3⟩
end Fr
theorem set4 {Y:World} {B:Nat} {t:TypeId} {cs:Array Value} (h:Y.heap[B]? =some (.cells cs t (0,0))) (h4:cs.size=4) (x0 x1 x2 x3:Value):
  ((((Y.setCell ⟨B,0,none⟩ x0).setCell ⟨B,1,none⟩ x1).setCell ⟨B,2,none⟩ x2).setCell ⟨B,3,none⟩ x3).heap[B]? =some (.cells #[x0,x1,x2,x3] t (0,0)):=by
 rw [blk_setCell (blk_setCell (blk_setCell (blk_setCell h 0 x0) 1 x1) 2 x2) 3 x3]
 obtain ⟨l⟩:=cs
 match l,h4 with
 |[a,b,c,d],_=>rfl
theorem wrote4 (Y:World) (B:Nat) (x0 x1 x2 x3:Value):Wr (One B) Y ((((Y.setCell ⟨B,0,none⟩ x0).setCell ⟨B,1,none⟩ x1).setCell ⟨B,2,none⟩ x2).setCell ⟨B,3,none⟩ x3):=
 ((((Wr.refl (One B) Y).setCell ⟨B,0,none⟩ x0 λ_=>rfl).setCell ⟨B,1,none⟩ x1 λ_=>rfl).setCell ⟨B,2,none⟩ x2 λ_=>rfl).setCell ⟨B,3,none⟩ x3 λ_=>rfl
theorem Fr.told {w Y:World} {L:Lp} {f f0:FL} {B:Nat} (h0:LkAt w L f0) (h:Fr w B Y L f) (d:Dd):
  LkPost w L f d.val (.returned d.val) ((((Y.setCell ⟨B,0,none⟩ (.int .i64 d.ev)).setCell ⟨B,1,none⟩ (.bool d.enq)).setCell ⟨B,2,none⟩ (.bool d.arr)).setCell ⟨B,3,none⟩ (.bool d.lead)):=by
 have k:=wrote4 Y B (.int .i64 d.ev) (.bool d.enq) (.bool d.arr) (.bool d.lead)
 have hB:∀ j,j<w.heap.size→¬ One B j:=λj hj e=>by have:=h.new;cases e;omega
 have hp:=blk_lt h0.raw.seat.obj
 refine ⟨rfl,h.lk.wrote k (hB _ (blk_lt h0.raw.obj)) (hB _ (blk_lt h0.raw.seat.obj)) (hB _ (blk_lt h0.raw.seat.ctx)) (hB _ (blk_lt h0.raw.tick)) (λb _ b2=>hB b (Nat.lt_of_lt_of_le b2 h0.top)),?_⟩
 exact h.wr.trans k λb hb e=>(hB b hb e).elim
theorem i_did:(prog.info? 102).map (·.size)=some 4:=by kernel_rfl
set_option maxHeartbeats 8000000
open Go.RowKit Go.BigFrame
theorem fl_use {w:World} {L:Lp} {pv:Value} {s:SS} {sz:Nat} {pc own:Nat→Int} (h:FlRaw w L pv s sz pc own) (a:Addr):
  Calls prog 147 #[.pointer (some ⟨L.lb,0,none⟩),.pointer (some a)] w λe w'=>e= .returned (.tuple #[])∧w'=w.setCell ⟨L.lb,1,none⟩ (.pointer (some a)):=by
 have c1:=h.cell1
 have f1:=h.frozen 1
 clear h
 go_enter func147,ntmps147
 go_wp2
 go_end0
 exact ⟨rfl,rfl⟩
theorem LkAt.bd {w:World} {L:Lp} {f:FL} (h:LkAt w L f) (k:Nat):0≤f.own k∧f.own k<f.sz∧1≤f.sz∧f.sz≤64∧0≤L.a2∧L.a2≤2000000:=by
 have:=h.raw.rng k
 have:=h.raw.adr
 have:=h.raw.size_cases
 omega
theorem wrap_first {a o:Int} (h0:0≤a) (h1:a≤2000000) (h2:0≤o) (h3:o<64):IntKind.i64.wrap (a+o)=a+o:=by rw [IntKind.wrap_i64];omega
theorem mod_rng {x:Int} {n:Nat} (h1:1≤n):0≤x%(n:Int)∧x%(n:Int)<n:=⟨Int.emod_nonneg x (by omega),Int.emod_lt_of_pos x (by omega)⟩
theorem fl_acq0 {w:World} {L:Lp} {f:FL} (h:LkAt w L f) (k:Nat) (hk:k<f.s.n) (u:Int) (hd:f.pc k=0) (hD:f.ps.D.length<4611686018427387904):
  Calls prog 148 #[.pointer (some ⟨L.lb,0,none⟩),.int .i64 (k:Int),.int .i64 u] w (LkPost w L (f.acq L k u) (f.acqD L k u).val):=by
 have e1:f.acq L k u={f with pc:=upd f.pc k 1,own:=upd f.own k (tellS f.ps u 5 L.a1%f.sz),ps:=doS f.ps u 5 L.a1 0 1}:=by unfold FL.acq;rw [if_pos hd]
 have e2:f.acqD L k u=⟨0,true,false,false⟩:=by unfold FL.acqD;rw [if_pos hd]
 rw [e1,e2]
 clear e1 e2
 obtain ⟨_,_,s1,s2,_⟩:=h.bd k
 have hT0:=h.tell u 5 L.a1
 have cS:=λW=>slot_yes (tellS f.ps u 5 L.a1) f.sz hT0.1 hT0.2 h.raw.siz W
 have hm:=mod_rng (x:=tellS f.ps u 5 L.a1) s1
 have hF:=Fr.start h
 obtain ⟨Z,hZ⟩:∃ Z,Z=w.alloc (.cells #[.int .i64 0,.bool false,.bool false,.bool false] 102):=⟨_,rfl⟩
 rw [←hZ] at hF
 have c1:=hF.lk.raw.cell1
 have c5:=hF.lk.raw.cell5
 have hkI:(k:Int)<f.s.n:=by omega
 have hn64:=h.raw.seat.n2
 have c2:=hF.lk.raw.cell2
 have t0:=hF.lk.raw.tk0 hk
 rw [hd] at t0
 have cA:=padd_any hF.drew.lk.port u L.a1 1 (by omega) (by omega) hD
 have HE:=Lib.hid (And.intro h (And.intro hk (And.intro hF hm)))
 clear h hF hm hT0
 rw [hZ] at t0 c5
 go_enter func148,ntmps148
 go_wp2
 rw [←hZ]
 clear hZ t0 c5
 go_region_held3 (λw'=>w'.cell? ⟨L.lb,1,none⟩=some (.pointer (some ⟨L.q.p,0,none⟩))∧w'.cell? ⟨L.lb,2,none⟩=some (.int .i64 L.a1)) (first|exact ⟨c1,c2⟩|exact ⟨d1,d2⟩) (first|(go_at_call 141;(with_reducible refine cA.mono ?_);intro e w2 hq;unfold AccPost at hq;obtain ⟨rfl,hP,hW⟩:=hq;have hA:=HE.out.2.2.1.drew.lk.ports hP hW;have d1:=hA.raw.cell1;have d2:=hA.raw.cell2;have d4:=hA.raw.cell4;have y0:=hA.raw.tk0 HE.out.2.1;have y1:=hA.raw.tk1 HE.out.2.1;have y2:=hA.raw.tkz (k*2);have y3:=hA.raw.tkz (k*2+1);have hT:=hA.ticks HE.out.2.1 1 (tellS f.ps u 5 L.a1%f.sz) (.inr (.inl rfl)) HE.out.2.2.2;have hA2:=Fr.call HE.out.1 HE.out.2.2.1.drew hA (lf_q hW);have hA3:=Fr.call HE.out.1 hA2 hT.1 (lf_t hT.2);obtain ⟨v0,v1,v2,v3⟩:=hA3.cell;obtain ⟨x0,x1,x2,x3⟩:=hA3.frz;have HT:=Lib.hid hA3;clear hA hA2 hA3 hT hP hW))
 go_wp2_with (first|(go_at_call 72;(with_reducible refine (cS _).mono ?_);rintro e w3 ⟨rfl,rfl⟩))
 refine bodyPost_ret (v:=Dd.val ⟨0,true,false,false⟩) (results_cell_row rfl _ _ w.heap.size 102 _ (0,0) _ rfl (set4 HT.out.res rfl _ _ _ _) underlying102 rfl i_did) rfl (HT.out.told HE.out.1 ⟨0,true,false,false⟩)
theorem fl_acq1 {w:World} {L:Lp} {f:FL} (h:LkAt w L f) (k:Nat) (hk:k<f.s.n) (u:Int) (hd:f.pc k=1) (hD:f.ps.D.length<4611686018427387904):
  Calls prog 148 #[.pointer (some ⟨L.lb,0,none⟩),.int .i64 (k:Int),.int .i64 u] w (LkPost w L (f.acq L k u) (f.acqD L k u).val):=by
 have e1:f.acq L k u=if tellS f.ps u 1 (L.a2+f.own k)=0 then {f with ps:=doS f.ps u 1 (L.a2+f.own k) 0 0} else {f with pc:=upd f.pc k 2,ps:=doS f.ps u 1 (L.a2+f.own k) 0 0}:=by unfold FL.acq;rw [if_neg (by omega),if_pos hd]
 have e2:f.acqD L k u=Dd.no:=by unfold FL.acqD;rw [if_neg (by omega),if_pos hd]
 rw [e1,e2]
 clear e1 e2
 obtain ⟨o0,o1,s1,s2,a0,a9⟩:=h.bd k
 have hwa:=wrap_first a0 a9 o0 (show f.own k<64 by omega)
 have hF:=Fr.start h
 obtain ⟨Z,hZ⟩:∃ Z,Z=w.alloc (.cells #[.int .i64 0,.bool false,.bool false,.bool false] 102):=⟨_,rfl⟩
 rw [←hZ] at hF
 have c1:=hF.lk.raw.cell1
 have c5:=hF.lk.raw.cell5
 have hkI:(k:Int)<f.s.n:=by omega
 have hn64:=h.raw.seat.n2
 have c3:=hF.lk.raw.cell3
 have t0:=hF.lk.raw.tk0 hk
 have t1:=hF.lk.raw.tk1 hk
 rw [hd] at t0
 have cA:=pload_any hF.drew.lk.port u (L.a2+f.own k) hD
 have HE:=Lib.hid (And.intro h (And.intro hk hF))
 clear h hF o0 o1 s1 s2 a0 a9
 rw [hZ] at t0 c5
 obtain ⟨v,hv⟩:∃ v,v=tellS f.ps u 1 (L.a2+f.own k):=⟨_,rfl⟩
 obtain ⟨g,hg⟩:∃ g,g=doS f.ps u 1 (L.a2+f.own k) 0 0:=⟨_,rfl⟩
 rw [←hv,←hg] at cA ⊢
 clear hv hg
 by_cases hx:v=0
 ·rw [if_pos hx]
  have b1:(v != 0)=decide (¬ v=0):=by simp [bne,BEq.beq]
  rw [decide_eq_false (not_not_intro hx)] at b1
  clear hx
  go_enter func148,ntmps148
  go_wp2
  rw [←hZ]
  clear hZ t0 c5
  go_region_held3 (λw'=>w'.cell? ⟨L.lb,1,none⟩=some (.pointer (some ⟨L.q.p,0,none⟩))∧w'.cell? ⟨L.lb,3,none⟩=some (.int .i64 L.a2)∧w'.cell? ⟨L.tb,k*2+1,none⟩=some (.int .i64 (f.own k))) (first|exact ⟨c1,c3,t1⟩|exact ⟨d1,d3,y1⟩) (first|(go_at_call 85;(with_reducible refine cA.mono ?_);intro e w2 hq;unfold AccPost at hq;obtain ⟨rfl,hP,hW⟩:=hq;have hA:=HE.out.2.2.drew.lk.ports hP hW;have d1:=hA.raw.cell1;have d3:=hA.raw.cell3;have y0:=hA.raw.tk0 HE.out.2.1;have y1:=hA.raw.tk1 HE.out.2.1;have y2:=hA.raw.tkz (k*2);have hA3:=Fr.call HE.out.1 HE.out.2.2.drew hA (lf_q hW);obtain ⟨v0,v1,v2,v3⟩:=hA3.cell;obtain ⟨x0,x1,x2,x3⟩:=hA3.frz;have HT:=Lib.hid hA3;clear hA hA3 hP hW))
  go_wp2
  refine bodyPost_ret (v:=Dd.val ⟨0,false,false,false⟩) (results_cell_row rfl _ _ w.heap.size 102 _ (0,0) _ rfl (set4 HT.out.res rfl _ _ _ _) underlying102 rfl i_did) rfl (HT.out.told HE.out.1 ⟨0,false,false,false⟩)
 ·rw [if_neg hx]
  have b1:(v != 0)=decide (¬ v=0):=by simp [bne,BEq.beq]
  rw [decide_eq_true hx] at b1
  clear hx
  go_enter func148,ntmps148
  go_wp2
  rw [←hZ]
  clear hZ t0 c5
  go_region_held3 (λw'=>w'.cell? ⟨L.lb,1,none⟩=some (.pointer (some ⟨L.q.p,0,none⟩))∧w'.cell? ⟨L.lb,3,none⟩=some (.int .i64 L.a2)∧w'.cell? ⟨L.tb,k*2+1,none⟩=some (.int .i64 (f.own k))) (first|exact ⟨c1,c3,t1⟩|exact ⟨d1,d3,y1⟩) (first|(go_at_call 85;(with_reducible refine cA.mono ?_);intro e w2 hq;unfold AccPost at hq;obtain ⟨rfl,hP,hW⟩:=hq;have hA:=HE.out.2.2.drew.lk.ports hP hW;have d1:=hA.raw.cell1;have d3:=hA.raw.cell3;have y0:=hA.raw.tk0 HE.out.2.1;have y1:=hA.raw.tk1 HE.out.2.1;have y2:=hA.raw.tkz (k*2);have hA3:=Fr.call HE.out.1 HE.out.2.2.drew hA (lf_q hW);have hT:=hA.tick0 HE.out.2.1 2 (.inr (.inr rfl));have hA4:=Fr.call HE.out.1 hA3 hT.1 (lf_t hT.2);obtain ⟨v4,v5,v6,v7⟩:=hA4.cell;obtain ⟨x4,x5,x6,x7⟩:=hA4.frz;have HT:=Lib.hid hA4;clear hA hA3 hA4 hT hP hW))
  go_wp2
  refine bodyPost_ret (v:=Dd.val ⟨0,false,false,false⟩) (results_cell_row rfl _ _ w.heap.size 102 _ (0,0) _ rfl (set4 HT.out.res rfl _ _ _ _) underlying102 rfl i_did) rfl (HT.out.told HE.out.1 ⟨0,false,false,false⟩)
theorem fl_acq2 {w:World} {L:Lp} {f:FL} (h:LkAt w L f) (k:Nat) (hk:k<f.s.n) (u:Int) (hd:f.pc k=2) (hD:f.ps.D.length<4611686018427387904):
  Calls prog 148 #[.pointer (some ⟨L.lb,0,none⟩),.int .i64 (k:Int),.int .i64 u] w (LkPost w L (f.acq L k u) (f.acqD L k u).val):=by
 have e1:f.acq L k u={f with ps:=doS f.ps u 2 (L.a2+f.own k) 0 0}:=by unfold FL.acq;rw [if_neg (by omega),if_neg (by omega)]
 have e2:f.acqD L k u=⟨1,false,false,false⟩:=by unfold FL.acqD;rw [if_neg (by omega),if_neg (by omega)]
 rw [e1,e2]
 clear e1 e2
 obtain ⟨o0,o1,s1,s2,a0,a9⟩:=h.bd k
 have hwa:=wrap_first a0 a9 o0 (show f.own k<64 by omega)
 have hF:=Fr.start h
 obtain ⟨Z,hZ⟩:∃ Z,Z=w.alloc (.cells #[.int .i64 0,.bool false,.bool false,.bool false] 102):=⟨_,rfl⟩
 rw [←hZ] at hF
 have c1:=hF.lk.raw.cell1
 have c5:=hF.lk.raw.cell5
 have hkI:(k:Int)<f.s.n:=by omega
 have hn64:=h.raw.seat.n2
 have c3:=hF.lk.raw.cell3
 have t0:=hF.lk.raw.tk0 hk
 have t1:=hF.lk.raw.tk1 hk
 rw [hd] at t0
 have cA:=pstore_any hF.drew.lk.port u (L.a2+f.own k) 0 (by omega) (by omega) hD
 have HE:=Lib.hid (And.intro h (And.intro hk hF))
 clear h hF o0 o1 s1 s2 a0 a9
 rw [hZ] at t0 c5
 go_enter func148,ntmps148
 go_wp2
 rw [←hZ]
 clear hZ t0 c5
 go_region_held3 (λw'=>w'.cell? ⟨L.lb,1,none⟩=some (.pointer (some ⟨L.q.p,0,none⟩))∧w'.cell? ⟨L.lb,3,none⟩=some (.int .i64 L.a2)∧w'.cell? ⟨L.tb,k*2+1,none⟩=some (.int .i64 (f.own k))) (first|exact ⟨c1,c3,t1⟩|exact ⟨d1,d3,y1⟩) (first|(go_at_call 98;(with_reducible refine cA.mono ?_);intro e w2 hq;unfold AccPost at hq;obtain ⟨rfl,hP,hW⟩:=hq;have hA:=HE.out.2.2.drew.lk.ports hP hW;have d1:=hA.raw.cell1;have d3:=hA.raw.cell3;have y1:=hA.raw.tk1 HE.out.2.1;have hA3:=Fr.call HE.out.1 HE.out.2.2.drew hA (lf_q hW);obtain ⟨v0,v1,v2,v3⟩:=hA3.cell;obtain ⟨x0,x1,x2,x3⟩:=hA3.frz;have HT:=Lib.hid hA3;clear hA hA3 hP hW))
 go_wp2
 refine bodyPost_ret (v:=Dd.val ⟨1,false,false,false⟩) (results_cell_row rfl _ _ w.heap.size 102 _ (0,0) _ rfl (set4 HT.out.res rfl _ _ _ _) underlying102 rfl i_did) rfl (HT.out.told HE.out.1 ⟨1,false,false,false⟩)
theorem fl_acq {w:World} {L:Lp} {f:FL} (h:LkAt w L f) (k:Nat) (hk:k<f.s.n) (u:Int) (hD:f.ps.D.length<4611686018427387904):
  Calls prog 148 #[.pointer (some ⟨L.lb,0,none⟩),.int .i64 (k:Int),.int .i64 u] w (LkPost w L (f.acq L k u) (f.acqD L k u).val):=by
 rcases (h.raw.rng k).1 with hd|hd|hd
 ·exact fl_acq0 h k hk u hd hD
 ·exact fl_acq1 h k hk u hd hD
 ·exact fl_acq2 h k hk u hd hD
theorem fl_rel {w:World} {L:Lp} {f:FL} (h:LkAt w L f) (k:Nat) (hk:k<f.s.n) (u:Int) (hD:f.ps.D.length<4611686018427387904):
  Calls prog 149 #[.pointer (some ⟨L.lb,0,none⟩),.int .i64 (k:Int),.int .i64 u] w (LkPost w L (f.rel L k u) (Dd.val ⟨3,false,false,false⟩)):=by
 unfold FL.rel
 obtain ⟨o0,o1,s1,s2,a0,a9⟩:=h.bd k
 have o64:f.own k<64:=by omega
 have hm:=mod_rng (x:=f.own k+1) s1
 have cS:=λW=>slot_quiet (f.own k+1) f.sz (by omega) (by omega) h.raw.siz W
 obtain ⟨m,hm0⟩:∃ m,m=(f.own k+1)%(f.sz:Int):=⟨_,rfl⟩
 rw [←hm0] at cS hm ⊢
 have hwa:=wrap_first a0 a9 hm.1 (show m<64 by omega)
 have ew1:IntKind.u32.wrap (f.own k)=f.own k:=by show f.own k%4294967296=f.own k;omega
 have ew2:IntKind.u32.wrap (f.own k+1)=f.own k+1:=by show (f.own k+1)%4294967296=f.own k+1;omega
 have hF:=Fr.start h
 obtain ⟨Z,hZ⟩:∃ Z,Z=w.alloc (.cells #[.int .i64 0,.bool false,.bool false,.bool false] 102):=⟨_,rfl⟩
 rw [←hZ] at hF
 have c1:=hF.lk.raw.cell1
 have c5:=hF.lk.raw.cell5
 have hkI:(k:Int)<f.s.n:=by omega
 have hn64:=h.raw.seat.n2
 have c3:=hF.lk.raw.cell3
 have c4:=hF.lk.raw.cell4
 have t1:=hF.lk.raw.tk1 hk
 have HE:=Lib.hid (And.intro h (And.intro hk (And.intro hF (show (0:Int)≤0∧(0:Int)<f.sz by omega))))
 clear h hF hm0 hm o64 o0 o1 s1 s2 a0 a9
 rw [hZ] at c5
 go_enter func149,ntmps149
 go_wp2
 rw [←hZ]
 clear hZ c5
 go_big_quiet ((go_at_call 72;(with_reducible exact Calls.quiet_of_same (cS _))))
 generalize hY:Z.drewN _=Y
 have hFY:Fr w w.heap.size Y L f:=by rw [←hY];exact HE.out.2.2.1.after ((Wr.refl _ _).drewN _)
 have e1:=hFY.lk.raw.cell1
 have e3:=hFY.lk.raw.cell3
 have cA:=pstore_any hFY.drew.lk.port u (L.a2+m) 1 (by omega) (by omega) hD
 have HY:=Lib.hid hFY
 clear hFY hY c1 c3 c4 t1 cS
 go_wp2
 go_region_held3 (λw'=>w'.cell? ⟨L.lb,1,none⟩=some (.pointer (some ⟨L.q.p,0,none⟩))∧w'.cell? ⟨L.lb,3,none⟩=some (.int .i64 L.a2)) (first|exact ⟨e1,e3⟩|exact ⟨d1,d3⟩) (first|(go_at_call 98;(with_reducible refine cA.mono ?_);intro e w2 hq;unfold AccPost at hq;obtain ⟨rfl,hP,hW⟩:=hq;have hA:=HY.out.drew.lk.ports hP hW;have d1:=hA.raw.cell1;have d3:=hA.raw.cell3;have y0:=hA.raw.tk0 HE.out.2.1;have y1:=hA.raw.tk1 HE.out.2.1;have y2:=hA.raw.tkz (k*2);have y3:=hA.raw.tkz (k*2+1);have hA3:=Fr.call HE.out.1 HY.out.drew hA (lf_q hW);have hT:=hA.ticks HE.out.2.1 0 0 (.inl rfl) HE.out.2.2.2;have hA4:=Fr.call HE.out.1 hA3 hT.1 (lf_t hT.2);obtain ⟨v0,v1,v2,v3⟩:=hA4.cell;obtain ⟨x0,x1,x2,x3⟩:=hA4.frz;have HT:=Lib.hid hA4;clear hA hA3 hA4 hT hP hW))
 go_wp2
 refine bodyPost_ret (v:=Dd.val ⟨3,false,false,false⟩) (results_cell_row rfl _ _ w.heap.size 102 _ (0,0) _ rfl (set4 HT.out.res rfl _ _ _ _) underlying102 rfl i_did) rfl (HT.out.told HE.out.1 ⟨3,false,false,false⟩)
open _root_.Go.Proofs.Tryz Go.Deep
structure Fd (w:World) (B:Nat) (X:World) (L:Lp) (f:FL) (C:Nat) (d:Dd):Prop where
 fr:Fr w B X L f
 did:X.heap[C]? =some (.cells (didC d) 102 (0,0))
 far:w.heap.size≤C
 ne:C≠B
theorem Fd.cell {w X:World} {B C:Nat} {L:Lp} {f:FL} {d:Dd} (h:Fd w B X L f C d):X.cell? ⟨C,0,none⟩=some (.int .i64 d.ev)∧X.cell? ⟨C,1,none⟩=some (.bool d.enq)∧X.cell? ⟨C,2,none⟩=some (.bool d.arr)∧X.cell? ⟨C,3,none⟩=some (.bool d.lead):=by
 rw [blk_cell h.did,blk_cell h.did,blk_cell h.did,blk_cell h.did];exact ⟨rfl,rfl,rfl,rfl⟩
theorem Fd.frz {w X:World} {B C:Nat} {L:Lp} {f:FL} {d:Dd} (h:Fd w B X L f C d):X.frozen? ⟨C,0,none⟩=false∧X.frozen? ⟨C,1,none⟩=false∧X.frozen? ⟨C,2,none⟩=false∧X.frozen? ⟨C,3,none⟩=false:=
 ⟨blk_frozen h.did 0,blk_frozen h.did 1,blk_frozen h.did 2,blk_frozen h.did 3⟩
theorem Fd.call {w X Y:World} {B C:Nat} {L:Lp} {f g f0:FL} {d:Dd} (h0:LkAt w L f0) (h:Fd w B X L f C d) (hl:LkAt Y L g) (k:Wr (LF L) X Y):Fd w B Y L g C d:=
 ⟨Fr.call h0 h.fr hl k,(k.block C (blk_lt h.did) (λe=>by have:=h0.lf_lt e;have:=h.far;omega)).trans h.did,h.far,h.ne⟩
theorem Fd.keep {w X:World} {B C:Nat} {L:Lp} {f f0:FL} {d:Dd} (h0:LkAt w L f0) (h:Fd w B X L f C d) (d':Dd):
  Fd w B ((((X.setCell ⟨C,0,none⟩ (.int .i64 d'.ev)).setCell ⟨C,1,none⟩ (.bool d'.enq)).setCell ⟨C,2,none⟩ (.bool d'.arr)).setCell ⟨C,3,none⟩ (.bool d'.lead)) L f C d':=by
 have k:=wrote4 X C (.int .i64 d'.ev) (.bool d'.enq) (.bool d'.arr) (.bool d'.lead)
 have hf:=h.far
 have hC:∀ j,j<w.heap.size→¬ One C j:=λj hj e=>by cases e;omega
 refine ⟨⟨h.fr.lk.wrote k (hC _ (blk_lt h0.raw.obj)) (hC _ (blk_lt h0.raw.seat.obj)) (hC _ (blk_lt h0.raw.seat.ctx)) (hC _ (blk_lt h0.raw.tick)) (λb _ b2=>hC b (Nat.lt_of_lt_of_le b2 h0.top)),h.fr.wr.trans k λb hb e=>(hC b hb e).elim,(k.block B (blk_lt h.fr.res) λe=>h.ne e.symm).trans h.fr.res,h.fr.new⟩,set4 h.did rfl _ _ _ _,h.far,h.ne⟩
theorem Fd.ends {w X Y:World} {B C:Nat} {L:Lp} {f g:FL} {d:Dd} (h0:LkAt w L f) (h:Fd w B X L g C d) {s':SS} (hS:SeatAt Y L.p L.b s') (hn:g.s.KeS s') (k:Wr (One L.b) X Y):Fd w B Y L {g with s:=s'} C d:=
 h.call h0 (h.fr.lk.seats hS hn k) (lf_b k)
theorem hs_start {w:World} {L:Lp} {f:FL} (h:LkAt w L f) (cs:Array Value):
  Fd w (w.heap.size+1) (((w.alloc (.cells cs 229)).alloc (.cells #[.int .i64 0,.bool false,.bool false,.bool false] 102)).alloc (.cells #[.int .i64 0,.bool false,.bool false,.bool false] 102)) L f (w.heap.size+1+1) Dd.no∧
  (((w.alloc (.cells cs 229)).alloc (.cells #[.int .i64 0,.bool false,.bool false,.bool false] 102)).alloc (.cells #[.int .i64 0,.bool false,.bool false,.bool false] 102)).heap[w.heap.size]? =some (.cells cs 229 (0,0)):=by
 have e1:(w.alloc (.cells cs 229)).heap.size=w.heap.size+1:=nblk_alloc _ _
 have e2:((w.alloc (.cells cs 229)).alloc (.cells #[.int .i64 0,.bool false,.bool false,.bool false] 102)).heap.size=w.heap.size+1+1:=by rw [nblk_alloc,e1]
 have k:Wr Nil w (((w.alloc (.cells cs 229)).alloc (.cells #[.int .i64 0,.bool false,.bool false,.bool false] 102)).alloc (.cells #[.int .i64 0,.bool false,.bool false,.bool false] 102)):=(((Wr.refl _ w).alloc _).alloc _).alloc _
 refine ⟨⟨⟨h.after k,k.mono λ_ _ e=>e.elim,?_,Nat.le_succ _⟩,?_,by omega,by omega⟩,?_⟩
 ·rw [blk_alloc_lt _ _ _ (by rw [e2];omega),←e1,blk_alloc_new];rfl
 ·rw [←e2,blk_alloc_new];rfl
 ·rw [blk_alloc_lt _ _ _ (by rw [e2];omega),blk_alloc_lt _ _ _ (by rw [e1];omega),blk_alloc_new]
theorem hs_step {w:World} {L:Lp} {f:FL} (h:LkAt w L f) (t u:Int) (hD:f.ps.D.length<4611686018427387904):
  Calls prog 136 #[.pointer (some ⟨L.p,0,none⟩),.int .i64 t,.int .i64 u,.agg #[Value.func (.func 148) #[.pointer (some ⟨L.lb,0,none⟩)] #[],Value.func (.func 149) #[.pointer (some ⟨L.lb,0,none⟩)] #[],Value.nilFunc]] w (LkPost w L (f.step L t u) (f.did L t u).val):=by
 obtain ⟨hF,hB⟩:=hs_start h #[Value.func (.func 148) #[.pointer (some ⟨L.lb,0,none⟩)] #[],Value.func (.func 149) #[.pointer (some ⟨L.lb,0,none⟩)] #[],Value.nilFunc]
 obtain ⟨Z,hZ⟩:∃ Z,Z=((w.alloc (.cells #[Value.func (.func 148) #[.pointer (some ⟨L.lb,0,none⟩)] #[],Value.func (.func 149) #[.pointer (some ⟨L.lb,0,none⟩)] #[],Value.nilFunc] 229)).alloc (.cells #[.int .i64 0,.bool false,.bool false,.bool false] 102)).alloc (.cells #[.int .i64 0,.bool false,.bool false,.bool false] 102):=⟨_,rfl⟩
 rw [←hZ] at hF hB
 have b0:Z.cell? ⟨w.heap.size,0,none⟩=some (Value.func (.func 148) #[.pointer (some ⟨L.lb,0,none⟩)] #[]):=(blk_cell hB 0).trans rfl
 have b1:Z.cell? ⟨w.heap.size,1,none⟩=some (Value.func (.func 149) #[.pointer (some ⟨L.lb,0,none⟩)] #[]):=(blk_cell hB 1).trans rfl
 have b2:Z.cell? ⟨w.heap.size,2,none⟩=some (Value.nilFunc):=(blk_cell hB 2).trans rfl
 have cS:=se_state hF.fr.lk.raw.seat t
 obtain ⟨v0,v1,v2,v3⟩:=hF.fr.cell
 obtain ⟨x0,x1,x2,x3⟩:=hF.fr.frz
 obtain ⟨p0,p1,p2,p3⟩:=hF.cell
 have hn:=h.raw.seat.n2
 by_cases ht:0≤t∧t<f.s.n
 ·obtain ⟨k,rfl⟩:=Int.eq_ofNat_of_zero_le ht.1
  have hk:k<f.s.n:=by omega
  have eS:f.s.stI (k:Int)=f.s.st k:=by unfold SS.stI;rw [if_pos ht,Int.toNat_natCast]
  rw [eS] at cS
  by_cases h1:f.s.st k=1
  ·have e1:f.mid L k u=f.acq L k u:=by unfold FL.mid;rw [if_pos ht,Int.toNat_natCast,if_pos h1]
   have e2:f.did L k u=f.acqD L k u:=by unfold FL.did;rw [if_pos ht,Int.toNat_natCast,if_pos h1]
   have es:=f.mid_s L k u
   unfold FL.step
   rw [e1] at es
   rw [e1,e2]
   rw [h1] at cS
   have cA:=fl_acq hF.fr.lk k hk u hD
   generalize f.acq L k u=g at*
   generalize f.acqD L k u=d at*
   have HE:=Lib.hid (And.intro h (And.intro hF es))
   have HZ:=Lib.hid hZ
   clear h hF eS e1 e2 hB es hZ h1
   generalize f.s.n=n at*
   go_enter func136,ntmps136
   go_wp2_with (first
    |(go_at_call 129;rw [←HZ.out];(with_reducible refine cS.mono ?_);rintro e w' ⟨rfl,rfl⟩)
    |(go_at_call 148;(with_reducible refine cA.mono ?_);intro e w2 hq;unfold LkPost at hq;obtain ⟨rfl,hA,hW⟩:=hq;dsimp only [Dd.val];have hA3:=HE.out.2.1.call HE.out.1 hA hW;obtain ⟨p0,p1,p2,p3⟩:=hA3.cell;obtain ⟨y0,y1,y2,y3⟩:=hA3.frz;have hK:=hA3.keep HE.out.1 d;have cE:=se_end hK.fr.lk.raw.seat (k:Int) d.ev;have HK:=Lib.hid hK;clear hA hA3 hK hW)
    |(go_at_call 140;(with_reducible refine cE.mono ?_);intro e w3 hq;unfold SeatPost at hq;obtain ⟨rfl,hS,hW⟩:=hq;have hY:=HK.out.ends HE.out.1 hS (SS.fin_kS _ _ _) hW;obtain ⟨e0,e1,e2,e3⟩:=hY.cell;obtain ⟨v0,v1,v2,v3⟩:=hY.fr.cell;obtain ⟨x0,x1,x2,x3⟩:=hY.fr.frz;have HT:=Lib.hid hY;clear hY hS hW))
   rw [←HE.out.2.2]
   refine bodyPost_ret (v:=Dd.val d) (results_cell_row rfl _ _ (w.heap.size+1) 102 _ (0,0) _ rfl (set4 HT.out.fr.res rfl _ _ _ _) underlying102 rfl i_did) rfl (HT.out.fr.told HE.out.1 d)
  by_cases h3:f.s.st k=3
  ·have e1:f.mid L k u=f.rel L k u:=by unfold FL.mid;rw [if_pos ht,Int.toNat_natCast,if_neg h1,if_pos h3]
   have e2:f.did L k u=⟨3,false,false,false⟩:=by unfold FL.did;rw [if_pos ht,Int.toNat_natCast,if_neg h1,if_pos h3]
   have es:=f.mid_s L k u
   unfold FL.step
   rw [e1] at es
   rw [e1,e2]
   rw [h3] at cS
   have cA:=fl_rel hF.fr.lk k hk u hD
   generalize f.rel L k u=g at*
   have HE:=Lib.hid (And.intro h (And.intro hF es))
   have HZ:=Lib.hid hZ
   clear h hF eS e1 e2 hB es hZ h1 h3
   generalize f.s.n=n at*
   go_enter func136,ntmps136
   go_wp2_with (first
    |(go_at_call 129;rw [←HZ.out];(with_reducible refine cS.mono ?_);rintro e w' ⟨rfl,rfl⟩)
    |(go_at_call 149;(with_reducible refine cA.mono ?_);intro e w2 hq;unfold LkPost at hq;obtain ⟨rfl,hA,hW⟩:=hq;dsimp only [Dd.val];have hA3:=HE.out.2.1.call HE.out.1 hA hW;obtain ⟨p0,p1,p2,p3⟩:=hA3.cell;obtain ⟨y0,y1,y2,y3⟩:=hA3.frz;have hK:=hA3.keep HE.out.1 ⟨3,false,false,false⟩;have cE:=se_end hK.fr.lk.raw.seat (k:Int) 3;have HK:=Lib.hid hK;clear hA hA3 hK hW)
    |(go_at_call 140;(with_reducible refine cE.mono ?_);intro e w3 hq;unfold SeatPost at hq;obtain ⟨rfl,hS,hW⟩:=hq;have hY:=HK.out.ends HE.out.1 hS (SS.fin_kS _ _ _) hW;obtain ⟨e0,e1,e2,e3⟩:=hY.cell;obtain ⟨v0,v1,v2,v3⟩:=hY.fr.cell;obtain ⟨x0,x1,x2,x3⟩:=hY.fr.frz;have HT:=Lib.hid hY;clear hY hS hW))
   rw [←HE.out.2.2]
   refine bodyPost_ret (v:=Dd.val ⟨3,false,false,false⟩) (results_cell_row rfl _ _ (w.heap.size+1) 102 _ (0,0) _ rfl (set4 HT.out.fr.res rfl _ _ _ _) underlying102 rfl i_did) rfl (HT.out.fr.told HE.out.1 ⟨3,false,false,false⟩)
  have h4:¬ f.s.st k=4:=h.raw.np.2 k
  have e1:f.mid L k u=f:=by unfold FL.mid;rw [if_pos ht,Int.toNat_natCast,if_neg h1,if_neg h3]
  have e2:f.did L k u=Dd.no:=by unfold FL.did;rw [if_pos ht,Int.toNat_natCast,if_neg h1,if_neg h3]
  have hK:=hF
  have cE:=se_end hK.fr.lk.raw.seat (k:Int) Dd.no.ev
  have HE:=Lib.hid (And.intro h hF)
  have HK:=Lib.hid hK
  have HZ:=Lib.hid hZ
  unfold FL.step
  rw [e1,e2]
  clear h hF hK eS e1 e2 hB hZ b0 b1 b2
  generalize f.s.st k=x at*
  generalize f.s.n=n at*
  go_enter func136,ntmps136
  go_wp2_with (first
   |(go_at_call 129;rw [←HZ.out];(with_reducible refine cS.mono ?_);rintro e w' ⟨rfl,rfl⟩)
   |(go_at_call 140;(with_reducible refine cE.mono ?_);intro e w3 hq;unfold SeatPost at hq;obtain ⟨rfl,hS,hW⟩:=hq;have hY:=HK.out.ends HE.out.1 hS (SS.fin_kS _ _ _) hW;obtain ⟨e0,e1,e2,e3⟩:=hY.cell;obtain ⟨v0,v1,v2,v3⟩:=hY.fr.cell;obtain ⟨x0,x1,x2,x3⟩:=hY.fr.frz;have HT:=Lib.hid hY;clear hY hS hW))
  refine bodyPost_ret (v:=Dd.val Dd.no) (results_cell_row rfl _ _ (w.heap.size+1) 102 _ (0,0) _ rfl (set4 HT.out.fr.res rfl _ _ _ _) underlying102 rfl i_did) rfl (HT.out.fr.told HE.out.1 Dd.no)
 ·have eS:f.s.stI t=0:=if_neg ht
  rw [eS] at cS
  have e1:f.mid L t u=f:=by unfold FL.mid;rw [if_neg ht]
  have e2:f.did L t u=Dd.no:=by unfold FL.did;rw [if_neg ht]
  have hK:=hF
  have cE:=se_end hK.fr.lk.raw.seat t Dd.no.ev
  have HE:=Lib.hid (And.intro h hF)
  have HK:=Lib.hid hK
  have HZ:=Lib.hid hZ
  unfold FL.step
  rw [e1,e2]
  clear h hF hK eS e1 e2 hB hZ b0 b1 b2 ht
  go_enter func136,ntmps136
  go_wp2_with (first
   |(go_at_call 129;rw [←HZ.out];(with_reducible refine cS.mono ?_);rintro e w' ⟨rfl,rfl⟩)
   |(go_at_call 140;(with_reducible refine cE.mono ?_);intro e w3 hq;unfold SeatPost at hq;obtain ⟨rfl,hS,hW⟩:=hq;have hY:=HK.out.ends HE.out.1 hS (SS.fin_kS _ _ _) hW;obtain ⟨e0,e1,e2,e3⟩:=hY.cell;obtain ⟨v0,v1,v2,v3⟩:=hY.fr.cell;obtain ⟨x0,x1,x2,x3⟩:=hY.fr.frz;have HT:=Lib.hid hY;clear hY hS hW))
  refine bodyPost_ret (v:=Dd.val Dd.no) (results_cell_row rfl _ _ (w.heap.size+1) 102 _ (0,0) _ rfl (set4 HT.out.fr.res rfl _ _ _ _) underlying102 rfl i_did) rfl (HT.out.fr.told HE.out.1 Dd.no)
theorem fl_step {w:World} {L:Lp} {f:FL} (h:LkAt w L f) (t u x:Int) (hD:f.ps.D.length<4611686018427387904):
  Calls prog 146 #[.pointer (some ⟨L.lb,0,none⟩),.int .i64 t,.int .i64 u,.int .i64 x] w (LkPost w L (f.step L t u) (f.did L t u).val):=by
 have hF:=Fr.start h
 obtain ⟨Z,hZ⟩:∃ Z,Z=w.alloc (.cells #[.int .i64 0,.bool false,.bool false,.bool false] 102):=⟨_,rfl⟩
 rw [←hZ] at hF
 have cM:=hs_step hF.lk t u hD
 have c0:=hF.lk.raw.cell0
 rw [hZ] at c0
 generalize f.step L t u=g at*
 generalize f.did L t u=d at*
 have HE:=Lib.hid (And.intro h hF)
 have HZ:=Lib.hid hZ
 clear h hF hZ
 go_enter func146,ntmps146
 go_wp2_with (first
  |(go_at_call 136;rw [←HZ.out];(with_reducible refine cM.mono ?_);intro e w2 hq;unfold LkPost at hq;obtain ⟨rfl,hA,hW⟩:=hq;dsimp only [Dd.val];have hA3:=Fr.call HE.out.1 HE.out.2 hA hW;obtain ⟨v0,v1,v2,v3⟩:=hA3.cell;obtain ⟨x0,x1,x2,x3⟩:=hA3.frz;have HT:=Lib.hid hA3;clear hA hA3 hW))
 refine bodyPost_ret (v:=Dd.val d) (results_cell_row rfl _ _ w.heap.size 102 _ (0,0) _ rfl (set4 HT.out.res rfl _ _ _ _) underlying102 rfl i_did) rfl (HT.out.told HE.out.1 d)
end Go.Proofs.YtmnephejhkfchaaGreat.Ks
