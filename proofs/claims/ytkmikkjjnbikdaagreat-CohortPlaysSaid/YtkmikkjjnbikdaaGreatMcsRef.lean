
import Derived.Test.YtkmikkjjnbikdaaGreatHomed
import Derived.Test.YtkmikkjjnbikdaaGreatSeatTwo
import Derived.Test.YtkmikkjjnbikdaaGreatPortSame
namespace Go.Proofs.YtkmikkjjnbikdaaGreat.Kf
open _root_.Go.Proofs.Tryz
open Go.RowKit
set_option linter.unusedVariables false
set_option maxRecDepth 100000
def RaPost (base r bk:Nat) (dv:Value) (s:PSta) (v:Value) (w:World) (e:Ending) (w':World):Prop:=e= .returned v∧RefSt w' base r s∧Wr (Foot r bk dv) w w'
section
variable {w:World} {base r bk:Nat} {so:Option Addr} {cap:Nat} {dv:Value} {s:PSta}
theorem ra_load (h:RefAt w base r bk so cap dv s) (t a:Int) (hD:s.D.length<1000000) (hws:s.ws.length≤4096) (hac:s.ac.length≤64) (hbase:base≤w.heap.size):
  Calls prog 131 #[.pointer (some ⟨r,0,none⟩),.int .i64 t,.int .i64 a] w (RaPost base r bk dv (doS s t 1 a 0 0) (.int .u32 (tellS s t 1 a)) w):=by
 have c:=rdo_any h t 1 a 0 0 (by omega) (by omega) hD hws hac hbase
 clear h
 go_enter func131,ntmps131
 go_wp2_with (go_at_call 136;with_reducible refine c.mono ?_;intro e w2 hq;unfold RDoPost at hq;obtain ⟨rfl,hR,hW⟩:=hq)
 go_ret
 exact ⟨rfl,hR,hW⟩
theorem ra_add (h:RefAt w base r bk so cap dv s) (t a d:Int) (d0:0≤d) (d1:d<4294967296) (hD:s.D.length<1000000) (hws:s.ws.length≤4096) (hac:s.ac.length≤64) (hbase:base≤w.heap.size):
  Calls prog 137 #[.pointer (some ⟨r,0,none⟩),.int .i64 t,.int .i64 a,.int .u32 d] w (RaPost base r bk dv (doS s t 5 a 0 d) (.int .u32 (tellS s t 5 a)) w):=by
 have c:=rdo_any h t 5 a 0 d d0 d1 hD hws hac hbase
 clear h
 go_enter func137,ntmps137
 go_wp2_with (go_at_call 136;with_reducible refine c.mono ?_;intro e w2 hq;unfold RDoPost at hq;obtain ⟨rfl,hR,hW⟩:=hq)
 go_ret
 exact ⟨rfl,hR,hW⟩
theorem ra_store (h:RefAt w base r bk so cap dv s) (t a v:Int) (d0:0≤v) (d1:v<4294967296) (hD:s.D.length<1000000) (hws:s.ws.length≤4096) (hac:s.ac.length≤64) (hbase:base≤w.heap.size):
  Calls prog 132 #[.pointer (some ⟨r,0,none⟩),.int .i64 t,.int .i64 a,.int .u32 v] w (RaPost base r bk dv (doS s t 2 a 0 v) (.tuple #[]) w):=by
 have c:=rdo_any h t 2 a 0 v d0 d1 hD hws hac hbase
 clear h
 go_enter func132,ntmps132
 go_wp2_with (go_at_call 136;with_reducible refine c.mono ?_;intro e w2 hq;unfold RDoPost at hq;obtain ⟨rfl,hR,hW⟩:=hq)
 go_end0
 exact ⟨rfl,hR,hW⟩
end
def rowA (n:Nat) (g:Nat→Value):Array Value:=((List.range n).map g).toArray
theorem rowA_at {n:Nat} (g:Nat→Value) {k:Nat} (hk:k<n):(rowA n g)[k]? =some (g k):=by
 unfold rowA
 rw [List.getElem?_toArray,List.getElem?_map,List.getElem?_range hk]
 rfl
theorem rowA_set (n:Nat) (g:Nat→Value) (k:Nat) (v:Value):(rowA n g).setIfInBounds k v=rowA n (upd g k v):=by
 unfold rowA
 rw [List.setIfInBounds_toArray]
 congr 1
 apply List.ext_getElem?
 intro m
 rw [List.getElem?_set,List.getElem?_map,List.getElem?_map]
 by_cases hm:m<n
 ·rw [List.getElem?_range hm]
  by_cases e:k=m
  ·subst e
   rw [if_pos rfl,if_pos (by simpa using hm)]
   show _=some (upd g k v k)
   rw [upd_same]
  ·rw [if_neg e]
   show some (g m)=some (upd g k v m)
   rw [upd_other _ _ (λx=>e x.symm)]
 ·have e0:(List.range n)[m]? =none:=List.getElem?_eq_none (by simp;omega)
  rw [e0]
  by_cases e:k=m
  ·subst e;rw [if_pos rfl,if_neg (by simpa using hm)];rfl
  ·rw [if_neg e];rfl
theorem made_row (x:Value) (n:Nat):madeCells #[x] (n*1)=rowA n (λ_=>x):=by
 apply Array.ext'
 apply List.ext_getElem?
 intro m
 unfold madeCells rowA
 rw [Nat.mul_one]
 by_cases hm:m<n
 ·rw [Array.toList_map,List.getElem?_map,Array.toList_range,List.getElem?_range hm,List.getElem?_map,List.getElem?_range hm]
  simp [Nat.mod_one]
 ·rw [List.getElem?_eq_none (by simp;omega),List.getElem?_eq_none (by simp;omega)]
def pcV (p:Nat→Bool) (k:Nat):Value:= .int .i64 (b2i (p k))
def miV (m:Nat→Int) (k:Nat):Value:= .int .u32 (m k)
theorem pcV_upd (p:Nat→Bool) (k:Nat) (b:Bool):upd (pcV p) k (.int .i64 (b2i b))=pcV (upd p k b):=by
 funext j
 by_cases e:j=k
 ·subst e;rw [upd_same];unfold pcV;rw [upd_same]
 ·rw [upd_other _ _ e];unfold pcV;rw [upd_other _ _ e]
theorem miV_upd (m:Nat→Int) (k:Nat) (x:Int):upd (miV m) k (.int .u32 x)=miV (upd m k x):=by
 funext j
 by_cases e:j=k
 ·subst e;rw [upd_same];unfold miV;rw [upd_same]
 ·rw [upd_other _ _ e];unfold miV;rw [upd_other _ _ e]
structure Mp where
 r:Nat
 sr:Nat
 hv:Value
 dv:Value
 pc:Nat
 mn:Nat
 a:Int
 pr:Nat
 base:Nat
structure MlRaw (w:World) (M:Mp) (s:SS) (p:Nat→Bool) (mi:Nat→Int):Prop where
 obj:w.heap[M.r]? =some (.cells #[.pointer (some ⟨M.sr,0,none⟩),.int .i64 M.a,.slice (some ⟨M.pc,0,none⟩) s.n s.n,.slice (some ⟨M.mn,0,none⟩) s.n s.n] 159 (0,0))
 seat:RsAt w M.sr M.hv M.dv s
 pcs:w.heap[M.pc]? =some (.cells (rowA s.n (pcV p)) 3 (0,0))
 min:w.heap[M.mn]? =some (.cells (rowA s.n (miV mi)) 62 (0,0))
 ne:M.r≠M.pc∧M.r≠M.mn∧M.pc≠M.mn
 off:∀ k,SF M.sr M.hv M.dv k→k≠M.r∧k≠M.pc∧k≠M.mn
 low:M.r<M.base∧M.pc<M.base∧M.mn<M.base∧∀ k,SF M.sr M.hv M.dv k→k<M.base
def MF (M:Mp) (k:Nat):Prop:=k=M.pc∨k=M.mn∨SF M.sr M.hv M.dv k
namespace MlRaw
variable {w w':World} {M:Mp} {s s':SS} {p:Nat→Bool} {mi:Nat→Int}
theorem wrote {S:Nat→Prop} (h:MlRaw w M s p mi) (k:Wr S w w') (h1:¬ S M.r) (h2:¬ S M.pc) (h3:¬ S M.mn) (h4:∀ j,SF M.sr M.hv M.dv j→¬ S j):MlRaw w' M s p mi:=
 ⟨(k.block _ (blk_lt h.obj) h1).trans h.obj,h.seat.wrote k h4,(k.block _ (blk_lt h.pcs) h2).trans h.pcs,(k.block _ (blk_lt h.min) h3).trans h.min,h.ne,h.off,h.low⟩
theorem after (h:MlRaw w M s p mi) (k:Wr Nil w w'):MlRaw w' M s p mi:=h.wrote k id id id λ_ _=>id
theorem port {S:Nat→Prop} (h:MlRaw w M s p mi) (k:Wr S w w') (hS:∀ b,S b→M.base≤b):MlRaw w' M s p mi:=by
 have hl:=h.low
 exact h.wrote k (λe=>by have:=hS _ e;omega) (λe=>by have:=hS _ e;omega) (λe=>by have:=hS _ e;omega) λj hj e=>by have:=hS _ e;have:=hl.2.2.2 j hj;omega
theorem seats (h:MlRaw w M s p mi) (hS:RsAt w' M.sr M.hv M.dv s') (hn:s'.n=s.n) (k:Wr (SF M.sr M.hv M.dv) w w'):MlRaw w' M s' p mi:=by
 refine ⟨?_,hS,?_,?_,h.ne,h.off,h.low⟩
 ·rw [hn];exact (k.block _ (blk_lt h.obj) λe=>(h.off _ e).1 rfl).trans h.obj
 ·rw [hn];exact (k.block _ (blk_lt h.pcs) λe=>(h.off _ e).2.1 rfl).trans h.pcs
 ·rw [hn];exact (k.block _ (blk_lt h.min) λe=>(h.off _ e).2.2 rfl).trans h.min
theorem cell0 (h:MlRaw w M s p mi):w.cell? ⟨M.r,0,none⟩=some (.pointer (some ⟨M.sr,0,none⟩)):=by rw [blk_cell h.obj];rfl
theorem cell1 (h:MlRaw w M s p mi):w.cell? ⟨M.r,1,none⟩=some (.int .i64 M.a):=by rw [blk_cell h.obj];rfl
theorem cell2 (h:MlRaw w M s p mi):w.cell? ⟨M.r,2,none⟩=some (.slice (some ⟨M.pc,0,none⟩) s.n s.n):=by rw [blk_cell h.obj];rfl
theorem cell3 (h:MlRaw w M s p mi):w.cell? ⟨M.r,3,none⟩=some (.slice (some ⟨M.mn,0,none⟩) s.n s.n):=by rw [blk_cell h.obj];rfl
theorem pcC (h:MlRaw w M s p mi) {k:Nat} (hk:k<s.n):w.cell? ⟨M.pc,k,none⟩=some (.int .i64 (b2i (p k))):=by rw [blk_cell h.pcs,rowA_at _ hk];rfl
theorem miC (h:MlRaw w M s p mi) {k:Nat} (hk:k<s.n):w.cell? ⟨M.mn,k,none⟩=some (.int .u32 (mi k)):=by rw [blk_cell h.min,rowA_at _ hk];rfl
theorem pcZ (h:MlRaw w M s p mi) (k:Nat):w.frozen? ⟨M.pc,k,none⟩=false:=blk_frozen h.pcs k
theorem miZ (h:MlRaw w M s p mi) (k:Nat):w.frozen? ⟨M.mn,k,none⟩=false:=blk_frozen h.min k
theorem setP (h:MlRaw w M s p mi) (k:Nat) (b:Bool):MlRaw (w.setCell ⟨M.pc,k,none⟩ (.int .i64 (b2i b))) M s (upd p k b) mi:=by
 have hW:Wr (One M.pc) w (w.setCell ⟨M.pc,k,none⟩ (.int .i64 (b2i b))):=(Wr.refl _ w).setCell _ _ λ_=>rfl
 refine ⟨(hW.block _ (blk_lt h.obj) h.ne.1).trans h.obj,h.seat.wrote hW λj hj e=>(h.off j hj).2.1 e,?_,(hW.block _ (blk_lt h.min) λe=>h.ne.2.2 e.symm).trans h.min,h.ne,h.off,h.low⟩
 rw [blk_setCell h.pcs,rowA_set,pcV_upd]
theorem setM (h:MlRaw w M s p mi) (k:Nat) (x:Int):MlRaw (w.setCell ⟨M.mn,k,none⟩ (.int .u32 x)) M s p (upd mi k x):=by
 have hW:Wr (One M.mn) w (w.setCell ⟨M.mn,k,none⟩ (.int .u32 x)):=(Wr.refl _ w).setCell _ _ λ_=>rfl
 refine ⟨(hW.block _ (blk_lt h.obj) h.ne.2.1).trans h.obj,h.seat.wrote hW λj hj e=>(h.off j hj).2.2 e,(hW.block _ (blk_lt h.pcs) h.ne.2.2).trans h.pcs,?_,h.ne,h.off,h.low⟩
 rw [blk_setCell h.min,rowA_set,miV_upd]
theorem lt (h:MlRaw w M s p mi) {k:Nat} (hk:MF M k):k<w.heap.size:=by
 rcases hk with rfl|rfl|hk
 ·exact blk_lt h.pcs
 ·exact blk_lt h.min
 ·exact SrAt.lt h.seat hk
end MlRaw
structure MlAt (w:World) (M:Mp) (f:FL):Prop where
 raw:∃ mi,MlRaw w M f.s f.dr mi∧(∀ k,0≤mi k∧mi k<4294967296)∧∀ k,k<f.s.n→f.dr k=true→mi k=f.num k
theorem MlAt.after {w w':World} {M:Mp} {f:FL} (h:MlAt w M f) (k:Wr Nil w w'):MlAt w' M f:=by
 obtain ⟨mi,h1,h2,h3⟩:=h.raw
 exact ⟨mi,h1.after k,h2,h3⟩
theorem mf_sf {M:Mp} {k:Nat} (h:SF M.sr M.hv M.dv k):MF M k:= .inr (.inr h)
theorem MlAt.apart {w w':World} {M:Mp} {f:FL} {S:Nat→Prop} (h:MlAt w M f) (k:Wr S w w') (h1:¬ S M.r) (h2:∀ j,MF M j→¬ S j):MlAt w' M f:=by
 obtain ⟨mi,a,b,c⟩:=h.raw
 exact ⟨mi,a.wrote k h1 (h2 _ (.inl rfl)) (h2 _ (.inr (.inl rfl))) λj hj=>h2 j (mf_sf hj),b,c⟩
theorem MlAt.seats {w w':World} {M:Mp} {f:FL} {s':SS} (h:MlAt w M f) (hS:RsAt w' M.sr M.hv M.dv s') (hn:s'.n=f.s.n) (k:Wr (SF M.sr M.hv M.dv) w w'):MlAt w' M {f with s:=s'}:=by
 obtain ⟨mi,a,b,c⟩:=h.raw
 exact ⟨mi,a.seats hS hn k,b,λj hj=>c j (by have hj:j<s'.n:=hj;omega)⟩
def ridC (d:Dd):Array Value:= #[.int .i64 d.ev,.int .i64 (b2i d.enq),.int .i64 (b2i d.arr),.int .i64 (b2i d.lead)]
theorem ridC_i64 (d:Dd) (o:Nat) (v:Value) (h:(ridC d)[o]? =some v):∃ z,v= .int .i64 z:=by
 unfold ridC at h
 match o,h with
 |0,h=>exact ⟨_,by simpa using h.symm⟩
 |1,h=>exact ⟨_,by simpa using h.symm⟩
 |2,h=>exact ⟨_,by simpa using h.symm⟩
 |3,h=>exact ⟨_,by simpa using h.symm⟩
 |o+4,h=>simp at h
theorem ref_off {X Y:World} {base r C:Nat} {ps:PSta} {d:Dd} (h:RefSt X base r ps) (k:Wr (One C) X Y) (hd:X.heap[C]? =some (.cells (ridC d) 136 (0,0))):RefSt Y base r ps:=by
 obtain ⟨bk2,so2,cap2,dv2,hr⟩:=h
 have f1:r≠C:=λe=>by
  have h1:=hr.obj;rw [e,hd] at h1;cases h1
 have f2:bk2≠C:=λe=>by
  obtain ⟨cs,h1,_⟩:=hr.counts
  rw [e,hd] at h1;cases h1
 have f3:∀ j,dv2.ownBlock=some j→j≠C:=λj hj e=>by
  rcases hr.touched.2 with ⟨rfl,_⟩|⟨g,cap,cur,rfl,_,hg,_⟩
  ·simp [Value.ownBlock] at hj
  ·obtain rfl:g=j:=by simpa [Value.ownBlock] using hj
   rw [e,hd] at hg;cases hg
 refine ⟨bk2,so2,cap2,dv2,(k.block _ (blk_lt hr.obj) f1).trans hr.obj,?_,hr.wblk,ownsRow_keep hr.touched λj hj=>k.block j (hr.touched.lt j hj).2 (f3 j hj),hr.tblk,hr.counts.of_block (k.block _ hr.counts.lt f2),hr.lv,hr.lm,hr.rngA,hr.rngV,hr.rngM,hr.rngW,hr.low⟩
 rcases hr.words.at with e0|⟨b,o,rfl,hc⟩
 ·exact ⟨hr.words.len,hr.words.empty,λb hb j hj=>by omega⟩
 ·by_cases e0:ps.ws.length=0
  ·exact ⟨hr.words.len,hr.words.empty,λb hb j hj=>by omega⟩
  ·refine hr.words.wrote k λa ha e=> ?_
   cases ha
   have hb:b=C:=e
   subst hb
   have hc0:=hc 0 (by omega)
   rw [blk_cell hd] at hc0
   obtain ⟨z,hz⟩:=ridC_i64 d _ _ hc0
   cases hz
def MG (M:Mp) (bk:Nat) (dv:Value) (k:Nat):Prop:=MF M k∨Foot M.pr bk dv k
structure Fm (w X:World) (M:Mp) (bk:Nat) (dv:Value) (s:SS) (p:Nat→Bool) (mi:Nat→Int) (ps:PSta) (R C:Nat) (d:Dd):Prop where
 raw:MlRaw X M s p mi
 ref:RefSt X M.base M.pr ps
 res:X.heap[R]? =some (.cells (ridC Dd.no) 136 (0,0))
 did:X.heap[C]? =some (.cells (ridC d) 136 (0,0))
 wr:Wr (MG M bk dv) w X
 new:w.heap.size≤R∧w.heap.size≤C∧R≠C
 old:∀ k,MG M bk dv k→k<w.heap.size
 bs:∀ k,Foot M.pr bk dv k→M.base≤k
 bw:M.base≤w.heap.size
namespace Fm
variable {w X Y:World} {M:Mp} {bk:Nat} {dv:Value} {s s':SS} {p:Nat→Bool} {mi:Nat→Int} {ps ps':PSta} {R C:Nat} {d:Dd}
theorem after (h:Fm w X M bk dv s p mi ps R C d) (k:Wr Nil X Y):Fm w Y M bk dv s p mi ps R C d:=by
 obtain ⟨bk2,so2,cap2,dv2,hr⟩:=h.ref
 exact ⟨h.raw.after k,⟨bk2,so2,cap2,dv2,hr.after k λ_ _=>id⟩,(k.block _ (blk_lt h.res) id).trans h.res,(k.block _ (blk_lt h.did) id).trans h.did,h.wr.trans k λ_ _ e=>e.elim,h.new,h.old,h.bs,h.bw⟩
theorem drew (h:Fm w X M bk dv s p mi ps R C d):Fm w X.drew M bk dv s p mi ps R C d:=h.after ((Wr.refl _ X).drew)
theorem port (h:Fm w X M bk dv s p mi ps R C d) (hR:RefSt Y M.base M.pr ps') (k:Wr (Foot M.pr bk dv) X Y):Fm w Y M bk dv s p mi ps' R C d:=by
 have hn:=h.new
 refine ⟨h.raw.port k h.bs,hR,(k.block _ (blk_lt h.res) λe=> ?_).trans h.res,(k.block _ (blk_lt h.did) λe=> ?_).trans h.did,h.wr.trans k λ_ _ e=> .inr e,h.new,h.old,h.bs,h.bw⟩
 ·have:=h.old R (.inr e);omega
 ·have:=h.old C (.inr e);omega
theorem own (h:Fm w X M bk dv s p mi ps R C d) {S:Nat→Prop} {p':Nat→Bool} {mi':Nat→Int} (hR:MlRaw Y M s' p' mi') (k:Wr S X Y) (hS:∀ b,S b→MF M b):Fm w Y M bk dv s' p' mi' ps R C d:=by
 have hn:=h.new
 have hl:∀ b,MF M b→b<M.base:=λb hb=>by
  rcases hb with rfl|rfl|hb
  ·exact h.raw.low.2.1
  ·exact h.raw.low.2.2.1
  ·exact h.raw.low.2.2.2 b hb
 obtain ⟨bk2,so2,cap2,dv2,hr⟩:=h.ref
 refine ⟨hR,⟨bk2,so2,cap2,dv2,hr.after k λb hb e=>by have:=hl b (hS b e);omega⟩,(k.block _ (blk_lt h.res) λe=> ?_).trans h.res,(k.block _ (blk_lt h.did) λe=> ?_).trans h.did,h.wr.trans k λb _ e=> .inl (hS b e),h.new,h.old,h.bs,h.bw⟩
 ·have:=h.old R (.inl (hS _ e));omega
 ·have:=h.old C (.inl (hS _ e));omega
theorem setP (h:Fm w X M bk dv s p mi ps R C d) (k:Nat) (b:Bool):Fm w (X.setCell ⟨M.pc,k,none⟩ (.int .i64 (b2i b))) M bk dv s (upd p k b) mi ps R C d:=
 h.own (S:=One M.pc) (h.raw.setP k b) ((Wr.refl _ X).setCell _ _ λ_=>rfl) λ_ e=> .inl e
theorem setM (h:Fm w X M bk dv s p mi ps R C d) (k:Nat) (x:Int):Fm w (X.setCell ⟨M.mn,k,none⟩ (.int .u32 x)) M bk dv s p (upd mi k x) ps R C d:=
 h.own (S:=One M.mn) (h.raw.setM k x) ((Wr.refl _ X).setCell _ _ λ_=>rfl) λ_ e=> .inr (.inl e)
theorem ends (h:Fm w X M bk dv s p mi ps R C d) {x:Int} {e:Ending} (hn:s'.n=s.n) (k:RsPost X M.sr M.hv M.dv s' x e Y):Fm w Y M bk dv s' p mi ps R C d:=
 h.own (h.raw.seats k.2.1 hn k.2.2) k.2.2 λ_ e=> .inr (.inr e)
theorem setD (h:Fm w X M bk dv s p mi ps R C d) (i:Nat) (v:Value) (d':Dd) (hd:(ridC d).setIfInBounds i v=ridC d'):Fm w (X.setCell ⟨C,i,none⟩ v) M bk dv s p mi ps R C d':=by
 have k:Wr (One C) X (X.setCell ⟨C,i,none⟩ v):=(Wr.refl _ X).setCell _ _ λ_=>rfl
 have hn:=h.new
 have hC:∀ b,MG M bk dv b→¬ One C b:=λb hb e=>by have:=h.old b hb;cases e;omega
 have hbw:=h.bw
 have hlr:=h.raw.low.1
 refine ⟨h.raw.wrote k (λe=>by cases e;omega) (hC _ (.inl (.inl rfl))) (hC _ (.inl (.inr (.inl rfl)))) λj hj=>hC j (.inl (.inr (.inr hj))),ref_off h.ref k h.did,(k.block _ (blk_lt h.res) λe=>hn.2.2 e).trans h.res,?_,?_,h.new,h.old,h.bs,h.bw⟩
 ·rw [blk_setCell h.did,hd]
 ·exact h.wr.trans k λb hb e=>by cases e;omega
end Fm
end Go.Proofs.YtkmikkjjnbikdaaGreat.Kf
namespace Go.Proofs.YtkmikkjjnbikdaaGreat.Kc
open _root_.Go.Proofs.Tryz
open Go.RowKit
set_option linter.unusedVariables false
set_option maxRecDepth 100000
def RaPost (base r bk:Nat) (dv:Value) (s:PSta) (v:Value) (w:World) (e:Ending) (w':World):Prop:=e= .returned v∧RefSt w' base r s∧Wr (Foot r bk dv) w w'
section
variable {w:World} {base r bk:Nat} {so:Option Addr} {cap:Nat} {dv:Value} {s:PSta}
theorem ra_load (h:RefAt w base r bk so cap dv s) (t a:Int) (hD:s.D.length<1000000) (hws:s.ws.length≤4096) (hac:s.ac.length≤64) (hbase:base≤w.heap.size):
  Calls prog 131 #[.pointer (some ⟨r,0,none⟩),.int .i64 t,.int .i64 a] w (RaPost base r bk dv (doS s t 1 a 0 0) (.int .u32 (tellS s t 1 a)) w):=by
 have c:=rdo_any h t 1 a 0 0 (by omega) (by omega) hD hws hac hbase
 clear h
 go_enter func131,ntmps131
 go_wp2_with (go_at_call 136;with_reducible refine c.mono ?_;intro e w2 hq;unfold RDoPost at hq;obtain ⟨rfl,hR,hW⟩:=hq)
 go_ret
 exact ⟨rfl,hR,hW⟩
theorem ra_swap (h:RefAt w base r bk so cap dv s) (t a d:Int) (d0:0≤d) (d1:d<4294967296) (hD:s.D.length<1000000) (hws:s.ws.length≤4096) (hac:s.ac.length≤64) (hbase:base≤w.heap.size):
  Calls prog 138 #[.pointer (some ⟨r,0,none⟩),.int .i64 t,.int .i64 a,.int .u32 d] w (RaPost base r bk dv (doS s t 3 a 0 d) (.int .u32 (tellS s t 3 a)) w):=by
 have c:=rdo_any h t 3 a 0 d d0 d1 hD hws hac hbase
 clear h
 go_enter func138,ntmps138
 go_wp2_with (go_at_call 136;with_reducible refine c.mono ?_;intro e w2 hq;unfold RDoPost at hq;obtain ⟨rfl,hR,hW⟩:=hq)
 go_ret
 exact ⟨rfl,hR,hW⟩
theorem ra_store (h:RefAt w base r bk so cap dv s) (t a v:Int) (d0:0≤v) (d1:v<4294967296) (hD:s.D.length<1000000) (hws:s.ws.length≤4096) (hac:s.ac.length≤64) (hbase:base≤w.heap.size):
  Calls prog 132 #[.pointer (some ⟨r,0,none⟩),.int .i64 t,.int .i64 a,.int .u32 v] w (RaPost base r bk dv (doS s t 2 a 0 v) (.tuple #[]) w):=by
 have c:=rdo_any h t 2 a 0 v d0 d1 hD hws hac hbase
 clear h
 go_enter func132,ntmps132
 go_wp2_with (go_at_call 136;with_reducible refine c.mono ?_;intro e w2 hq;unfold RDoPost at hq;obtain ⟨rfl,hR,hW⟩:=hq)
 go_end0
 exact ⟨rfl,hR,hW⟩
end
def rowA (n:Nat) (g:Nat→Value):Array Value:=((List.range n).map g).toArray
theorem rowA_at {n:Nat} (g:Nat→Value) {k:Nat} (hk:k<n):(rowA n g)[k]? =some (g k):=by
 unfold rowA
 rw [List.getElem?_toArray,List.getElem?_map,List.getElem?_range hk]
 rfl
theorem rowA_set (n:Nat) (g:Nat→Value) (k:Nat) (v:Value):(rowA n g).setIfInBounds k v=rowA n (upd g k v):=by
 unfold rowA
 rw [List.setIfInBounds_toArray]
 congr 1
 apply List.ext_getElem?
 intro m
 rw [List.getElem?_set,List.getElem?_map,List.getElem?_map]
 by_cases hm:m<n
 ·rw [List.getElem?_range hm]
  by_cases e:k=m
  ·subst e
   rw [if_pos rfl,if_pos (by simpa using hm)]
   show _=some (upd g k v k)
   rw [upd_same]
  ·rw [if_neg e]
   show some (g m)=some (upd g k v m)
   rw [upd_other _ _ (λx=>e x.symm)]
 ·have e0:(List.range n)[m]? =none:=List.getElem?_eq_none (by simp;omega)
  rw [e0]
  by_cases e:k=m
  ·subst e;rw [if_pos rfl,if_neg (by simpa using hm)];rfl
  ·rw [if_neg e];rfl
theorem made_row (x:Value) (n:Nat):madeCells #[x] (n*1)=rowA n (λ_=>x):=by
 apply Array.ext'
 apply List.ext_getElem?
 intro m
 unfold madeCells rowA
 rw [Nat.mul_one]
 by_cases hm:m<n
 ·rw [Array.toList_map,List.getElem?_map,Array.toList_range,List.getElem?_range hm,List.getElem?_map,List.getElem?_range hm]
  simp [Nat.mod_one]
 ·rw [List.getElem?_eq_none (by simp;omega),List.getElem?_eq_none (by simp;omega)]
def inV (m:Nat→Int) (k:Nat):Value:= .int .i64 (m k)
theorem inV_upd (m:Nat→Int) (k:Nat) (x:Int):upd (inV m) k (.int .i64 x)=inV (upd m k x):=by
 funext j
 by_cases e:j=k
 ·subst e;rw [upd_same];unfold inV;rw [upd_same]
 ·rw [upd_other _ _ e];unfold inV;rw [upd_other _ _ e]
structure Mp where
 r:Nat
 sr:Nat
 hv:Value
 dv:Value
 pc:Nat
 nd:Nat
 nc:Nat
 ah:Nat
 a:Int
 pr:Nat
 base:Nat
structure MlRaw (w:World) (M:Mp) (s:SS) (p nd ah:Nat→Int):Prop where
 obj:w.heap[M.r]? =some (.cells #[.pointer (some ⟨M.sr,0,none⟩),.int .i64 M.a,.slice (some ⟨M.pc,0,none⟩) s.n s.n,.slice (some ⟨M.nd,0,none⟩) s.n M.nc,.slice (some ⟨M.ah,0,none⟩) s.n s.n] 161 (0,0))
 seat:RsAt w M.sr M.hv M.dv s
 pcs:w.heap[M.pc]? =some (.cells (rowA s.n (inV p)) 3 (0,0))
 nds:∃ A:Array Value,w.heap[M.nd]? =some (.cells A 3 (0,0))∧∀ k,k<s.n→A[k]? =some (inV nd k)
 ahs:w.heap[M.ah]? =some (.cells (rowA s.n (inV ah)) 3 (0,0))
 ne:M.r≠M.pc∧M.r≠M.nd∧M.r≠M.ah∧M.pc≠M.nd∧M.pc≠M.ah∧M.nd≠M.ah
 off:∀ k,SF M.sr M.hv M.dv k→k≠M.r∧k≠M.pc∧k≠M.nd∧k≠M.ah
 low:M.r<M.base∧M.pc<M.base∧M.nd<M.base∧M.ah<M.base∧∀ k,SF M.sr M.hv M.dv k→k<M.base
def MF (M:Mp) (k:Nat):Prop:=k=M.pc∨k=M.nd∨k=M.ah∨SF M.sr M.hv M.dv k
theorem mf_sf {M:Mp} {k:Nat} (h:SF M.sr M.hv M.dv k):MF M k:= .inr (.inr (.inr h))
namespace MlRaw
variable {w w':World} {M:Mp} {s s':SS} {p nd ah:Nat→Int}
theorem wrote {S:Nat→Prop} (h:MlRaw w M s p nd ah) (k:Wr S w w') (h1:¬ S M.r) (h2:∀ j,MF M j→¬ S j):MlRaw w' M s p nd ah:=by
 obtain ⟨A,hA,hn⟩:=h.nds
 exact ⟨(k.block _ (blk_lt h.obj) h1).trans h.obj,h.seat.wrote k λj hj=>h2 j (mf_sf hj),(k.block _ (blk_lt h.pcs) (h2 _ (.inl rfl))).trans h.pcs,⟨A,(k.block _ (blk_lt hA) (h2 _ (.inr (.inl rfl)))).trans hA,hn⟩,(k.block _ (blk_lt h.ahs) (h2 _ (.inr (.inr (.inl rfl))))).trans h.ahs,h.ne,h.off,h.low⟩
theorem after (h:MlRaw w M s p nd ah) (k:Wr Nil w w'):MlRaw w' M s p nd ah:=h.wrote k id λ_ _=>id
theorem low2 (h:MlRaw w M s p nd ah) {k:Nat} (hk:MF M k):k<M.base:=by
 have hl:=h.low
 rcases hk with rfl|rfl|rfl|hk
 ·exact hl.2.1
 ·exact hl.2.2.1
 ·exact hl.2.2.2.1
 ·exact hl.2.2.2.2 k hk
theorem port {S:Nat→Prop} (h:MlRaw w M s p nd ah) (k:Wr S w w') (hS:∀ b,S b→M.base≤b):MlRaw w' M s p nd ah:=
 h.wrote k (λe=>by have:=hS _ e;have:=h.low.1;omega) λj hj e=>by have:=hS _ e;have:=h.low2 hj;omega
theorem seats (h:MlRaw w M s p nd ah) (hS:RsAt w' M.sr M.hv M.dv s') (hn:s'.n=s.n) (k:Wr (SF M.sr M.hv M.dv) w w'):MlRaw w' M s' p nd ah:=by
 obtain ⟨A,hA,hq⟩:=h.nds
 refine ⟨?_,hS,?_,⟨A,(k.block _ (blk_lt hA) λe=>(h.off _ e).2.2.1 rfl).trans hA,λj hj=>hq j (by omega)⟩,?_,h.ne,h.off,h.low⟩
 ·rw [hn];exact (k.block _ (blk_lt h.obj) λe=>(h.off _ e).1 rfl).trans h.obj
 ·rw [hn];exact (k.block _ (blk_lt h.pcs) λe=>(h.off _ e).2.1 rfl).trans h.pcs
 ·rw [hn];exact (k.block _ (blk_lt h.ahs) λe=>(h.off _ e).2.2.2 rfl).trans h.ahs
theorem cell0 (h:MlRaw w M s p nd ah):w.cell? ⟨M.r,0,none⟩=some (.pointer (some ⟨M.sr,0,none⟩)):=by rw [blk_cell h.obj];rfl
theorem cell1 (h:MlRaw w M s p nd ah):w.cell? ⟨M.r,1,none⟩=some (.int .i64 M.a):=by rw [blk_cell h.obj];rfl
theorem cell2 (h:MlRaw w M s p nd ah):w.cell? ⟨M.r,2,none⟩=some (.slice (some ⟨M.pc,0,none⟩) s.n s.n):=by rw [blk_cell h.obj];rfl
theorem cell3 (h:MlRaw w M s p nd ah):w.cell? ⟨M.r,3,none⟩=some (.slice (some ⟨M.nd,0,none⟩) s.n M.nc):=by rw [blk_cell h.obj];rfl
theorem cell4 (h:MlRaw w M s p nd ah):w.cell? ⟨M.r,4,none⟩=some (.slice (some ⟨M.ah,0,none⟩) s.n s.n):=by rw [blk_cell h.obj];rfl
theorem pcC (h:MlRaw w M s p nd ah) {k:Nat} (hk:k<s.n):w.cell? ⟨M.pc,k,none⟩=some (.int .i64 (p k)):=by rw [blk_cell h.pcs,rowA_at _ hk];rfl
theorem ndC (h:MlRaw w M s p nd ah) {k:Nat} (hk:k<s.n):w.cell? ⟨M.nd,k,none⟩=some (.int .i64 (nd k)):=by obtain ⟨A,hA,hq⟩:=h.nds;rw [blk_cell hA,hq k hk];rfl
theorem ahC (h:MlRaw w M s p nd ah) {k:Nat} (hk:k<s.n):w.cell? ⟨M.ah,k,none⟩=some (.int .i64 (ah k)):=by rw [blk_cell h.ahs,rowA_at _ hk];rfl
theorem pcZ (h:MlRaw w M s p nd ah) (k:Nat):w.frozen? ⟨M.pc,k,none⟩=false:=blk_frozen h.pcs k
theorem ndZ (h:MlRaw w M s p nd ah) (k:Nat):w.frozen? ⟨M.nd,k,none⟩=false:=by obtain ⟨A,hA,hq⟩:=h.nds;exact blk_frozen hA k
theorem ahZ (h:MlRaw w M s p nd ah) (k:Nat):w.frozen? ⟨M.ah,k,none⟩=false:=blk_frozen h.ahs k
theorem setP (h:MlRaw w M s p nd ah) (k:Nat) (b:Int):MlRaw (w.setCell ⟨M.pc,k,none⟩ (.int .i64 b)) M s (upd p k b) nd ah:=by
 have hW:Wr (One M.pc) w (w.setCell ⟨M.pc,k,none⟩ (.int .i64 b)):=(Wr.refl _ w).setCell _ _ λ_=>rfl
 obtain ⟨A,hA,hq⟩:=h.nds
 have hne:=h.ne
 refine ⟨(hW.block _ (blk_lt h.obj) hne.1).trans h.obj,h.seat.wrote hW λj hj e=>(h.off j hj).2.1 e,?_,⟨A,(hW.block _ (blk_lt hA) λe=>hne.2.2.2.1 e.symm).trans hA,hq⟩,(hW.block _ (blk_lt h.ahs) λe=>hne.2.2.2.2.1 e.symm).trans h.ahs,h.ne,h.off,h.low⟩
 rw [blk_setCell h.pcs,rowA_set,inV_upd]
theorem setN (h:MlRaw w M s p nd ah) (k:Nat) (x:Int):MlRaw (w.setCell ⟨M.nd,k,none⟩ (.int .i64 x)) M s p (upd nd k x) ah:=by
 have hW:Wr (One M.nd) w (w.setCell ⟨M.nd,k,none⟩ (.int .i64 x)):=(Wr.refl _ w).setCell _ _ λ_=>rfl
 obtain ⟨A,hA,hq⟩:=h.nds
 have hne:=h.ne
 refine ⟨(hW.block _ (blk_lt h.obj) hne.2.1).trans h.obj,h.seat.wrote hW λj hj e=>(h.off j hj).2.2.1 e,(hW.block _ (blk_lt h.pcs) hne.2.2.2.1).trans h.pcs,⟨A.setIfInBounds k (.int .i64 x),blk_setCell hA k _,λj hj=> ?_⟩,(hW.block _ (blk_lt h.ahs) λe=>hne.2.2.2.2.2 e.symm).trans h.ahs,h.ne,h.off,h.low⟩
 rw [←inV_upd]
 by_cases e:j=k
 ·subst e
  have hl:=(Array.getElem?_eq_some_iff.1 (hq j hj)).1
  rw [upd_same,Array.getElem?_setIfInBounds,if_pos rfl,if_pos hl]
 ·rw [upd_other _ _ e,Array.getElem?_setIfInBounds,if_neg λq=>e q.symm]
  exact hq j hj
theorem setA (h:MlRaw w M s p nd ah) (k:Nat) (x:Int):MlRaw (w.setCell ⟨M.ah,k,none⟩ (.int .i64 x)) M s p nd (upd ah k x):=by
 have hW:Wr (One M.ah) w (w.setCell ⟨M.ah,k,none⟩ (.int .i64 x)):=(Wr.refl _ w).setCell _ _ λ_=>rfl
 obtain ⟨A,hA,hq⟩:=h.nds
 have hne:=h.ne
 refine ⟨(hW.block _ (blk_lt h.obj) hne.2.2.1).trans h.obj,h.seat.wrote hW λj hj e=>(h.off j hj).2.2.2 e,(hW.block _ (blk_lt h.pcs) hne.2.2.2.2.1).trans h.pcs,⟨A,(hW.block _ (blk_lt hA) hne.2.2.2.2.2).trans hA,hq⟩,?_,h.ne,h.off,h.low⟩
 rw [blk_setCell h.ahs,rowA_set,inV_upd]
theorem lt (h:MlRaw w M s p nd ah) {k:Nat} (hk:MF M k):k<w.heap.size:=by
 rcases hk with rfl|rfl|rfl|hk
 ·exact blk_lt h.pcs
 ·obtain ⟨A,hA,hq⟩:=h.nds;exact blk_lt hA
 ·exact blk_lt h.ahs
 ·exact SrAt.lt h.seat hk
end MlRaw
structure MlAt (w:World) (M:Mp) (f:FL):Prop where
 raw:∃ ah,MlRaw w M f.s f.pc f.node ah∧∀ k,k<f.s.n→f.pc k=2→ah k=f.ahd k
theorem MlAt.after {w w':World} {M:Mp} {f:FL} (h:MlAt w M f) (k:Wr Nil w w'):MlAt w' M f:=by
 obtain ⟨ah,h1,h2⟩:=h.raw
 exact ⟨ah,h1.after k,h2⟩
theorem MlAt.apart {w w':World} {M:Mp} {f:FL} {S:Nat→Prop} (h:MlAt w M f) (k:Wr S w w') (h1:¬ S M.r) (h2:∀ j,MF M j→¬ S j):MlAt w' M f:=by
 obtain ⟨ah,a,b⟩:=h.raw
 exact ⟨ah,a.wrote k h1 h2,b⟩
theorem MlAt.seats {w w':World} {M:Mp} {f:FL} {s':SS} (h:MlAt w M f) (hS:RsAt w' M.sr M.hv M.dv s') (hn:s'.n=f.s.n) (k:Wr (SF M.sr M.hv M.dv) w w'):MlAt w' M {f with s:=s'}:=by
 obtain ⟨ah,a,b⟩:=h.raw
 exact ⟨ah,a.seats hS hn k,λj hj=>b j (by have hj:j<s'.n:=hj;omega)⟩
def ridC (d:Dd):Array Value:= #[.int .i64 d.ev,.int .i64 (b2i d.enq),.int .i64 (b2i d.arr),.int .i64 (b2i d.lead)]
theorem ridC_i64 (d:Dd) (o:Nat) (v:Value) (h:(ridC d)[o]? =some v):∃ z,v= .int .i64 z:=by
 unfold ridC at h
 match o,h with
 |0,h=>exact ⟨_,by simpa using h.symm⟩
 |1,h=>exact ⟨_,by simpa using h.symm⟩
 |2,h=>exact ⟨_,by simpa using h.symm⟩
 |3,h=>exact ⟨_,by simpa using h.symm⟩
 |o+4,h=>simp at h
theorem ref_off_at {X Y:World} {base r bk C:Nat} {so:Option Addr} {cap:Nat} {dv:Value} {ps:PSta} {d:Dd} (hr:RefAt X base r bk so cap dv ps) (k:Wr (One C) X Y) (hd:X.heap[C]? =some (.cells (ridC d) 136 (0,0))):RefAt Y base r bk so cap dv ps:=by
 have f1:r≠C:=λe=>by
  have h1:=hr.obj;rw [e,hd] at h1;cases h1
 have f2:bk≠C:=λe=>by
  obtain ⟨cs,h1,_⟩:=hr.counts
  rw [e,hd] at h1;cases h1
 have f3:∀ j,dv.ownBlock=some j→j≠C:=λj hj e=>by
  rcases hr.touched.2 with ⟨rfl,_⟩|⟨g,cap,cur,rfl,_,hg,_⟩
  ·simp [Value.ownBlock] at hj
  ·obtain rfl:g=j:=by simpa [Value.ownBlock] using hj
   rw [e,hd] at hg;cases hg
 refine ⟨(k.block _ (blk_lt hr.obj) f1).trans hr.obj,?_,hr.wblk,ownsRow_keep hr.touched λj hj=>k.block j (hr.touched.lt j hj).2 (f3 j hj),hr.tblk,hr.counts.of_block (k.block _ hr.counts.lt f2),hr.lv,hr.lm,hr.rngA,hr.rngV,hr.rngM,hr.rngW,hr.low⟩
 rcases hr.words.at with e0|⟨b,o,rfl,hc⟩
 ·exact ⟨hr.words.len,hr.words.empty,λb hb j hj=>by omega⟩
 ·by_cases e0:ps.ws.length=0
  ·exact ⟨hr.words.len,hr.words.empty,λb hb j hj=>by omega⟩
  ·refine hr.words.wrote k λa ha e=> ?_
   cases ha
   have hb:b=C:=e
   subst hb
   have hc0:=hc 0 (by omega)
   rw [blk_cell hd] at hc0
   obtain ⟨z,hz⟩:=ridC_i64 d _ _ hc0
   cases hz
theorem ref_off {X Y:World} {base r C:Nat} {ps:PSta} {d:Dd} (h:RefSt X base r ps) (k:Wr (One C) X Y) (hd:X.heap[C]? =some (.cells (ridC d) 136 (0,0))):RefSt Y base r ps:=by
 obtain ⟨bk2,so2,cap2,dv2,hr⟩:=h
 exact ⟨bk2,so2,cap2,dv2,ref_off_at hr k hd⟩
def MG (M:Mp) (bk:Nat) (dv:Value) (k:Nat):Prop:=MF M k∨Foot M.pr bk dv k
structure Fm (w X:World) (M:Mp) (bk:Nat) (dv:Value) (s:SS) (p nd ah:Nat→Int) (ps:PSta) (R C:Nat) (d:Dd):Prop where
 raw:MlRaw X M s p nd ah
 ref:RefSt X M.base M.pr ps
 res:X.heap[R]? =some (.cells (ridC Dd.no) 136 (0,0))
 did:X.heap[C]? =some (.cells (ridC d) 136 (0,0))
 wr:Wr (MG M bk dv) w X
 new:w.heap.size≤R∧w.heap.size≤C∧R≠C
 old:∀ k,MG M bk dv k→k<w.heap.size
 bs:∀ k,Foot M.pr bk dv k→M.base≤k
 bw:M.base≤w.heap.size
namespace Fm
variable {w X Y:World} {M:Mp} {bk:Nat} {dv:Value} {s s':SS} {p nd ah:Nat→Int} {ps ps':PSta} {R C:Nat} {d:Dd}
theorem after (h:Fm w X M bk dv s p nd ah ps R C d) (k:Wr Nil X Y):Fm w Y M bk dv s p nd ah ps R C d:=by
 obtain ⟨bk2,so2,cap2,dv2,hr⟩:=h.ref
 exact ⟨h.raw.after k,⟨bk2,so2,cap2,dv2,hr.after k λ_ _=>id⟩,(k.block _ (blk_lt h.res) id).trans h.res,(k.block _ (blk_lt h.did) id).trans h.did,h.wr.trans k λ_ _ e=>e.elim,h.new,h.old,h.bs,h.bw⟩
theorem drew (h:Fm w X M bk dv s p nd ah ps R C d):Fm w X.drew M bk dv s p nd ah ps R C d:=h.after ((Wr.refl _ X).drew)
theorem drewN (h:Fm w X M bk dv s p nd ah ps R C d) (n:Nat):Fm w (X.drewN n) M bk dv s p nd ah ps R C d:=h.after ((Wr.refl _ X).drewN n)
theorem port (h:Fm w X M bk dv s p nd ah ps R C d) (hR:RefSt Y M.base M.pr ps') (k:Wr (Foot M.pr bk dv) X Y):Fm w Y M bk dv s p nd ah ps' R C d:=by
 have hn:=h.new
 refine ⟨h.raw.port k h.bs,hR,(k.block _ (blk_lt h.res) λe=> ?_).trans h.res,(k.block _ (blk_lt h.did) λe=> ?_).trans h.did,h.wr.trans k λ_ _ e=> .inr e,h.new,h.old,h.bs,h.bw⟩
 ·have:=h.old R (.inr e);omega
 ·have:=h.old C (.inr e);omega
theorem own (h:Fm w X M bk dv s p nd ah ps R C d) {S:Nat→Prop} {p' nd' ah':Nat→Int} (hR:MlRaw Y M s' p' nd' ah') (k:Wr S X Y) (hS:∀ b,S b→MF M b):Fm w Y M bk dv s' p' nd' ah' ps R C d:=by
 have hn:=h.new
 have hl:∀ b,MF M b→b<M.base:=λb hb=>h.raw.low2 hb
 obtain ⟨bk2,so2,cap2,dv2,hr⟩:=h.ref
 refine ⟨hR,⟨bk2,so2,cap2,dv2,hr.after k λb hb e=>by have:=hl b (hS b e);omega⟩,(k.block _ (blk_lt h.res) λe=> ?_).trans h.res,(k.block _ (blk_lt h.did) λe=> ?_).trans h.did,h.wr.trans k λb _ e=> .inl (hS b e),h.new,h.old,h.bs,h.bw⟩
 ·have:=h.old R (.inl (hS _ e));omega
 ·have:=h.old C (.inl (hS _ e));omega
theorem setP (h:Fm w X M bk dv s p nd ah ps R C d) (k:Nat) (b:Int):Fm w (X.setCell ⟨M.pc,k,none⟩ (.int .i64 b)) M bk dv s (upd p k b) nd ah ps R C d:=
 h.own (S:=One M.pc) (h.raw.setP k b) ((Wr.refl _ X).setCell _ _ λ_=>rfl) λ_ e=> .inl e
theorem setN (h:Fm w X M bk dv s p nd ah ps R C d) (k:Nat) (x:Int):Fm w (X.setCell ⟨M.nd,k,none⟩ (.int .i64 x)) M bk dv s p (upd nd k x) ah ps R C d:=
 h.own (S:=One M.nd) (h.raw.setN k x) ((Wr.refl _ X).setCell _ _ λ_=>rfl) λ_ e=> .inr (.inl e)
theorem setA (h:Fm w X M bk dv s p nd ah ps R C d) (k:Nat) (x:Int):Fm w (X.setCell ⟨M.ah,k,none⟩ (.int .i64 x)) M bk dv s p nd (upd ah k x) ps R C d:=
 h.own (S:=One M.ah) (h.raw.setA k x) ((Wr.refl _ X).setCell _ _ λ_=>rfl) λ_ e=> .inr (.inr (.inl e))
theorem ends (h:Fm w X M bk dv s p nd ah ps R C d) {x:Int} {e:Ending} (hn:s'.n=s.n) (k:RsPost X M.sr M.hv M.dv s' x e Y):Fm w Y M bk dv s' p nd ah ps R C d:=
 h.own (h.raw.seats k.2.1 hn k.2.2) k.2.2 λ_ e=>mf_sf e
theorem setD (h:Fm w X M bk dv s p nd ah ps R C d) (i:Nat) (v:Value) (d':Dd) (hd:(ridC d).setIfInBounds i v=ridC d'):Fm w (X.setCell ⟨C,i,none⟩ v) M bk dv s p nd ah ps R C d':=by
 have k:Wr (One C) X (X.setCell ⟨C,i,none⟩ v):=(Wr.refl _ X).setCell _ _ λ_=>rfl
 have hn:=h.new
 have hC:∀ b,MG M bk dv b→¬ One C b:=λb hb e=>by have:=h.old b hb;cases e;omega
 have hbw:=h.bw
 have hlr:=h.raw.low.1
 refine ⟨h.raw.wrote k (λe=>by cases e;omega) λj hj=>hC j (.inl hj),ref_off h.ref k h.did,(k.block _ (blk_lt h.res) λe=>hn.2.2 e).trans h.res,?_,?_,h.new,h.old,h.bs,h.bw⟩
 ·rw [blk_setCell h.did,hd]
 ·exact h.wr.trans k λb hb e=>by cases e;omega
end Fm
end Go.Proofs.YtkmikkjjnbikdaaGreat.Kc
namespace Go.Proofs.YtkmikkjjnbikdaaGreat.Km
open _root_.Go.Proofs.Tryz
open Go.RowKit
set_option linter.unusedVariables false
set_option maxRecDepth 100000
def RaPost (base r bk:Nat) (dv:Value) (s:PSta) (v:Value) (w:World) (e:Ending) (w':World):Prop:=e= .returned v∧RefSt w' base r s∧Wr (Foot r bk dv) w w'
section
variable {w:World} {base r bk:Nat} {so:Option Addr} {cap:Nat} {dv:Value} {s:PSta}
theorem ra_load (h:RefAt w base r bk so cap dv s) (t a:Int) (hD:s.D.length<1000000) (hws:s.ws.length≤4096) (hac:s.ac.length≤64) (hbase:base≤w.heap.size):
  Calls prog 131 #[.pointer (some ⟨r,0,none⟩),.int .i64 t,.int .i64 a] w (RaPost base r bk dv (doS s t 1 a 0 0) (.int .u32 (tellS s t 1 a)) w):=by
 have c:=rdo_any h t 1 a 0 0 (by omega) (by omega) hD hws hac hbase
 clear h
 go_enter func131,ntmps131
 go_wp2_with (go_at_call 136;with_reducible refine c.mono ?_;intro e w2 hq;unfold RDoPost at hq;obtain ⟨rfl,hR,hW⟩:=hq)
 go_ret
 exact ⟨rfl,hR,hW⟩
theorem ra_swap (h:RefAt w base r bk so cap dv s) (t a d:Int) (d0:0≤d) (d1:d<4294967296) (hD:s.D.length<1000000) (hws:s.ws.length≤4096) (hac:s.ac.length≤64) (hbase:base≤w.heap.size):
  Calls prog 138 #[.pointer (some ⟨r,0,none⟩),.int .i64 t,.int .i64 a,.int .u32 d] w (RaPost base r bk dv (doS s t 3 a 0 d) (.int .u32 (tellS s t 3 a)) w):=by
 have c:=rdo_any h t 3 a 0 d d0 d1 hD hws hac hbase
 clear h
 go_enter func138,ntmps138
 go_wp2_with (go_at_call 136;with_reducible refine c.mono ?_;intro e w2 hq;unfold RDoPost at hq;obtain ⟨rfl,hR,hW⟩:=hq)
 go_ret
 exact ⟨rfl,hR,hW⟩
theorem ra_store (h:RefAt w base r bk so cap dv s) (t a v:Int) (d0:0≤v) (d1:v<4294967296) (hD:s.D.length<1000000) (hws:s.ws.length≤4096) (hac:s.ac.length≤64) (hbase:base≤w.heap.size):
  Calls prog 132 #[.pointer (some ⟨r,0,none⟩),.int .i64 t,.int .i64 a,.int .u32 v] w (RaPost base r bk dv (doS s t 2 a 0 v) (.tuple #[]) w):=by
 have c:=rdo_any h t 2 a 0 v d0 d1 hD hws hac hbase
 clear h
 go_enter func132,ntmps132
 go_wp2_with (go_at_call 136;with_reducible refine c.mono ?_;intro e w2 hq;unfold RDoPost at hq;obtain ⟨rfl,hR,hW⟩:=hq)
 go_end0
 exact ⟨rfl,hR,hW⟩
theorem did_cas (s:PSta) (t a old:Int):(didS s t 4 a old==1)=casT s t a old:=by
 unfold didS okS casT
 rw [show decide ((1:Int)≤4∧(4:Int)≤5)=true by decide,Bool.and_true]
 cases okT s t a
 ·rfl
 ·rw [if_pos rfl,Bool.true_and]
  unfold didI
  cases casB s.ws a old
  ·rw [if_neg (λq=>absurd q.2 (by decide))];rfl
  ·rw [if_pos ⟨rfl,rfl⟩];rfl
theorem ra_cas (h:RefAt w base r bk so cap dv s) (t a old v:Int) (d0:0≤v) (d1:v<4294967296) (hD:s.D.length<1000000) (hws:s.ws.length≤4096) (hac:s.ac.length≤64) (hbase:base≤w.heap.size):
  Calls prog 139 #[.pointer (some ⟨r,0,none⟩),.int .i64 t,.int .i64 a,.int .u32 old,.int .u32 v] w (RaPost base r bk dv (doS s t 4 a old v) (.bool (casT s t a old)) w):=by
 have c:=rdo_any h t 4 a old v d0 d1 hD hws hac hbase
 have e:=did_cas s t a old
 generalize didS s t 4 a old=x at*
 clear h
 go_enter func139,ntmps139
 go_wp2_with (go_at_call 136;with_reducible refine c.mono ?_;intro e w2 hq;unfold RDoPost at hq;obtain ⟨rfl,hR,hW⟩:=hq)
 go_ret
 exact ⟨by first|rfl|rw [e],hR,hW⟩
end
def rowA (n:Nat) (g:Nat→Value):Array Value:=((List.range n).map g).toArray
theorem rowA_at {n:Nat} (g:Nat→Value) {k:Nat} (hk:k<n):(rowA n g)[k]? =some (g k):=by
 unfold rowA
 rw [List.getElem?_toArray,List.getElem?_map,List.getElem?_range hk]
 rfl
theorem rowA_set (n:Nat) (g:Nat→Value) (k:Nat) (v:Value):(rowA n g).setIfInBounds k v=rowA n (upd g k v):=by
 unfold rowA
 rw [List.setIfInBounds_toArray]
 congr 1
 apply List.ext_getElem?
 intro m
 rw [List.getElem?_set,List.getElem?_map,List.getElem?_map]
 by_cases hm:m<n
 ·rw [List.getElem?_range hm]
  by_cases e:k=m
  ·subst e
   rw [if_pos rfl,if_pos (by simpa using hm)]
   show _=some (upd g k v k)
   rw [upd_same]
  ·rw [if_neg e]
   show some (g m)=some (upd g k v m)
   rw [upd_other _ _ (λx=>e x.symm)]
 ·have e0:(List.range n)[m]? =none:=List.getElem?_eq_none (by simp;omega)
  rw [e0]
  by_cases e:k=m
  ·subst e;rw [if_pos rfl,if_neg (by simpa using hm)];rfl
  ·rw [if_neg e];rfl
theorem made_row (x:Value) (n:Nat):madeCells #[x] (n*1)=rowA n (λ_=>x):=by
 apply Array.ext'
 apply List.ext_getElem?
 intro m
 unfold madeCells rowA
 rw [Nat.mul_one]
 by_cases hm:m<n
 ·rw [Array.toList_map,List.getElem?_map,Array.toList_range,List.getElem?_range hm,List.getElem?_map,List.getElem?_range hm]
  simp [Nat.mod_one]
 ·rw [List.getElem?_eq_none (by simp;omega),List.getElem?_eq_none (by simp;omega)]
def inV (m:Nat→Int) (k:Nat):Value:= .int .i64 (m k)
theorem inV_upd (m:Nat→Int) (k:Nat) (x:Int):upd (inV m) k (.int .i64 x)=inV (upd m k x):=by
 funext j
 by_cases e:j=k
 ·subst e;rw [upd_same];unfold inV;rw [upd_same]
 ·rw [upd_other _ _ e];unfold inV;rw [upd_other _ _ e]
structure Mp where
 r:Nat
 sr:Nat
 hv:Value
 dv:Value
 pc:Nat
 ot:Nat
 a:Int
 pr:Nat
 base:Nat
structure MlRaw (w:World) (M:Mp) (s:SS) (p o:Nat→Int):Prop where
 obj:w.heap[M.r]? =some (.cells #[.pointer (some ⟨M.sr,0,none⟩),.int .i64 M.a,.slice (some ⟨M.pc,0,none⟩) s.n s.n,.slice (some ⟨M.ot,0,none⟩) s.n s.n] 163 (0,0))
 seat:RsAt w M.sr M.hv M.dv s
 pcs:w.heap[M.pc]? =some (.cells (rowA s.n (inV p)) 3 (0,0))
 ots:w.heap[M.ot]? =some (.cells (rowA s.n (inV o)) 3 (0,0))
 ne:M.r≠M.pc∧M.r≠M.ot∧M.pc≠M.ot
 off:∀ k,SF M.sr M.hv M.dv k→k≠M.r∧k≠M.pc∧k≠M.ot
 low:M.r<M.base∧M.pc<M.base∧M.ot<M.base∧∀ k,SF M.sr M.hv M.dv k→k<M.base
def MF (M:Mp) (k:Nat):Prop:=k=M.pc∨k=M.ot∨SF M.sr M.hv M.dv k
theorem mf_sf {M:Mp} {k:Nat} (h:SF M.sr M.hv M.dv k):MF M k:= .inr (.inr h)
namespace MlRaw
variable {w w':World} {M:Mp} {s s':SS} {p o:Nat→Int}
theorem wrote {S:Nat→Prop} (h:MlRaw w M s p o) (k:Wr S w w') (h1:¬ S M.r) (h2:∀ j,MF M j→¬ S j):MlRaw w' M s p o:=
 ⟨(k.block _ (blk_lt h.obj) h1).trans h.obj,h.seat.wrote k λj hj=>h2 j (mf_sf hj),(k.block _ (blk_lt h.pcs) (h2 _ (.inl rfl))).trans h.pcs,(k.block _ (blk_lt h.ots) (h2 _ (.inr (.inl rfl)))).trans h.ots,h.ne,h.off,h.low⟩
theorem after (h:MlRaw w M s p o) (k:Wr Nil w w'):MlRaw w' M s p o:=h.wrote k id λ_ _=>id
theorem low2 (h:MlRaw w M s p o) {k:Nat} (hk:MF M k):k<M.base:=by
 have hl:=h.low
 rcases hk with rfl|rfl|hk
 ·exact hl.2.1
 ·exact hl.2.2.1
 ·exact hl.2.2.2 k hk
theorem port {S:Nat→Prop} (h:MlRaw w M s p o) (k:Wr S w w') (hS:∀ b,S b→M.base≤b):MlRaw w' M s p o:=
 h.wrote k (λe=>by have:=hS _ e;have:=h.low.1;omega) λj hj e=>by have:=hS _ e;have:=h.low2 hj;omega
theorem seats (h:MlRaw w M s p o) (hS:RsAt w' M.sr M.hv M.dv s') (hn:s'.n=s.n) (k:Wr (SF M.sr M.hv M.dv) w w'):MlRaw w' M s' p o:=by
 refine ⟨?_,hS,?_,?_,h.ne,h.off,h.low⟩
 ·rw [hn];exact (k.block _ (blk_lt h.obj) λe=>(h.off _ e).1 rfl).trans h.obj
 ·rw [hn];exact (k.block _ (blk_lt h.pcs) λe=>(h.off _ e).2.1 rfl).trans h.pcs
 ·rw [hn];exact (k.block _ (blk_lt h.ots) λe=>(h.off _ e).2.2 rfl).trans h.ots
theorem cell0 (h:MlRaw w M s p o):w.cell? ⟨M.r,0,none⟩=some (.pointer (some ⟨M.sr,0,none⟩)):=by rw [blk_cell h.obj];rfl
theorem cell1 (h:MlRaw w M s p o):w.cell? ⟨M.r,1,none⟩=some (.int .i64 M.a):=by rw [blk_cell h.obj];rfl
theorem cell2 (h:MlRaw w M s p o):w.cell? ⟨M.r,2,none⟩=some (.slice (some ⟨M.pc,0,none⟩) s.n s.n):=by rw [blk_cell h.obj];rfl
theorem cell3 (h:MlRaw w M s p o):w.cell? ⟨M.r,3,none⟩=some (.slice (some ⟨M.ot,0,none⟩) s.n s.n):=by rw [blk_cell h.obj];rfl
theorem pcC (h:MlRaw w M s p o) {k:Nat} (hk:k<s.n):w.cell? ⟨M.pc,k,none⟩=some (.int .i64 (p k)):=by rw [blk_cell h.pcs,rowA_at _ hk];rfl
theorem otC (h:MlRaw w M s p o) {k:Nat} (hk:k<s.n):w.cell? ⟨M.ot,k,none⟩=some (.int .i64 (o k)):=by rw [blk_cell h.ots,rowA_at _ hk];rfl
theorem pcZ (h:MlRaw w M s p o) (k:Nat):w.frozen? ⟨M.pc,k,none⟩=false:=blk_frozen h.pcs k
theorem otZ (h:MlRaw w M s p o) (k:Nat):w.frozen? ⟨M.ot,k,none⟩=false:=blk_frozen h.ots k
theorem setP (h:MlRaw w M s p o) (k:Nat) (b:Int):MlRaw (w.setCell ⟨M.pc,k,none⟩ (.int .i64 b)) M s (upd p k b) o:=by
 have hW:Wr (One M.pc) w (w.setCell ⟨M.pc,k,none⟩ (.int .i64 b)):=(Wr.refl _ w).setCell _ _ λ_=>rfl
 have hne:=h.ne
 refine ⟨(hW.block _ (blk_lt h.obj) hne.1).trans h.obj,h.seat.wrote hW λj hj e=>(h.off j hj).2.1 e,?_,(hW.block _ (blk_lt h.ots) λe=>hne.2.2 e.symm).trans h.ots,h.ne,h.off,h.low⟩
 rw [blk_setCell h.pcs,rowA_set,inV_upd]
theorem setO (h:MlRaw w M s p o) (k:Nat) (x:Int):MlRaw (w.setCell ⟨M.ot,k,none⟩ (.int .i64 x)) M s p (upd o k x):=by
 have hW:Wr (One M.ot) w (w.setCell ⟨M.ot,k,none⟩ (.int .i64 x)):=(Wr.refl _ w).setCell _ _ λ_=>rfl
 have hne:=h.ne
 refine ⟨(hW.block _ (blk_lt h.obj) hne.2.1).trans h.obj,h.seat.wrote hW λj hj e=>(h.off j hj).2.2 e,(hW.block _ (blk_lt h.pcs) hne.2.2).trans h.pcs,?_,h.ne,h.off,h.low⟩
 rw [blk_setCell h.ots,rowA_set,inV_upd]
theorem lt (h:MlRaw w M s p o) {k:Nat} (hk:MF M k):k<w.heap.size:=by
 rcases hk with rfl|rfl|hk
 ·exact blk_lt h.pcs
 ·exact blk_lt h.ots
 ·exact SrAt.lt h.seat hk
end MlRaw
def ridC (d:Dd):Array Value:= #[.int .i64 d.ev,.int .i64 (b2i d.enq),.int .i64 (b2i d.arr),.int .i64 (b2i d.lead)]
theorem ridC_i64 (d:Dd) (o:Nat) (v:Value) (h:(ridC d)[o]? =some v):∃ z,v= .int .i64 z:=by
 unfold ridC at h
 match o,h with
 |0,h=>exact ⟨_,by simpa using h.symm⟩
 |1,h=>exact ⟨_,by simpa using h.symm⟩
 |2,h=>exact ⟨_,by simpa using h.symm⟩
 |3,h=>exact ⟨_,by simpa using h.symm⟩
 |o+4,h=>simp at h
theorem ref_off_at {X Y:World} {base r bk C:Nat} {so:Option Addr} {cap:Nat} {dv:Value} {ps:PSta} {d:Dd} (hr:RefAt X base r bk so cap dv ps) (k:Wr (One C) X Y) (hd:X.heap[C]? =some (.cells (ridC d) 136 (0,0))):RefAt Y base r bk so cap dv ps:=by
 have f1:r≠C:=λe=>by
  have h1:=hr.obj;rw [e,hd] at h1;cases h1
 have f2:bk≠C:=λe=>by
  obtain ⟨cs,h1,_⟩:=hr.counts
  rw [e,hd] at h1;cases h1
 have f3:∀ j,dv.ownBlock=some j→j≠C:=λj hj e=>by
  rcases hr.touched.2 with ⟨rfl,_⟩|⟨g,cap,cur,rfl,_,hg,_⟩
  ·simp [Value.ownBlock] at hj
  ·obtain rfl:g=j:=by simpa [Value.ownBlock] using hj
   rw [e,hd] at hg;cases hg
 refine ⟨(k.block _ (blk_lt hr.obj) f1).trans hr.obj,?_,hr.wblk,ownsRow_keep hr.touched λj hj=>k.block j (hr.touched.lt j hj).2 (f3 j hj),hr.tblk,hr.counts.of_block (k.block _ hr.counts.lt f2),hr.lv,hr.lm,hr.rngA,hr.rngV,hr.rngM,hr.rngW,hr.low⟩
 rcases hr.words.at with e0|⟨b,o,rfl,hc⟩
 ·exact ⟨hr.words.len,hr.words.empty,λb hb j hj=>by omega⟩
 ·by_cases e0:ps.ws.length=0
  ·exact ⟨hr.words.len,hr.words.empty,λb hb j hj=>by omega⟩
  ·refine hr.words.wrote k λa ha e=> ?_
   cases ha
   have hb:b=C:=e
   subst hb
   have hc0:=hc 0 (by omega)
   rw [blk_cell hd] at hc0
   obtain ⟨z,hz⟩:=ridC_i64 d _ _ hc0
   cases hz
theorem ref_off {X Y:World} {base r C:Nat} {ps:PSta} {d:Dd} (h:RefSt X base r ps) (k:Wr (One C) X Y) (hd:X.heap[C]? =some (.cells (ridC d) 136 (0,0))):RefSt Y base r ps:=by
 obtain ⟨bk2,so2,cap2,dv2,hr⟩:=h
 exact ⟨bk2,so2,cap2,dv2,ref_off_at hr k hd⟩
def MG (M:Mp) (bk:Nat) (dv:Value) (k:Nat):Prop:=MF M k∨Foot M.pr bk dv k
structure Fm (w X:World) (M:Mp) (bk:Nat) (dv:Value) (s:SS) (p o:Nat→Int) (ps:PSta) (R C:Nat) (d:Dd):Prop where
 raw:MlRaw X M s p o
 ref:RefSt X M.base M.pr ps
 res:X.heap[R]? =some (.cells (ridC Dd.no) 136 (0,0))
 did:X.heap[C]? =some (.cells (ridC d) 136 (0,0))
 wr:Wr (MG M bk dv) w X
 new:w.heap.size≤R∧w.heap.size≤C∧R≠C
 old:∀ k,MG M bk dv k→k<w.heap.size
 bs:∀ k,Foot M.pr bk dv k→M.base≤k
 bw:M.base≤w.heap.size
namespace Fm
variable {w X Y:World} {M:Mp} {bk:Nat} {dv:Value} {s s':SS} {p o:Nat→Int} {ps ps':PSta} {R C:Nat} {d:Dd}
theorem after (h:Fm w X M bk dv s p o ps R C d) (k:Wr Nil X Y):Fm w Y M bk dv s p o ps R C d:=by
 obtain ⟨bk2,so2,cap2,dv2,hr⟩:=h.ref
 exact ⟨h.raw.after k,⟨bk2,so2,cap2,dv2,hr.after k λ_ _=>id⟩,(k.block _ (blk_lt h.res) id).trans h.res,(k.block _ (blk_lt h.did) id).trans h.did,h.wr.trans k λ_ _ e=>e.elim,h.new,h.old,h.bs,h.bw⟩
theorem drew (h:Fm w X M bk dv s p o ps R C d):Fm w X.drew M bk dv s p o ps R C d:=h.after ((Wr.refl _ X).drew)
theorem port (h:Fm w X M bk dv s p o ps R C d) (hR:RefSt Y M.base M.pr ps') (k:Wr (Foot M.pr bk dv) X Y):Fm w Y M bk dv s p o ps' R C d:=by
 have hn:=h.new
 refine ⟨h.raw.port k h.bs,hR,(k.block _ (blk_lt h.res) λe=> ?_).trans h.res,(k.block _ (blk_lt h.did) λe=> ?_).trans h.did,h.wr.trans k λ_ _ e=> .inr e,h.new,h.old,h.bs,h.bw⟩
 ·have:=h.old R (.inr e);omega
 ·have:=h.old C (.inr e);omega
theorem own (h:Fm w X M bk dv s p o ps R C d) {S:Nat→Prop} {p' o':Nat→Int} (hR:MlRaw Y M s' p' o') (k:Wr S X Y) (hS:∀ b,S b→MF M b):Fm w Y M bk dv s' p' o' ps R C d:=by
 have hn:=h.new
 have hl:∀ b,MF M b→b<M.base:=λb hb=>h.raw.low2 hb
 obtain ⟨bk2,so2,cap2,dv2,hr⟩:=h.ref
 refine ⟨hR,⟨bk2,so2,cap2,dv2,hr.after k λb hb e=>by have:=hl b (hS b e);omega⟩,(k.block _ (blk_lt h.res) λe=> ?_).trans h.res,(k.block _ (blk_lt h.did) λe=> ?_).trans h.did,h.wr.trans k λb _ e=> .inl (hS b e),h.new,h.old,h.bs,h.bw⟩
 ·have:=h.old R (.inl (hS _ e));omega
 ·have:=h.old C (.inl (hS _ e));omega
theorem setP (h:Fm w X M bk dv s p o ps R C d) (k:Nat) (b:Int):Fm w (X.setCell ⟨M.pc,k,none⟩ (.int .i64 b)) M bk dv s (upd p k b) o ps R C d:=
 h.own (S:=One M.pc) (h.raw.setP k b) ((Wr.refl _ X).setCell _ _ λ_=>rfl) λ_ e=> .inl e
theorem setO (h:Fm w X M bk dv s p o ps R C d) (k:Nat) (x:Int):Fm w (X.setCell ⟨M.ot,k,none⟩ (.int .i64 x)) M bk dv s p (upd o k x) ps R C d:=
 h.own (S:=One M.ot) (h.raw.setO k x) ((Wr.refl _ X).setCell _ _ λ_=>rfl) λ_ e=> .inr (.inl e)
theorem ends (h:Fm w X M bk dv s p o ps R C d) {x:Int} {e:Ending} (hn:s'.n=s.n) (k:RsPost X M.sr M.hv M.dv s' x e Y):Fm w Y M bk dv s' p o ps R C d:=
 h.own (h.raw.seats k.2.1 hn k.2.2) k.2.2 λ_ e=>mf_sf e
theorem setD (h:Fm w X M bk dv s p o ps R C d) (i:Nat) (v:Value) (d':Dd) (hd:(ridC d).setIfInBounds i v=ridC d'):Fm w (X.setCell ⟨C,i,none⟩ v) M bk dv s p o ps R C d':=by
 have k:Wr (One C) X (X.setCell ⟨C,i,none⟩ v):=(Wr.refl _ X).setCell _ _ λ_=>rfl
 have hn:=h.new
 have hC:∀ b,MG M bk dv b→¬ One C b:=λb hb e=>by have:=h.old b hb;cases e;omega
 have hbw:=h.bw
 have hlr:=h.raw.low.1
 refine ⟨h.raw.wrote k (λe=>by cases e;omega) λj hj=>hC j (.inl hj),ref_off h.ref k h.did,(k.block _ (blk_lt h.res) λe=>hn.2.2 e).trans h.res,?_,?_,h.new,h.old,h.bs,h.bw⟩
 ·rw [blk_setCell h.did,hd]
 ·exact h.wr.trans k λb hb e=>by cases e;omega
end Fm
end Go.Proofs.YtkmikkjjnbikdaaGreat.Km
