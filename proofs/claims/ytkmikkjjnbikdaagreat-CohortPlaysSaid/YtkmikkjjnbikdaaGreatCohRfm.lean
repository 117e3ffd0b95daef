import Derived.Test.YtkmikkjjnbikdaaGreatCohRdo
namespace Go.Proofs.YtkmikkjjnbikdaaGreat
open Go.Deep
open Go.RowKit Go.BigFrame
set_option linter.unusedVariables false
set_option maxRecDepth 100000
def MF (M:Mp) (k:Nat):Prop:=∃ i,i≠0∧M.Pt i k
theorem mf_sf {M:Mp} {k:Nat} (h:SF M.sr M.hv M.dv k):MF M k:=⟨1,by decide,h⟩
def MG (M:Mp) (bk:Nat) (dv:Value) (k:Nat):Prop:=MF M k∨Foot M.pr bk dv k
structure Cs (X:World) (M:Mp) (n k c o:Nat) (κ:Int) (p1 p2 p3:Option Addr) (κ':Int) (q1 q2 q3:Option Addr) (ph got:Int):Prop where
 c0:X.cell? ⟨M.r,0,none⟩=some (.pointer (some ⟨M.sr,0,none⟩))
 c1:X.cell? ⟨M.r,1,none⟩=some (.int .i64 M.a)
 c2:X.cell? ⟨M.r,2,none⟩=some (.int .i64 M.B)
 g0:X.cell? ⟨M.r,3,none⟩=some (.int .i64 κ')
 g1:X.cell? ⟨M.r,4,none⟩=some (.pointer q1)
 g2:X.cell? ⟨M.r,5,none⟩=some (.pointer q2)
 g3:X.cell? ⟨M.r,6,none⟩=some (.pointer q3)
 l0:X.cell? ⟨M.r,7+c*4,none⟩=some (.int .i64 κ)
 l1:X.cell? ⟨M.r,7+c*4+1,none⟩=some (.pointer p1)
 l2:X.cell? ⟨M.r,7+c*4+2,none⟩=some (.pointer p2)
 l3:X.cell? ⟨M.r,7+c*4+3,none⟩=some (.pointer p3)
 c39:X.cell? ⟨M.r,39,none⟩=some (.slice (some ⟨M.nd,M.no,none⟩) n M.nc)
 c40:X.cell? ⟨M.r,40,none⟩=some (.slice (some ⟨M.ow,M.oo,none⟩) n M.oc)
 c41:X.cell? ⟨M.r,41,none⟩=some (.slice (some ⟨M.ph,0,none⟩) n n)
 c42:X.cell? ⟨M.r,42,none⟩=some (.slice (some ⟨M.gt,0,none⟩) n n)
 rn:X.cell? ⟨M.nd,M.no+k,none⟩=some (.int .i64 (c:Nat))
 ro:X.cell? ⟨M.ow,M.oo+k,none⟩=some (.int .i64 (o:Nat))
 rp:X.cell? ⟨M.ph,k,none⟩=some (.int .i64 ph)
 rt:X.cell? ⟨M.gt,k,none⟩=some (.int .i64 got)
 zp:X.frozen? ⟨M.ph,k,none⟩=false
 zt:X.frozen? ⟨M.gt,k,none⟩=false
namespace MlRaw
variable {w X Y:World} {M:Mp} {f:FL}
theorem cs (h:MlRaw X M f) {k:Nat} (hk:k<f.s.n) {κ κ':Int} {p1 p2 p3 q1 q2 q3:Option Addr} (hl:(M.l (f.nd k)).cells= #[.int .i64 κ,.pointer p1,.pointer p2,.pointer p3]) (hg:M.g.cells= #[.int .i64 κ',.pointer q1,.pointer q2,.pointer q3]):
  Cs X M f.s.n k (f.nd k) (f.own k) κ p1 p2 p3 κ' q1 q2 q3 (f.ph k) (f.got k):=by
 have cell:∀ i,i<44→X.cell? ⟨M.r,i,none⟩=some (M.oc' f.s.n i):=λi hi=>by rw [blk_cell h.obj,rowB_at _ hi]
 obtain ⟨c8,hh⟩:=h.has k hk
 have loc:∀ j,j<4→X.cell? ⟨M.r,7+f.nd k*4+j,none⟩=some ((#[.int .i64 κ,.pointer p1,.pointer p2,.pointer p3]:Array Value).getD j undef):=λj hj=>by
  rw [cell _ (by omega)]
  unfold Mp.oc'
  rw [oC_in c8 hj,Mp.lc,if_pos hh,hl]
 have gl:∀ j,j<4→X.cell? ⟨M.r,3+j,none⟩=some ((#[.int .i64 κ',.pointer q1,.pointer q2,.pointer q3]:Array Value).getD j undef):=λj hj=>by
  rw [cell _ (by omega),←hg]
  unfold Mp.oc' oC
  rw [if_neg (by omega),if_neg (by omega),if_neg (by omega),if_pos (by omega),show 3+j-3=j by omega]
 have rp:=h.rP.cell hk
 have rt:=h.rG.cell hk
 rw [Nat.zero_add] at rp rt
 exact ⟨cell 0 (by decide),cell 1 (by decide),cell 2 (by decide),gl 0 (by decide),gl 1 (by decide),gl 2 (by decide),gl 3 (by decide),loc 0 (by decide),loc 1 (by decide),loc 2 (by decide),loc 3 (by decide),cell 39 (by decide),cell 40 (by decide),cell 41 (by decide),cell 42 (by decide),h.rN.cell hk,h.rO.cell hk,rp,rt,h.rP.frz k,h.rG.frz k⟩
theorem ps (h:MlRaw X M f) (q:PSta):MlRaw X M {f with ps:=q}:=⟨h.obj,h.seat,h.rN,h.rO,h.rP,h.rG,h.gat,h.lat,h.has,h.ap⟩
theorem part (h:MlRaw X M f) {S:Nat→Prop} (k:Wr S X Y) (j:Nat) (hj:j≠0) (hS:∀ b,S b→M.Pt j b∨M.base≤b):
  Y.heap[M.r]? =some (.cells (rowB 44 (M.oc' f.s.n)) 49 (0,0))∧(j≠1→RsAt Y M.sr M.hv M.dv f.s)∧(j≠2→RowI Y M.nd M.no f.s.n λk=>(f.nd k:Nat))∧(j≠3→RowI Y M.ow M.oo f.s.n λk=>(f.own k:Nat))∧
  (j≠4→RowI Y M.ph 0 f.s.n f.ph)∧(j≠5→RowI Y M.gt 0 f.s.n f.got)∧(j≠6→M.g.At Y f.G)∧∀ c,c<8→M.has c=true→j≠c+8→(M.l c).At Y (f.Lc c):=by
 have hn:∀ i b,i≠j→M.Pt i b→¬ S b:=λi b ij hb hs=>by
  rcases hS b hs with e|e
  ·exact ij (h.ap.ap i j b hb e)
  ·have:=h.ap.hi i b hb;omega
 exact ⟨(k.block _ (blk_lt h.obj) (hn 0 _ (Ne.symm hj) rfl)).trans h.obj,λe=>h.seat.wrote k λb hb=>hn 1 b (Ne.symm e) hb,λe=>h.rN.wrote k (hn 2 _ (Ne.symm e) rfl),λe=>h.rO.wrote k (hn 3 _ (Ne.symm e) rfl),λe=>h.rP.wrote k (hn 4 _ (Ne.symm e) rfl),λe=>h.rG.wrote k (hn 5 _ (Ne.symm e) rfl),
  λe=>h.gat.apart k (hn 6 _ (Ne.symm e) (.inl rfl)) λb hb=>hn 6 b (Ne.symm e) (.inr hb),λc hc hh e=>(h.lat c hc hh).apart k (hn (c+8) _ (Ne.symm e) ⟨hc,hh,.inl rfl⟩) λb hb=>hn (c+8) b (Ne.symm e) ⟨hc,hh,.inr hb⟩⟩
theorem port {S:Nat→Prop} (h:MlRaw X M f) (k:Wr S X Y) (hS:∀ b,S b→M.base≤b):MlRaw Y M f:=by
 obtain ⟨s0,s1,s2,s3,s4,s5,s6,s8⟩:=h.part k 7 (by decide) λb hb=> .inr (hS b hb)
 exact ⟨s0,s1 (by decide),s2 (by decide),s3 (by decide),s4 (by decide),s5 (by decide),s6 (by decide),λc hc hh=>s8 c hc hh (by omega),h.has,h.ap⟩
theorem wrote {S:Nat→Prop} (h:MlRaw X M f) (k:Wr S X Y) (h1:¬ S M.r) (h2:∀ j,MF M j→¬ S j):MlRaw Y M f:=by
 have hn:∀ i b,M.Pt i b→¬ S b:=λi b hb=>by
  by_cases e:i=0
  ·subst e;have hb:b=M.r:=hb;subst hb;exact h1
  ·exact h2 b ⟨i,e,hb⟩
 exact ⟨(k.block _ (blk_lt h.obj) (hn 0 _ rfl)).trans h.obj,h.seat.wrote k λb hb=>hn 1 b hb,h.rN.wrote k (hn 2 _ rfl),h.rO.wrote k (hn 3 _ rfl),h.rP.wrote k (hn 4 _ rfl),h.rG.wrote k (hn 5 _ rfl),
  h.gat.apart k (hn 6 _ (.inl rfl)) λb hb=>hn 6 b (.inr hb),λc hc hh=>(h.lat c hc hh).apart k (hn (c+8) _ ⟨hc,hh,.inl rfl⟩) λb hb=>hn (c+8) b ⟨hc,hh,.inr hb⟩,h.has,h.ap⟩
theorem after (h:MlRaw X M f) (k:Wr Nil X Y):MlRaw Y M f:=h.wrote k id λ_ _=>id
theorem setP (h:MlRaw X M f) (k:Nat) (x:Int):MlRaw (X.setCell ⟨M.ph,k,none⟩ (.int .i64 x)) M {f with ph:=upd f.ph k x}:=by
 have hW:Wr (One M.ph) X (X.setCell ⟨M.ph,k,none⟩ (.int .i64 x)):=(Wr.refl _ X).setCell _ _ λ_=>rfl
 obtain ⟨s0,s1,s2,s3,s4,s5,s6,s8⟩:=h.part hW 4 (by decide) λb hb=> .inl hb
 have r:=h.rP.set k x
 rw [Nat.zero_add] at r
 exact ⟨s0,s1 (by decide),s2 (by decide),s3 (by decide),r,s5 (by decide),s6 (by decide),λc hc hh=>s8 c hc hh (by omega),h.has,h.ap⟩
theorem setT (h:MlRaw X M f) (k:Nat) (x:Int):MlRaw (X.setCell ⟨M.gt,k,none⟩ (.int .i64 x)) M {f with got:=upd f.got k x}:=by
 have hW:Wr (One M.gt) X (X.setCell ⟨M.gt,k,none⟩ (.int .i64 x)):=(Wr.refl _ X).setCell _ _ λ_=>rfl
 obtain ⟨s0,s1,s2,s3,s4,s5,s6,s8⟩:=h.part hW 5 (by decide) λb hb=> .inl hb
 have r:=h.rG.set k x
 rw [Nat.zero_add] at r
 exact ⟨s0,s1 (by decide),s2 (by decide),s3 (by decide),s4 (by decide),r,s6 (by decide),λc hc hh=>s8 c hc hh (by omega),h.has,h.ap⟩
theorem seats (h:MlRaw X M f) {s':SS} (hS:RsAt Y M.sr M.hv M.dv s') (hn:s'.n=f.s.n) (k:Wr (SF M.sr M.hv M.dv) X Y):MlRaw Y M {f with s:=s'}:=by
 obtain ⟨s0,s1,s2,s3,s4,s5,s6,s8⟩:=h.part k 1 (by decide) λb hb=> .inl hb
 refine ⟨?_,hS,?_,?_,?_,?_,s6 (by decide),λc hc hh=>s8 c hc hh (by omega),λt ht=>h.has t (by have ht:t<s'.n:=ht;omega),h.ap⟩
 ·show Y.heap[M.r]? =some (.cells (rowB 44 (M.oc' s'.n)) _ _);rw [hn];exact s0
 ·show RowI Y M.nd M.no s'.n _;rw [hn];exact s2 (by decide)
 ·show RowI Y M.ow M.oo s'.n _;rw [hn];exact s3 (by decide)
 ·show RowI Y M.ph 0 s'.n _;rw [hn];exact s4 (by decide)
 ·show RowI Y M.gt 0 s'.n _;rw [hn];exact s5 (by decide)
theorem glo (h:MlRaw X M f) {x:Inn} (hA:M.g.At Y x) {S:Nat→Prop} (k:Wr S X Y) (hS:∀ b,S b→M.g.F b∨M.base≤b):MlRaw Y M {f with G:=x}:=by
 obtain ⟨s0,s1,s2,s3,s4,s5,s6,s8⟩:=h.part k 6 (by decide) λb hb=>(hS b hb).imp .inr id
 exact ⟨s0,s1 (by decide),s2 (by decide),s3 (by decide),s4 (by decide),s5 (by decide),hA,λc hc hh=>s8 c hc hh (by omega),h.has,h.ap⟩
theorem loc (h:MlRaw X M f) {c:Nat} (c8:c<8) (hh:M.has c=true) {x:Inn} (hA:(M.l c).At Y x) {S:Nat→Prop} (k:Wr S X Y) (hS:∀ b,S b→(M.l c).F b∨M.base≤b):MlRaw Y M {f with Lc:=upd f.Lc c x}:=by
 obtain ⟨s0,s1,s2,s3,s4,s5,s6,s8⟩:=h.part k (c+8) (by omega) λb hb=>(hS b hb).imp (λe=>⟨c8,hh,.inr e⟩) id
 refine ⟨s0,s1 (by omega),s2 (by omega),s3 (by omega),s4 (by omega),s5 (by omega),s6 (by omega),λd hd hhd=> ?_,h.has,h.ap⟩
 show (M.l d).At Y (upd f.Lc c x d)
 by_cases e:d=c
 ·subst e;rw [upd_same];exact hA
 ·rw [upd_other _ _ e];exact s8 d hd hhd (by omega)
theorem lt (h:MlRaw X M f) {i k:Nat} (hk:M.Pt i k):k<X.heap.size:=by
 match i,hk with
 |0,hk=>have hk:k=M.r:=hk;subst hk;exact blk_lt h.obj
 |1,hk=>exact SrAt.lt h.seat hk
 |2,hk=>have hk:k=M.nd:=hk;subst hk;exact h.rN.lt
 |3,hk=>have hk:k=M.ow:=hk;subst hk;exact h.rO.lt
 |4,hk=>have hk:k=M.ph:=hk;subst hk;exact h.rP.lt
 |5,hk=>have hk:k=M.gt:=hk;subst hk;exact h.rG.lt
 |6,hk=>
  rcases hk with rfl|hk
  ·exact h.gat.lt.1
  ·exact h.gat.lt.2 k hk
 |7,hk=>exact hk.elim
 |c+8,hk=>
  obtain ⟨hc,hh,rfl|hk⟩:=hk
  ·exact (h.lat c hc hh).lt.1
  ·exact (h.lat c hc hh).lt.2 k hk
end MlRaw
structure StM (M:Mp) (f:FL):Prop where
 a0:M.a=0
 bud:M.B=f.bud
 gq:M.g.base=M.base∧M.g.pr=M.pr∧M.g.a=(f.ga:Nat)
 lq:∀ c,c<8→M.has c=true→(M.l c).base=M.base∧(M.l c).pr=M.pr∧(M.l c).a=(f.la c:Nat)
structure MlAt (w:World) (M:Mp) (f:FL):Prop where
 raw:MlRaw w M f
 st:StM M f
theorem MlAt.after {w w':World} {M:Mp} {f:FL} (h:MlAt w M f) (k:Wr Nil w w'):MlAt w' M f:=⟨h.raw.after k,h.st⟩
theorem MlAt.apart {w w':World} {M:Mp} {f:FL} {S:Nat→Prop} (h:MlAt w M f) (k:Wr S w w') (h1:¬ S M.r) (h2:∀ j,MF M j→¬ S j):MlAt w' M f:=⟨h.raw.wrote k h1 h2,h.st⟩
theorem MlAt.seats {w w':World} {M:Mp} {f:FL} {s':SS} (h:MlAt w M f) (hS:RsAt w' M.sr M.hv M.dv s') (hn:s'.n=f.s.n) (k:Wr (SF M.sr M.hv M.dv) w w'):MlAt w' M {f with s:=s'}:=⟨h.raw.seats hS hn k,⟨h.st.a0,h.st.bud,h.st.gq,h.st.lq⟩⟩
theorem foot_lt {w:World} {base r bk:Nat} {so:Option Addr} {cap:Nat} {dv:Value} {ps:PSta} (h:RefAt w base r bk so cap dv ps) {k:Nat} (hk:Foot r bk dv k):base≤k∧k<w.heap.size:=by
 rcases hk with rfl|rfl|hk
 ·exact ⟨h.low.1,blk_lt h.obj⟩
 ·exact ⟨h.low.2.1,h.counts.lt⟩
 ·exact ⟨(h.touched.lt k hk).1,(h.touched.lt k hk).2⟩
structure MmIn (w:World) (M:Mp) (bk:Nat) (so:Option Addr) (cap:Nat) (dv:Value) (f:FL) (L:Lp):Prop where
 ml:MlAt w M f
 ref:RefAt w M.base M.pr bk so cap dv f.ps
 n1:1≤f.s.n
 n2:f.s.n≤64
 hD:f.ps.D.length<1000000
 hws:f.ps.ws.length≤4096
 hac:f.ps.ac.length≤64
 hb:M.base≤w.heap.size
 l1:L.a1=0
 bud:0≤f.bud∧f.bud≤1000
 gin:(∃ g W,f.gl.At f.ga g W)∧f.G.rng∧f.G.s.n=8∧f.G.s.probed=true
 lin:∀ t,t<f.s.n→(∃ g W,(f.lk (f.nd t)).At (f.la (f.nd t)) g W)∧(f.Lc (f.nd t)).rng∧f.own t<(f.Lc (f.nd t)).s.n∧(f.Lc (f.nd t)).s.probed=true
 phl:∀ t,t<f.s.n→f.s.st t=1→f.ph t=0∨f.ph t=1∨f.ph t=2∨f.ph t=3
 phu:∀ t,t<f.s.n→f.s.st t=3→f.ph t=0∨f.ph t=1∨f.ph t=2∨f.ph t=3∨f.ph t=4∨f.ph t=5
 got:∀ t,t<f.s.n→f.s.st t=3→f.ph t=2→0≤f.got t∧f.got t≤1000
structure Fp (w X:World) (M:Mp) (bk:Nat) (dv:Value) (f:FL):Prop where
 raw:MlRaw X M f
 ref:RefSt X M.base M.pr f.ps
 wr:Wr (MG M bk dv) w X
 old:∀ k,MG M bk dv k→k<w.heap.size
 bs:∀ k,Foot M.pr bk dv k→M.base≤k
 bw:M.base≤w.heap.size
namespace Fp
variable {w X Y:World} {M:Mp} {bk:Nat} {dv:Value} {f f':FL}
theorem after (h:Fp w X M bk dv f) (k:Wr Nil X Y):Fp w Y M bk dv f:=by
 obtain ⟨bk2,so2,cap2,dv2,hr⟩:=h.ref
 exact ⟨h.raw.after k,⟨bk2,so2,cap2,dv2,hr.after k λ_ _=>id⟩,h.wr.trans k λ_ _ e=>e.elim,h.old,h.bs,h.bw⟩
theorem port (h:Fp w X M bk dv f) {q:PSta} (hR:RefSt Y M.base M.pr q) (k:Wr (Foot M.pr bk dv) X Y):Fp w Y M bk dv {f with ps:=q}:=
 ⟨(h.raw.port k h.bs).ps q,hR,h.wr.trans k λ_ _ e=> .inr e,h.old,h.bs,h.bw⟩
theorem own (h:Fp w X M bk dv f) {S:Nat→Prop} (hR:MlRaw Y M f') (hp:f'.ps=f.ps) (k:Wr S X Y) (hS:∀ b,S b→MF M b):Fp w Y M bk dv f':=by
 obtain ⟨bk2,so2,cap2,dv2,hr⟩:=h.ref
 refine ⟨hR,⟨bk2,so2,cap2,dv2,?_⟩,h.wr.trans k λb _ e=> .inl (hS b e),h.old,h.bs,h.bw⟩
 rw [hp]
 exact hr.after k λb hb e=>by obtain ⟨i,_,hi⟩:=hS b e;have:=h.raw.ap.hi i b hi;omega
theorem all (h:Fp w X M bk dv f) {S:Nat→Prop} (hR:MlRaw Y M f') (hr:RefSt Y M.base M.pr f'.ps) (k:Wr S X Y) (hS:∀ b,S b→MG M bk dv b):Fp w Y M bk dv f':=⟨hR,hr,h.wr.trans k λb _ e=>hS b e,h.old,h.bs,h.bw⟩
end Fp
def ridC (d:Dd):Array Value:= #[.int .i64 d.ev,.int .i64 (b2i d.enq),.int .i64 (b2i d.arr),.int .i64 (b2i d.lead)]
structure Fm (w X:World) (M:Mp) (bk:Nat) (dv:Value) (f:FL) (R C:Nat) (d:Dd):Prop where
 fp:Fp w X M bk dv f
 res:X.heap[R]? =some (.cells (ridC Dd.no) 136 (0,0))
 did:X.heap[C]? =some (.cells (ridC d) 136 (0,0))
 new:w.heap.size≤R∧w.heap.size≤C∧R≠C
namespace Fm
variable {w X Y:World} {M:Mp} {bk:Nat} {dv:Value} {f f':FL} {R C:Nat} {d:Dd}
theorem raw (h:Fm w X M bk dv f R C d):MlRaw X M f:=h.fp.raw
theorem keep (h:Fm w X M bk dv f R C d) {S:Nat→Prop} (hP:Fp w Y M bk dv f') (k:Wr S X Y) (hS:∀ b,S b→MG M bk dv b):Fm w Y M bk dv f' R C d:=by
 have hn:=h.new
 refine ⟨hP,(k.block _ (blk_lt h.res) λe=> ?_).trans h.res,(k.block _ (blk_lt h.did) λe=> ?_).trans h.did,h.new⟩
 ·have:=h.fp.old R (hS _ e);omega
 ·have:=h.fp.old C (hS _ e);omega
theorem after (h:Fm w X M bk dv f R C d) (k:Wr Nil X Y):Fm w Y M bk dv f R C d:=h.keep (h.fp.after k) k λ_ e=>e.elim
theorem drew (h:Fm w X M bk dv f R C d):Fm w X.drew M bk dv f R C d:=h.after ((Wr.refl _ X).drew)
theorem port (h:Fm w X M bk dv f R C d) {q:PSta} (hR:RefSt Y M.base M.pr q) (k:Wr (Foot M.pr bk dv) X Y):Fm w Y M bk dv {f with ps:=q} R C d:=h.keep (h.fp.port hR k) k λ_ e=> .inr e
theorem setP (h:Fm w X M bk dv f R C d) (k:Nat) (x:Int):Fm w (X.setCell ⟨M.ph,k,none⟩ (.int .i64 x)) M bk dv {f with ph:=upd f.ph k x} R C d:=by
 have hW:Wr (One M.ph) X (X.setCell ⟨M.ph,k,none⟩ (.int .i64 x)):=(Wr.refl _ X).setCell _ _ λ_=>rfl
 have hS:∀ b,One M.ph b→MF M b:=λb e=>⟨4,by decide,e⟩
 exact h.keep (h.fp.own (h.raw.setP k x) rfl hW hS) hW λb e=> .inl (hS b e)
theorem setT (h:Fm w X M bk dv f R C d) (k:Nat) (x:Int):Fm w (X.setCell ⟨M.gt,k,none⟩ (.int .i64 x)) M bk dv {f with got:=upd f.got k x} R C d:=by
 have hW:Wr (One M.gt) X (X.setCell ⟨M.gt,k,none⟩ (.int .i64 x)):=(Wr.refl _ X).setCell _ _ λ_=>rfl
 have hS:∀ b,One M.gt b→MF M b:=λb e=>⟨5,by decide,e⟩
 exact h.keep (h.fp.own (h.raw.setT k x) rfl hW hS) hW λb e=> .inl (hS b e)
theorem ends (h:Fm w X M bk dv f R C d) {s':SS} {x:Int} {e:Ending} (hn:s'.n=f.s.n) (k:RsPost X M.sr M.hv M.dv s' x e Y):Fm w Y M bk dv {f with s:=s'} R C d:=
 h.keep (h.fp.own (h.raw.seats k.2.1 hn k.2.2) rfl k.2.2 λ_ e=>mf_sf e) k.2.2 λ_ e=> .inl (mf_sf e)
theorem gF {b:Nat} (e:M.g.F b):MF M b:=⟨6,by decide,.inr e⟩
theorem lF {b c:Nat} (c8:c<8) (hh:M.has c=true) (e:(M.l c).F b):MF M b:=⟨c+8,by omega,c8,hh,.inr e⟩
theorem glock (h:Fm w X M bk dv f R C d) {t y x:Int} {e:Ending} (k:RsPost X M.g.sr M.g.hv M.g.dv (f.G.s.lock t y) x e Y):Fm w Y M bk dv {f with G:=f.G.lock t y} R C d:=
 h.keep (h.fp.own (h.raw.glo (h.raw.gat.lock k.2.1 k.2.2) k.2.2 λb e=> .inl (Rp.sf_F e)) rfl k.2.2 λb e=>gF (Rp.sf_F e)) k.2.2 λb e=> .inl (gF (Rp.sf_F e))
theorem gturn (h:Fm w X M bk dv f R C d) {t y x:Int} {e:Ending} (k:RsPost X M.g.sr M.g.hv M.g.dv (f.G.s.turn t y) x e Y):Fm w Y M bk dv {f with G:=f.G.turn t y} R C d:=
 h.keep (h.fp.own (h.raw.glo (h.raw.gat.turn k.2.1 k.2.2) k.2.2 λb e=> .inl (Rp.sf_F e)) rfl k.2.2 λb e=>gF (Rp.sf_F e)) k.2.2 λb e=> .inl (gF (Rp.sf_F e))
theorem llock (h:Fm w X M bk dv f R C d) {c:Nat} (c8:c<8) (hh:M.has c=true) {t y x:Int} {e:Ending} (k:RsPost X (M.l c).sr (M.l c).hv (M.l c).dv ((f.Lc c).s.lock t y) x e Y):Fm w Y M bk dv {f with Lc:=upd f.Lc c ((f.Lc c).lock t y)} R C d:=
 h.keep (h.fp.own (h.raw.loc c8 hh ((h.raw.lat c c8 hh).lock k.2.1 k.2.2) k.2.2 λb e=> .inl (Rp.sf_F e)) rfl k.2.2 λb e=>lF c8 hh (Rp.sf_F e)) k.2.2 λb e=> .inl (lF c8 hh (Rp.sf_F e))
theorem lturn (h:Fm w X M bk dv f R C d) {c:Nat} (c8:c<8) (hh:M.has c=true) {t y x:Int} {e:Ending} (k:RsPost X (M.l c).sr (M.l c).hv (M.l c).dv ((f.Lc c).s.turn t y) x e Y):Fm w Y M bk dv {f with Lc:=upd f.Lc c ((f.Lc c).turn t y)} R C d:=
 h.keep (h.fp.own (h.raw.loc c8 hh ((h.raw.lat c c8 hh).turn k.2.1 k.2.2) k.2.2 λb e=> .inl (Rp.sf_F e)) rfl k.2.2 λb e=>lF c8 hh (Rp.sf_F e)) k.2.2 λb e=> .inl (lF c8 hh (Rp.sf_F e))
theorem gstep (h:Fm w X M bk dv f R C d) (hq:M.g.base=M.base∧M.g.pr=M.pr) {x:Inn} {d':Dd} {e:Ending} (k:RiPost X M.g bk dv x d' e Y):Fm w Y M bk dv {f with G:=x,ps:=x.ps} R C d:=by
 obtain ⟨_,hA,hr,hW⟩:=k
 rw [hq.1,hq.2] at hr
 have hS:∀ b,RiF M.g bk dv b→MG M bk dv b:=λb e=>by
  rcases e with e|e
  ·exact .inl (gF e)
  ·rw [hq.2] at e;exact .inr e
 exact h.keep (h.fp.all ((h.raw.glo hA hW λb e=>e.imp id λe=>h.fp.bs b (by rw [hq.2] at e;exact e)).ps x.ps) hr hW hS) hW hS
theorem lstep (h:Fm w X M bk dv f R C d) {c:Nat} (c8:c<8) (hh:M.has c=true) (hq:(M.l c).base=M.base∧(M.l c).pr=M.pr) {x:Inn} {d':Dd} {e:Ending} (k:RiPost X (M.l c) bk dv x d' e Y):Fm w Y M bk dv {f with Lc:=upd f.Lc c x,ps:=x.ps} R C d:=by
 obtain ⟨_,hA,hr,hW⟩:=k
 rw [hq.1,hq.2] at hr
 have hS:∀ b,RiF (M.l c) bk dv b→MG M bk dv b:=λb e=>by
  rcases e with e|e
  ·exact .inl (lF c8 hh e)
  ·rw [hq.2] at e;exact .inr e
 exact h.keep (h.fp.all ((h.raw.loc c8 hh hA hW λb e=>e.imp id λe=>h.fp.bs b (by rw [hq.2] at e;exact e)).ps x.ps) hr hW hS) hW hS
theorem setD (h:Fm w X M bk dv f R C d) (i:Nat) (x:Value) (d':Dd) (hd:(ridC d).setIfInBounds i x=ridC d'):Fm w (X.setCell ⟨C,i,none⟩ x) M bk dv f R C d':=by
 have k:Wr (One C) X (X.setCell ⟨C,i,none⟩ x):=(Wr.refl _ X).setCell _ _ λ_=>rfl
 have hn:=h.new
 have hC:∀ b,MG M bk dv b→¬ One C b:=λb hb e=>by have:=h.fp.old b hb;cases e;omega
 have hbw:=h.fp.bw
 have hlr:=h.raw.ap.hi 0 M.r rfl
 refine ⟨⟨h.raw.wrote k (λe=>by cases e;omega) λj hj=>hC j (.inl hj),Kf.ref_off h.fp.ref k h.did,?_,h.fp.old,h.fp.bs,h.fp.bw⟩,(k.block _ (blk_lt h.res) λe=>hn.2.2 e).trans h.res,?_,h.new⟩
 ·exact h.fp.wr.trans k λb hb e=>by cases e;omega
 ·rw [blk_setCell h.did,hd]
theorem dcell (h:Fm w X M bk dv f R C d):X.cell? ⟨C,0,none⟩=some (.int .i64 d.ev)∧X.cell? ⟨C,1,none⟩=some (.int .i64 (b2i d.enq))∧X.cell? ⟨C,2,none⟩=some (.int .i64 (b2i d.arr))∧X.cell? ⟨C,3,none⟩=some (.int .i64 (b2i d.lead)):=by
 rw [blk_cell h.did,blk_cell h.did,blk_cell h.did,blk_cell h.did];exact ⟨rfl,rfl,rfl,rfl⟩
theorem dfrz (h:Fm w X M bk dv f R C d):X.frozen? ⟨C,0,none⟩=false∧X.frozen? ⟨C,1,none⟩=false∧X.frozen? ⟨C,2,none⟩=false∧X.frozen? ⟨C,3,none⟩=false:=⟨blk_frozen h.did 0,blk_frozen h.did 1,blk_frozen h.did 2,blk_frozen h.did 3⟩
theorem rcell (h:Fm w X M bk dv f R C d):X.cell? ⟨R,0,none⟩=some (.int .i64 0)∧X.cell? ⟨R,1,none⟩=some (.int .i64 0)∧X.cell? ⟨R,2,none⟩=some (.int .i64 0)∧X.cell? ⟨R,3,none⟩=some (.int .i64 0):=by
 rw [blk_cell h.res,blk_cell h.res,blk_cell h.res,blk_cell h.res];exact ⟨rfl,rfl,rfl,rfl⟩
theorem rfrz (h:Fm w X M bk dv f R C d):X.frozen? ⟨R,0,none⟩=false∧X.frozen? ⟨R,1,none⟩=false∧X.frozen? ⟨R,2,none⟩=false∧X.frozen? ⟨R,3,none⟩=false:=⟨blk_frozen h.res 0,blk_frozen h.res 1,blk_frozen h.res 2,blk_frozen h.res 3⟩
theorem setAll (h:Fm w X M bk dv f R C Dd.no) (d:Dd):Fm w ((((X.setCell ⟨C,0,none⟩ (.int .i64 d.ev)).setCell ⟨C,1,none⟩ (.int .i64 (b2i d.enq))).setCell ⟨C,2,none⟩ (.int .i64 (b2i d.arr))).setCell ⟨C,3,none⟩ (.int .i64 (b2i d.lead))) M bk dv f R C d:=
 (((h.setD 0 _ ⟨d.ev,false,false,false⟩ rfl).setD 1 _ ⟨d.ev,d.enq,false,false⟩ rfl).setD 2 _ ⟨d.ev,d.enq,d.arr,false⟩ rfl).setD 3 _ d rfl
end Fm
structure Fa (w X:World) (M:Mp) (bk:Nat) (so:Option Addr) (cap:Nat) (dv:Value) (f:FL) (R C:Nat) (d:Dd):Prop where
 fm:Fm w X M bk dv f R C d
 ref:RefAt X M.base M.pr bk so cap dv f.ps
 bz:M.base≤X.heap.size
namespace Fa
variable {w X Y:World} {M:Mp} {bk:Nat} {so:Option Addr} {cap:Nat} {dv:Value} {f:FL} {R C:Nat} {d:Dd}
theorem after (h:Fa w X M bk so cap dv f R C d) (k:Wr Nil X Y):Fa w Y M bk so cap dv f R C d:=⟨h.fm.after k,h.ref.after k λ_ _=>id,Nat.le_trans h.bz k.size⟩
theorem drew (h:Fa w X M bk so cap dv f R C d):Fa w X.drew M bk so cap dv f R C d:=h.after ((Wr.refl _ X).drew)
theorem setP (h:Fa w X M bk so cap dv f R C d) (k:Nat) (x:Int):Fa w (X.setCell ⟨M.ph,k,none⟩ (.int .i64 x)) M bk so cap dv {f with ph:=upd f.ph k x} R C d:=by
 have hW:Wr (One M.ph) X (X.setCell ⟨M.ph,k,none⟩ (.int .i64 x)):=(Wr.refl _ X).setCell _ _ λ_=>rfl
 exact ⟨h.fm.setP k x,h.ref.after hW λb hb e=>by have:=h.fm.raw.ap.hi 4 M.ph rfl;unfold One at e;omega,Nat.le_trans h.bz hW.size⟩
theorem llock (h:Fa w X M bk so cap dv f R C d) {c:Nat} (c8:c<8) (hh:M.has c=true) {t y x:Int} {e:Ending} (k:RsPost X (M.l c).sr (M.l c).hv (M.l c).dv ((f.Lc c).s.lock t y) x e Y):Fa w Y M bk so cap dv {f with Lc:=upd f.Lc c ((f.Lc c).lock t y)} R C d:=
 ⟨h.fm.llock c8 hh k,h.ref.after k.2.2 λb hb e=>by have:=h.fm.raw.ap.hi (c+8) b ⟨c8,hh,.inr (Rp.sf_F e)⟩;omega,Nat.le_trans h.bz k.2.2.size⟩
end Fa
def RkPost (w:World) (M:Mp) (bk:Nat) (dv:Value) (f:FL) (r:Value) (e:Ending) (w':World):Prop:=e= .returned r∧Fp w w' M bk dv f
section
variable {w X:World} {M:Mp} {bk:Nat} {so:Option Addr} {cap:Nat} {dv:Value} {f:FL} {L:Lp} {R C:Nat} {d:Dd}
theorem Fm.told (h:Fm w X M bk dv f R C d):
  RkPost w M bk dv f d.rval (.returned d.rval) ((((X.setCell ⟨R,0,none⟩ (.int .i64 d.ev)).setCell ⟨R,1,none⟩ (.int .i64 (b2i d.enq))).setCell ⟨R,2,none⟩ (.int .i64 (b2i d.arr))).setCell ⟨R,3,none⟩ (.int .i64 (b2i d.lead))):=by
 have k:=wrote4 X R (.int .i64 d.ev) (.int .i64 (b2i d.enq)) (.int .i64 (b2i d.arr)) (.int .i64 (b2i d.lead))
 have hn:=h.new
 have hC:∀ b,MG M bk dv b→¬ One R b:=λb hb e=>by have:=h.fp.old b hb;cases e;omega
 have hbw:=h.fp.bw
 have hlr:=h.raw.ap.hi 0 M.r rfl
 exact ⟨rfl,h.raw.wrote k (λe=>by cases e;omega) λj hj=>hC j (.inl hj),Kf.ref_off h.fp.ref k h.res,h.fp.wr.trans k λb hb e=>by cases e;omega,h.fp.old,h.fp.bs,h.fp.bw⟩
theorem MmIn.fp (h:MmIn w M bk so cap dv f L):Fp w w M bk dv f:=
 ⟨h.ml.raw,⟨bk,so,cap,dv,h.ref⟩,Wr.refl _ w,λj hj=>by
   rcases hj with ⟨i,_,hj⟩|hj
   ·exact h.ml.raw.lt hj
   ·exact (foot_lt h.ref hj).2,λj hj=>(foot_lt h.ref hj).1,h.hb⟩
theorem MmIn.after (h:MmIn w M bk so cap dv f L) (k:Wr Nil w X):MmIn X M bk so cap dv f L:=
 ⟨h.ml.after k,h.ref.after k λ_ _=>id,h.n1,h.n2,h.hD,h.hws,h.hac,Nat.le_trans h.hb k.size,h.l1,h.bud,h.gin,h.lin,h.phl,h.phu,h.got⟩
theorem MmIn.start (h:MmIn w M bk so cap dv f L):∀ Z,Z=(w.alloc (.cells #[.int .i64 0,.int .i64 0,.int .i64 0,.int .i64 0] 136)).alloc (.cells #[.int .i64 0,.int .i64 0,.int .i64 0,.int .i64 0] 136)→
  Fm w Z M bk dv f w.heap.size (w.heap.size+1) Dd.no∧RefAt Z M.base M.pr bk so cap dv f.ps∧Wr Nil w Z:=by
 rintro Z rfl
 have e1:(w.alloc (.cells #[.int .i64 0,.int .i64 0,.int .i64 0,.int .i64 0] 136)).heap.size=w.heap.size+1:=nblk_alloc _ _
 have k:Wr Nil w ((w.alloc (.cells #[.int .i64 0,.int .i64 0,.int .i64 0,.int .i64 0] 136)).alloc (.cells #[.int .i64 0,.int .i64 0,.int .i64 0,.int .i64 0] 136)):=((Wr.refl _ w).alloc _).alloc _
 refine ⟨⟨h.fp.after k,?_,?_,⟨Nat.le_refl _,Nat.le_succ _,by omega⟩⟩,h.ref.after k λ_ _=>id,k⟩
 ·rw [blk_alloc_lt _ _ _ (by rw [e1];omega),blk_alloc_new];rfl
 ·rw [←e1,blk_alloc_new];rfl
theorem MmIn.gri (h:MmIn w M bk so cap dv f L) {X:World} (hA:M.g.At X f.G) (ref:RefAt X M.base M.pr bk so cap dv f.ps) (hb:M.base≤X.heap.size):RiIn X M.g bk so cap dv f.gl f.ga:=
 ⟨hA.on f.ps,by rw [h.ml.st.gq.1,h.ml.st.gq.2.1];unfold FL.gl;rw [Inn.on_ps];exact ref,h.gin.1,Inn.rng_on h.gin.2.1 _,by unfold FL.gl;rw [Inn.on_s,h.gin.2.2.1];decide,by unfold FL.gl;rw [Inn.on_ps];exact h.hD,by unfold FL.gl;rw [Inn.on_ps];exact h.hws,by unfold FL.gl;rw [Inn.on_ps];exact h.hac,by rw [h.ml.st.gq.1];exact hb,h.ml.st.gq.2.2⟩
theorem MmIn.lri (h:MmIn w M bk so cap dv f L) {k:Nat} (hk:k<f.s.n) {X:World} (hA:(M.l (f.nd k)).At X (f.Lc (f.nd k))) (ref:RefAt X M.base M.pr bk so cap dv f.ps) (hb:M.base≤X.heap.size):RiIn X (M.l (f.nd k)) bk so cap dv (f.lk (f.nd k)) (f.la (f.nd k)):=by
 obtain ⟨c8,hh⟩:=h.ml.raw.has k hk
 obtain ⟨q1,q2,q3⟩:=h.ml.st.lq _ c8 hh
 obtain ⟨i1,i2,i3,i4⟩:=h.lin k hk
 exact ⟨hA.on f.ps,by rw [q1,q2];unfold FL.lk;rw [Inn.on_ps];exact ref,i1,Inn.rng_on i2 _,by unfold FL.lk;rw [Inn.on_s];omega,by unfold FL.lk;rw [Inn.on_ps];exact h.hD,by unfold FL.lk;rw [Inn.on_ps];exact h.hws,by unfold FL.lk;rw [Inn.on_ps];exact h.hac,by rw [q1];exact hb,q3⟩
theorem MmIn.lra (h:MmIn w M bk so cap dv f L) {k:Nat} (hk:k<f.s.n) {X:World} (hA:(M.l (f.nd k)).At X ((f.Lc (f.nd k)).lock (f.own k:Nat) (-1))) (ref:RefAt X M.base M.pr bk so cap dv f.ps) (hb:M.base≤X.heap.size):RiIn X (M.l (f.nd k)) bk so cap dv ((f.lk (f.nd k)).lock (f.own k:Nat) (-1)) (f.la (f.nd k)):=by
 obtain ⟨c8,hh⟩:=h.ml.raw.has k hk
 obtain ⟨q1,q2,q3⟩:=h.ml.st.lq _ c8 hh
 obtain ⟨⟨g,W,i1⟩,i2,i3,i4⟩:=h.lin k hk
 have e:(f.lk (f.nd k)).lock (f.own k:Nat) (-1)=((f.Lc (f.nd k)).lock (f.own k:Nat) (-1)).on f.ps:=(Inn.lock_on _ _ _).symm
 refine ⟨by rw [e];exact hA.on f.ps,by rw [q1,q2,e,Inn.on_ps];exact ref,⟨g,W,i1.lock _ _⟩,Inn.rng_lock (Inn.rng_on i2 _) _ _,by rw [Inn.lock_s,SS.lock_n];unfold FL.lk;rw [Inn.on_s];omega,by rw [e,Inn.on_ps];exact h.hD,by rw [e,Inn.on_ps];exact h.hws,by rw [e,Inn.on_ps];exact h.hac,by rw [q1];exact hb,q3⟩
end
end Go.Proofs.YtkmikkjjnbikdaaGreat
