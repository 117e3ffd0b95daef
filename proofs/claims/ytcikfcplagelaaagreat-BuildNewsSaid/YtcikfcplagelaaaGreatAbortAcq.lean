
import Derived.Test.YtcikfcplagelaaaGreatBuVia
import Derived.Test.YtcikfcplagelaaaGreatPoolNew
namespace Go.Proofs.YtcikfcplagelaaaGreat.Ka
open Go.RowKit
set_option linter.unusedVariables false
set_option maxRecDepth 100000
def _root_.Go.Proofs.YtcikfcplagelaaaGreat.SS.NpA (s:SS):Prop:=s.probed=false∧(∀ k,s.st k≠4)∧∀ k,s.dl k= -1∨0≤s.dl k
structure Pc where
 st:Int
 tr:Int
 nd:Int
 ot:Int
def Pc.cells (p:Pc):List Value:=[.int .i64 p.st,.int .i64 p.tr,.int .u32 p.nd,.int .u32 p.ot]
def tkC (G:Nat→Pc) (t:Nat):List Value:=(G t).cells
theorem tkC_len (G:Nat→Pc):∀ x,(tkC G x).length=4:=λ_=>rfl
def tks (n:Nat) (G:Nat→Pc):List Value:=(List.range n).flatMap (tkC G)
theorem tks_at (n:Nat) (G:Nat→Pc) {k:Nat} (hk:k<n) {j:Nat} (hj:j<4):(tks n G)[k*4+j]? =(G k).cells[j]? :=flat_at' (tkC_len G) _ (by rw [List.getElem?_range hk]) hj
structure PlI (x pc nd oth tr:Int) (ea:Nat) (p:Pc):Prop where
 st:p.st=pc-1
 pr:1≤pc∧pc≤8
 nr:0≤nd∧nd<4294967296
 orr:0≤oth∧oth<4294967296
 tr0:x≠1→tr=0
 tr1:0≤tr∧tr≤ea
 tr2:x≠9→pc=1→tr<ea∧p.tr=tr
 n0:pc≠1→p.nd=nd
 n1:x=2∨x=3→p.nd=nd
 o1:x=1→6≤pc→p.ot=oth
 o3:x=3→pc=4∨pc=5→p.ot=oth
 idle:x≠1→x≠3→pc=1
 rel:x=3→pc≤6
 pn:0≤p.nd∧p.nd<4294967296
 po:0≤p.ot∧p.ot<4294967296
structure FlRaw (w:World) (L:Lp) (pv:Value) (s:SS) (σ:Nat→Int) (ea:Nat) (pc nd oth tr:Nat→Int):Prop where
 obj:∃ Q:Pp,w.heap[L.lb]? =some (.cells #[.pointer (some ⟨L.p,0,none⟩),pv,.pointer (some ⟨Q.p,0,none⟩),.int .i64 L.a1,.slice (some ⟨L.tb,0,none⟩) s.n s.n] 206 (0,0))∧
  PoolAt w Q (newPl s.n ea)∧∀ b,Q.F s.n b→b<L.lb∧b≠L.p∧b≠L.b∧b≠L.tb
 seat:SeatAt w L.p L.b s
 tick:∃ G:Nat→Pc,w.heap[L.tb]? =some (.cells (tks s.n G).toArray 338 (0,0))∧∀ k,PlI (σ k) (pc k) (nd k) (oth k) (tr k) ea (G k)
 np:s.NpA
 ne:L.lb≠L.b∧L.lb≠L.tb∧L.p≠L.tb∧L.b≠L.tb∧L.lb≠L.p
 each:1≤ea∧ea≤8
 adr:0≤L.a1∧L.a1≤2000000∧L.a2=L.a1+1
namespace FlRaw
variable {w w':World} {L:Lp} {pv:Value} {s:SS} {σ:Nat→Int} {ea:Nat} {pc nd oth tr:Nat→Int}
theorem wrote {S:Nat→Prop} (h:FlRaw w L pv s σ ea pc nd oth tr) (k:Wr S w w') (h1:¬ S L.lb) (h2:¬ S L.p) (h3:¬ S L.b) (h4:¬ S L.tb) (h5:∀ b,b<L.lb→b≠L.p→b≠L.b→b≠L.tb→¬ S b):FlRaw w' L pv s σ ea pc nd oth tr:=by
 obtain ⟨Q,q1,q2,q3⟩:=h.obj
 obtain ⟨G,g1,g2⟩:=h.tick
 exact ⟨⟨Q,(k.block _ (blk_lt q1) h1).trans q1,q2.wrote k λb hb=>h5 b (q3 b hb).1 (q3 b hb).2.1 (q3 b hb).2.2.1 (q3 b hb).2.2.2,q3⟩,h.seat.wrote k h2 h3,⟨G,(k.block _ (blk_lt g1) h4).trans g1,g2⟩,h.np,h.ne,h.each,h.adr⟩
theorem after (h:FlRaw w L pv s σ ea pc nd oth tr) (k:Wr Nil w w'):FlRaw w' L pv s σ ea pc nd oth tr:=h.wrote k id id id id λ_ _ _ _ _=>id
theorem lto (h:FlRaw w L pv s σ ea pc nd oth tr):L.lb<w.heap.size:=by obtain ⟨Q,q1,_⟩:=h.obj;exact blk_lt q1
theorem ltt (h:FlRaw w L pv s σ ea pc nd oth tr):L.tb<w.heap.size:=by obtain ⟨G,g1,_⟩:=h.tick;exact blk_lt g1
theorem cell0 (h:FlRaw w L pv s σ ea pc nd oth tr):w.cell? ⟨L.lb,0,none⟩=some (.pointer (some ⟨L.p,0,none⟩)):=by obtain ⟨Q,q1,_⟩:=h.obj;rw [blk_cell q1];rfl
theorem cell1 (h:FlRaw w L pv s σ ea pc nd oth tr):w.cell? ⟨L.lb,1,none⟩=some pv:=by obtain ⟨Q,q1,_⟩:=h.obj;rw [blk_cell q1];rfl
theorem frozen (h:FlRaw w L pv s σ ea pc nd oth tr) (k:Nat):w.frozen? ⟨L.lb,k,none⟩=false:=by obtain ⟨Q,q1,_⟩:=h.obj;exact blk_frozen q1 k
theorem use (h:FlRaw w L pv s σ ea pc nd oth tr) (v:Value):FlRaw (w.setCell ⟨L.lb,1,none⟩ v) L v s σ ea pc nd oth tr:=by
 have hW:Wr (One L.lb) w (w.setCell ⟨L.lb,1,none⟩ v):=(Wr.refl _ w).setCell _ _ λ_=>rfl
 obtain ⟨Q,q1,q2,q3⟩:=h.obj
 obtain ⟨G,g1,g2⟩:=h.tick
 refine ⟨⟨Q,?_,q2.wrote hW λb hb e=>by have:=(q3 b hb).1;cases e;omega,q3⟩,h.seat.wrote hW (λe=>h.ne.2.2.2.2 e.symm) (λe=>h.ne.1 e.symm),⟨G,(hW.block _ (blk_lt g1) (λe=>h.ne.2.1 e.symm)).trans g1,g2⟩,h.np,h.ne,h.each,h.adr⟩
 rw [blk_setCell q1]
 rfl
theorem place (h:FlRaw w L pv s σ ea pc nd oth tr) (q:Place) (hs:List Int):FlRaw w {L with q:=q,hs:=hs} pv s σ ea pc nd oth tr:=⟨h.obj,h.seat,h.tick,h.np,h.ne,h.each,h.adr⟩
end FlRaw
abbrev RawF (w:World) (L:Lp) (pv:Value) (f:FL):Prop:=FlRaw w L pv f.s f.s.st f.ea f.pc f.nd f.oth f.tr
structure LkM (w:World) (L:Lp) (f:FL) (σ:Nat→Int):Prop where
 raw:FlRaw w L (.pointer (some ⟨L.q.p,0,none⟩)) f.s σ f.ea f.pc f.nd f.oth f.tr
 port:PortAt w L.q L.hs f.ps
 far:L.lb<L.q.k0∧L.p<L.q.k0∧L.b<L.q.k0∧L.tb<L.q.k0
 top:L.q.k3≤w.heap.size
abbrev LkAt (w:World) (L:Lp) (f:FL):Prop:=LkM w L f f.s.st
namespace LkM
variable {w w':World} {L:Lp} {f:FL} {σ:Nat→Int}
theorem wrote {S:Nat→Prop} (h:LkM w L f σ) (k:Wr S w w') (h5:∀ b,b<L.q.k3→¬ S b):LkM w' L f σ:=by
 have hf:=h.far
 have hl:=h.port.place.le
 exact ⟨h.raw.wrote k (h5 _ (by omega)) (h5 _ (by omega)) (h5 _ (by omega)) (h5 _ (by omega)) (λb hb _ _ _=>h5 b (by omega)),h.port.wrote k (λb _ b2=>h5 b b2),h.far,Nat.le_trans h.top k.size⟩
theorem after (h:LkM w L f σ) (k:Wr Nil w w'):LkM w' L f σ:=h.wrote k λ_ _=>id
end LkM
open _root_.Go.Proofs.Tryz
open Go.RowKit Go.BigFrame
theorem fl_use {w:World} {L:Lp} {pv:Value} {s:SS} {σ:Nat→Int} {ea:Nat} {pc nd oth tr:Nat→Int} (h:FlRaw w L pv s σ ea pc nd oth tr) (a:Addr):
  Calls prog 238 #[.pointer (some ⟨L.lb,0,none⟩),.pointer (some a)] w λe w'=>e= .returned (.tuple #[])∧w'=w.setCell ⟨L.lb,1,none⟩ (.pointer (some a)):=by
 have c1:=h.cell1
 have f1:=h.frozen 1
 clear h
 go_enter func238,ntmps238
 go_wp2
 go_end0
 exact ⟨rfl,rfl⟩
theorem PlI.idleP {y z:Int} {ea:Nat} (hy:0≤y∧y<4294967296) (hz:0≤z∧z<4294967296) (he:1≤ea):PlI 0 1 y z 0 ea ⟨0,0,0,0⟩:=
 ⟨rfl,by omega,hy,hz,λ_=>rfl,by omega,λ_ _=>⟨by omega,rfl⟩,λq=>absurd rfl q,λq=>by omega,λq=>by omega,λq=>by omega,λ_ _=>rfl,λq=>by omega,(by show (0:Int)≤0∧(0:Int)<4294967296;decide),(by show (0:Int)≤0∧(0:Int)<4294967296;decide)⟩
end Go.Proofs.YtcikfcplagelaaaGreat.Ka
