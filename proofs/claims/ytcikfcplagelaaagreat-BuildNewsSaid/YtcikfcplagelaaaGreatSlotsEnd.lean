
import Derived.Test.YtcikfcplagelaaaGreatBuVia
import Derived.Test.YtcikfcplagelaaaGreatPack
import Derived.Deep.RegionHeld3
namespace Go.Proofs.YtcikfcplagelaaaGreat.Ks
open Go.RowKit
set_option linter.unusedVariables false
set_option maxRecDepth 100000
structure FL where
 s:SS
 sz:Nat
 pc:Nat→Int
 own:Nat→Int
 ps:PSta
structure Lp where
 lb:Nat
 p:Nat
 b:Nat
 tb:Nat
 a1:Int
 a2:Int
 q:Place
 hs:List Int
def tkC (pc own:Nat→Int) (t:Nat):List Value:=[.int .i64 (pc t),.int .i64 (own t)]
theorem tkC_len (pc own:Nat→Int):∀ x,(tkC pc own x).length=2:=λ_=>rfl
def tks (n:Nat) (pc own:Nat→Int):List Value:=(List.range n).flatMap (tkC pc own)
theorem tks_at (n:Nat) (pc own:Nat→Int) {k:Nat} (hk:k<n) {j:Nat} (hj:j<2):(tks n pc own)[k*2+j]? =(tkC pc own k)[j]? :=flat_at' (tkC_len pc own) _ (by rw [List.getElem?_range hk]) hj
def _root_.Go.Proofs.YtcikfcplagelaaaGreat.SS.NpS (s:SS):Prop:=s.probed=false∧∀ k,s.st k≠4
structure FlRaw (w:World) (L:Lp) (pv:Value) (s:SS) (sz:Nat) (pc own:Nat→Int):Prop where
 obj:w.heap[L.lb]? =some (.cells #[.pointer (some ⟨L.p,0,none⟩),pv,.int .i64 L.a1,.int .i64 L.a2,.int .i64 (sz:Nat),.slice (some ⟨L.tb,0,none⟩) s.n s.n] 191 (0,0))
 seat:SeatAt w L.p L.b s
 tick:w.heap[L.tb]? =some (.cells (tks s.n pc own).toArray 325 (0,0))
 ne:L.lb≠L.b∧L.lb≠L.tb∧L.p≠L.tb∧L.b≠L.tb∧L.lb≠L.p
 rng:∀ k,(pc k=0∨pc k=1∨pc k=2)∧0≤own k∧own k<sz
 siz:sizeB sz=true
 adr:0≤L.a2∧L.a2≤2000000
 np:s.NpS
namespace FlRaw
variable {w w':World} {L:Lp} {pv:Value} {s:SS} {sz:Nat} {pc own:Nat→Int}
theorem wrote {S:Nat→Prop} (h:FlRaw w L pv s sz pc own) (k:Wr S w w') (h1:¬ S L.lb) (h2:¬ S L.p) (h3:¬ S L.b) (h4:¬ S L.tb):FlRaw w' L pv s sz pc own:=
 ⟨(k.block _ (blk_lt h.obj) h1).trans h.obj,h.seat.wrote k h2 h3,(k.block _ (blk_lt h.tick) h4).trans h.tick,h.ne,h.rng,h.siz,h.adr,h.np⟩
theorem after (h:FlRaw w L pv s sz pc own) (k:Wr Nil w w'):FlRaw w' L pv s sz pc own:=h.wrote k id id id id
theorem cell0 (h:FlRaw w L pv s sz pc own):w.cell? ⟨L.lb,0,none⟩=some (.pointer (some ⟨L.p,0,none⟩)):=by rw [blk_cell h.obj];rfl
theorem cell1 (h:FlRaw w L pv s sz pc own):w.cell? ⟨L.lb,1,none⟩=some pv:=by rw [blk_cell h.obj];rfl
theorem frozen (h:FlRaw w L pv s sz pc own) (k:Nat):w.frozen? ⟨L.lb,k,none⟩=false:=blk_frozen h.obj k
theorem use (h:FlRaw w L pv s sz pc own) (v:Value):FlRaw (w.setCell ⟨L.lb,1,none⟩ v) L v s sz pc own:=by
 have hW:Wr (One L.lb) w (w.setCell ⟨L.lb,1,none⟩ v):=(Wr.refl _ w).setCell _ _ λ_=>rfl
 refine ⟨?_,h.seat.wrote hW (λe=>h.ne.2.2.2.2 e.symm) (λe=>h.ne.1 e.symm),(hW.block _ (blk_lt h.tick) (λe=>h.ne.2.1 e.symm)).trans h.tick,h.ne,h.rng,h.siz,h.adr,h.np⟩
 rw [blk_setCell h.obj]
 rfl
theorem place (h:FlRaw w L pv s sz pc own) (q:Place) (hs:List Int):FlRaw w {L with q:=q,hs:=hs} pv s sz pc own:=⟨h.obj,h.seat,h.tick,h.ne,h.rng,h.siz,h.adr,h.np⟩
end FlRaw
abbrev RawF (w:World) (L:Lp) (pv:Value) (f:FL):Prop:=FlRaw w L pv f.s f.sz f.pc f.own
structure LkAt (w:World) (L:Lp) (f:FL):Prop where
 raw:FlRaw w L (.pointer (some ⟨L.q.p,0,none⟩)) f.s f.sz f.pc f.own
 port:PortAt w L.q L.hs f.ps
 far:L.lb<L.q.k0∧L.p<L.q.k0∧L.b<L.q.k0∧L.tb<L.q.k0
 top:L.q.k3≤w.heap.size
def LF (L:Lp) (k:Nat):Prop:=k=L.b∨k=L.tb∨Rng L.q.k0 L.q.k3 k
namespace LkAt
variable {w w':World} {L:Lp} {f:FL}
theorem wrote {S:Nat→Prop} (h:LkAt w L f) (k:Wr S w w') (h1:¬ S L.lb) (h2:¬ S L.p) (h3:¬ S L.b) (h4:¬ S L.tb) (h5:∀ b,L.q.k0≤b→b<L.q.k3→¬ S b):LkAt w' L f:=
 ⟨h.raw.wrote k h1 h2 h3 h4,h.port.wrote k h5,h.far,Nat.le_trans h.top k.size⟩
theorem after (h:LkAt w L f) (k:Wr Nil w w'):LkAt w' L f:=h.wrote k id id id id λ_ _ _=>id
end LkAt
open _root_.Go.Proofs.Tryz
open Go.RowKit Go.BigFrame
theorem fl_use {w:World} {L:Lp} {pv:Value} {s:SS} {sz:Nat} {pc own:Nat→Int} (h:FlRaw w L pv s sz pc own) (a:Addr):
  Calls prog 209 #[.pointer (some ⟨L.lb,0,none⟩),.pointer (some a)] w λe w'=>e= .returned (.tuple #[])∧w'=w.setCell ⟨L.lb,1,none⟩ (.pointer (some a)):=by
 have c1:=h.cell1
 have f1:=h.frozen 1
 clear h
 go_enter func209,ntmps209
 go_wp2
 go_end0
 exact ⟨rfl,rfl⟩
end Go.Proofs.YtcikfcplagelaaaGreat.Ks
