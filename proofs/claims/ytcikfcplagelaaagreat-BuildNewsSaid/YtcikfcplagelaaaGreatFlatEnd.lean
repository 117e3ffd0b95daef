
import Derived.Test.YtcikfcplagelaaaGreatBuVia
import Derived.Deep.RegionHeld3
namespace Go.Proofs.YtcikfcplagelaaaGreat.Kf
open Go.RowKit
set_option linter.unusedVariables false
set_option maxRecDepth 100000
def tkC (num:Nat→Int) (dr:Nat→Bool) (t:Nat):List Value:=[.int .u32 (num t),.bool (dr t)]
theorem tkC_len (num:Nat→Int) (dr:Nat→Bool):∀ x,(tkC num dr x).length=2:=λ_=>rfl
def tks (n:Nat) (num:Nat→Int) (dr:Nat→Bool):List Value:=(List.range n).flatMap (tkC num dr)
theorem tks_at (n:Nat) (num:Nat→Int) (dr:Nat→Bool) {k:Nat} (hk:k<n) {j:Nat} (hj:j<2):(tks n num dr)[k*2+j]? =(tkC num dr k)[j]? :=flat_at' (tkC_len num dr) _ (by rw [List.getElem?_range hk]) hj
structure FlRaw (w:World) (L:Lp) (pv:Value) (s:SS) (num:Nat→Int) (dr:Nat→Bool):Prop where
 obj:w.heap[L.lb]? =some (.cells #[.pointer (some ⟨L.p,0,none⟩),pv,.int .i64 L.a1,.int .i64 L.a2,.slice (some ⟨L.tb,0,none⟩) s.n s.n] 186 (0,0))
 seat:SeatAt w L.p L.b s
 tick:w.heap[L.tb]? =some (.cells (tks s.n num dr).toArray 317 (0,0))
 ne:L.lb≠L.b∧L.lb≠L.tb∧L.p≠L.tb∧L.b≠L.tb∧L.lb≠L.p
 rng:∀ k,0≤num k∧num k<4294967296
namespace FlRaw
variable {w w':World} {L:Lp} {pv:Value} {s:SS} {num:Nat→Int} {dr:Nat→Bool}
theorem wrote {S:Nat→Prop} (h:FlRaw w L pv s num dr) (k:Wr S w w') (h1:¬ S L.lb) (h2:¬ S L.p) (h3:¬ S L.b) (h4:¬ S L.tb):FlRaw w' L pv s num dr:=
 ⟨(k.block _ (blk_lt h.obj) h1).trans h.obj,h.seat.wrote k h2 h3,(k.block _ (blk_lt h.tick) h4).trans h.tick,h.ne,h.rng⟩
theorem after (h:FlRaw w L pv s num dr) (k:Wr Nil w w'):FlRaw w' L pv s num dr:=h.wrote k id id id id
theorem cell0 (h:FlRaw w L pv s num dr):w.cell? ⟨L.lb,0,none⟩=some (.pointer (some ⟨L.p,0,none⟩)):=by rw [blk_cell h.obj];rfl
theorem cell1 (h:FlRaw w L pv s num dr):w.cell? ⟨L.lb,1,none⟩=some pv:=by rw [blk_cell h.obj];rfl
theorem frozen (h:FlRaw w L pv s num dr) (k:Nat):w.frozen? ⟨L.lb,k,none⟩=false:=blk_frozen h.obj k
theorem use (h:FlRaw w L pv s num dr) (v:Value):FlRaw (w.setCell ⟨L.lb,1,none⟩ v) L v s num dr:=by
 have hW:Wr (One L.lb) w (w.setCell ⟨L.lb,1,none⟩ v):=(Wr.refl _ w).setCell _ _ λ_=>rfl
 refine ⟨?_,h.seat.wrote hW (λe=>h.ne.2.2.2.2 e.symm) (λe=>h.ne.1 e.symm),(hW.block _ (blk_lt h.tick) (λe=>h.ne.2.1 e.symm)).trans h.tick,h.ne,h.rng⟩
 rw [blk_setCell h.obj]
 rfl
theorem place (h:FlRaw w L pv s num dr) (q:Place) (hs:List Int):FlRaw w {L with q:=q,hs:=hs} pv s num dr:=⟨h.obj,h.seat,h.tick,h.ne,h.rng⟩
end FlRaw
abbrev RawF (w:World) (L:Lp) (pv:Value) (f:FL):Prop:=FlRaw w L pv f.s f.num f.dr
structure LkAt (w:World) (L:Lp) (f:FL):Prop where
 raw:FlRaw w L (.pointer (some ⟨L.q.p,0,none⟩)) f.s f.num f.dr
 port:PortAt w L.q L.hs f.ps
 far:L.lb<L.q.k0∧L.p<L.q.k0∧L.b<L.q.k0∧L.tb<L.q.k0
 top:L.q.k3≤w.heap.size
namespace LkAt
variable {w w':World} {L:Lp} {f:FL}
theorem wrote {S:Nat→Prop} (h:LkAt w L f) (k:Wr S w w') (h1:¬ S L.lb) (h2:¬ S L.p) (h3:¬ S L.b) (h4:¬ S L.tb) (h5:∀ b,L.q.k0≤b→b<L.q.k3→¬ S b):LkAt w' L f:=
 ⟨h.raw.wrote k h1 h2 h3 h4,h.port.wrote k h5,h.far,Nat.le_trans h.top k.size⟩
theorem after (h:LkAt w L f) (k:Wr Nil w w'):LkAt w' L f:=h.wrote k id id id id λ_ _ _=>id
end LkAt
open _root_.Go.Proofs.Tryz
open Go.RowKit Go.BigFrame
theorem fl_use {w:World} {L:Lp} {pv:Value} {s:SS} {num:Nat→Int} {dr:Nat→Bool} (h:FlRaw w L pv s num dr) (a:Addr):
  Calls prog 194 #[.pointer (some ⟨L.lb,0,none⟩),.pointer (some a)] w λe w'=>e= .returned (.tuple #[])∧w'=w.setCell ⟨L.lb,1,none⟩ (.pointer (some a)):=by
 have c1:=h.cell1
 have f1:=h.frozen 1
 clear h
 go_enter func194,ntmps194
 go_wp2
 go_end0
 exact ⟨rfl,rfl⟩
end Go.Proofs.YtcikfcplagelaaaGreat.Kf
