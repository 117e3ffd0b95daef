
import Derived.Test.YtcikfcplagelaaaGreatBuVia
import Derived.Deep.RegionHeld3
namespace Go.Proofs.YtcikfcplagelaaaGreat.Km
open Go.RowKit
set_option linter.unusedVariables false
set_option maxRecDepth 100000
def tkC (pc og:Nat→Int) (t:Nat):List Value:=[.int .i64 (pc t),.int .u32 (og t)]
theorem tkC_len (pc og:Nat→Int):∀ x,(tkC pc og x).length=2:=λ_=>rfl
def tks (n:Nat) (pc og:Nat→Int):List Value:=(List.range n).flatMap (tkC pc og)
theorem tks_at (n:Nat) (pc og:Nat→Int) {k:Nat} (hk:k<n) {j:Nat} (hj:j<2):(tks n pc og)[k*2+j]? =(tkC pc og k)[j]? :=flat_at' (tkC_len pc og) _ (by rw [List.getElem?_range hk]) hj
def ogf (pc oth:Nat→Int) (k:Nat):Int:=if pc k≤1 then 0 else oth k
structure FlRaw (w:World) (L:Lp) (pv:Value) (s:SS) (pc oth:Nat→Int):Prop where
 obj:w.heap[L.lb]? =some (.cells #[.pointer (some ⟨L.p,0,none⟩),pv,.int .i64 L.a1,.slice (some ⟨L.tb,0,none⟩) s.n s.n] 199 (0,0))
 seat:SeatAt w L.p L.b s
 tick:w.heap[L.tb]? =some (.cells (tks s.n pc (ogf pc oth)).toArray 330 (0,0))
 ne:L.lb≠L.b∧L.lb≠L.tb∧L.p≠L.tb∧L.b≠L.tb∧L.lb≠L.p
 rng:∀ k,(0≤pc k∧pc k≤4)∧0≤oth k∧oth k<4294967296
 inv:∀ k,s.st k≠1→pc k≤3∧(pc k=1∨pc k=2→oth k=0)
 adr:0≤L.a1∧L.a1≤2000000∧L.a2=L.a1+1
namespace FlRaw
variable {w w':World} {L:Lp} {pv:Value} {s:SS} {pc oth:Nat→Int}
theorem wrote {S:Nat→Prop} (h:FlRaw w L pv s pc oth) (k:Wr S w w') (h1:¬ S L.lb) (h2:¬ S L.p) (h3:¬ S L.b) (h4:¬ S L.tb):FlRaw w' L pv s pc oth:=
 ⟨(k.block _ (blk_lt h.obj) h1).trans h.obj,h.seat.wrote k h2 h3,(k.block _ (blk_lt h.tick) h4).trans h.tick,h.ne,h.rng,h.inv,h.adr⟩
theorem after (h:FlRaw w L pv s pc oth) (k:Wr Nil w w'):FlRaw w' L pv s pc oth:=h.wrote k id id id id
theorem cell0 (h:FlRaw w L pv s pc oth):w.cell? ⟨L.lb,0,none⟩=some (.pointer (some ⟨L.p,0,none⟩)):=by rw [blk_cell h.obj];rfl
theorem cell1 (h:FlRaw w L pv s pc oth):w.cell? ⟨L.lb,1,none⟩=some pv:=by rw [blk_cell h.obj];rfl
theorem frozen (h:FlRaw w L pv s pc oth) (k:Nat):w.frozen? ⟨L.lb,k,none⟩=false:=blk_frozen h.obj k
theorem use (h:FlRaw w L pv s pc oth) (v:Value):FlRaw (w.setCell ⟨L.lb,1,none⟩ v) L v s pc oth:=by
 have hW:Wr (One L.lb) w (w.setCell ⟨L.lb,1,none⟩ v):=(Wr.refl _ w).setCell _ _ λ_=>rfl
 refine ⟨?_,h.seat.wrote hW (λe=>h.ne.2.2.2.2 e.symm) (λe=>h.ne.1 e.symm),(hW.block _ (blk_lt h.tick) (λe=>h.ne.2.1 e.symm)).trans h.tick,h.ne,h.rng,h.inv,h.adr⟩
 rw [blk_setCell h.obj]
 rfl
theorem place (h:FlRaw w L pv s pc oth) (q:Place) (hs:List Int):FlRaw w {L with q:=q,hs:=hs} pv s pc oth:=⟨h.obj,h.seat,h.tick,h.ne,h.rng,h.inv,h.adr⟩
end FlRaw
abbrev RawF (w:World) (L:Lp) (pv:Value) (f:FL):Prop:=FlRaw w L pv f.s f.pc f.oth
structure LkAt (w:World) (L:Lp) (f:FL):Prop where
 raw:FlRaw w L (.pointer (some ⟨L.q.p,0,none⟩)) f.s f.pc f.oth
 port:PortAt w L.q L.hs f.ps
 far:L.lb<L.q.k0∧L.p<L.q.k0∧L.b<L.q.k0∧L.tb<L.q.k0
 top:L.q.k3≤w.heap.size
def LF (L:Lp) (k:Nat):Prop:=k=L.b∨k=L.tb∨Rng L.q.k0 L.q.k3 k
namespace LkAt
variable {w w':World} {L:Lp} {f:FL}
theorem wrote {S:Nat→Prop} (h:LkAt w L f) (k:Wr S w w') (h1:¬ S L.lb) (h2:¬ S L.p) (h3:¬ S L.b) (h4:¬ S L.tb) (h5:∀ b,L.q.k0≤b→b<L.q.k3→¬ S b):LkAt w' L f:=
 ⟨h.raw.wrote k h1 h2 h3 h4,h.port.wrote k h5,h.far,Nat.le_trans h.top k.size⟩
theorem after (h:LkAt w L f) (k:Wr Nil w w'):LkAt w' L f:=h.wrote k id id id id λ_ _ _=>id
end LkAt
open _root_.Go.Proofs.Tryz
open Go.RowKit Go.BigFrame
theorem fl_use {w:World} {L:Lp} {pv:Value} {s:SS} {pc oth:Nat→Int} (h:FlRaw w L pv s pc oth) (a:Addr):
  Calls prog 223 #[.pointer (some ⟨L.lb,0,none⟩),.pointer (some a)] w λe w'=>e= .returned (.tuple #[])∧w'=w.setCell ⟨L.lb,1,none⟩ (.pointer (some a)):=by
 have c1:=h.cell1
 have f1:=h.frozen 1
 clear h
 go_enter func223,ntmps223
 go_wp2
 go_end0
 exact ⟨rfl,rfl⟩
end Go.Proofs.YtcikfcplagelaaaGreat.Km
