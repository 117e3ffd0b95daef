
import Derived.Test.YtcikfcplagelaaaGreatBuVia
import Derived.Deep.RegionHeld3
namespace Go.Proofs.YtcikfcplagelaaaGreat.Kc
open Go.RowKit
set_option linter.unusedVariables false
set_option maxRecDepth 100000
def tkC (pc node ahd:Nat→Int) (t:Nat):List Value:=[.int .i64 (pc t),.int .u32 (node t),.int .u32 (ahd t)]
theorem tkC_len (pc node ahd:Nat→Int):∀ x,(tkC pc node ahd x).length=3:=λ_=>rfl
def tks (n:Nat) (pc node ahd:Nat→Int):List Value:=(List.range n).flatMap (tkC pc node ahd)
theorem tks_at (n:Nat) (pc node ahd:Nat→Int) {k:Nat} (hk:k<n) {j:Nat} (hj:j<3):(tks n pc node ahd)[k*3+j]? =(tkC pc node ahd k)[j]? :=flat_at' (tkC_len pc node ahd) _ (by rw [List.getElem?_range hk]) hj
theorem range_at {n i t:Nat} (ht:(List.range n)[i]? =some t):i<n∧t=i:=by
 have hi:i<n:=by have:=(List.getElem?_eq_some_iff.1 ht).1;simpa using this
 rw [List.getElem?_range hi] at ht
 exact ⟨hi,by simpa using ht.symm⟩
theorem tks_set1 (n:Nat) (pc node ahd:Nat→Int) (k:Nat) (x:Int):(tks n pc node ahd).set (k*3+1) (.int .u32 x)=tks n pc (upd node k x) ahd:=by
 refine flat_set (tkC_len pc node ahd) (tkC_len _ _ _) _ k 1 (by decide) _ λi t ht l hl=> ?_
 obtain ⟨_,rfl⟩:=range_at ht
 have:l=0∨l=1∨l=2:=by omega
 rcases this with rfl|rfl|rfl
 ·by_cases e:t=k
  ·subst e;simp [tkC]
  ·simp [tkC,e]
 ·by_cases e:t=k
  ·subst e;simp [tkC,upd_same]
  ·simp [tkC,upd_other _ _ e,e]
 ·by_cases e:t=k
  ·subst e;simp [tkC]
  ·simp [tkC,e]
structure FlRaw (w:World) (L:Lp) (pv:Value) (s:SS) (pc node ahd:Nat→Int):Prop where
 obj:w.heap[L.lb]? =some (.cells #[.pointer (some ⟨L.p,0,none⟩),pv,.int .i64 L.a1,.int .i64 L.a2,.slice (some ⟨L.tb,0,none⟩) s.n s.n] 195 (0,0))
 seat:SeatAt w L.p L.b s
 tick:w.heap[L.tb]? =some (.cells (tks s.n pc node ahd).toArray 241 (0,0))
 ne:L.lb≠L.b∧L.lb≠L.tb∧L.p≠L.tb∧L.b≠L.tb∧L.lb≠L.p
 rng:∀ k,(pc k=0∨pc k=1∨pc k=2)∧(0≤node k∧node k<4294967296)∧0≤ahd k∧ahd k<4294967296
 adr:0≤L.a2∧L.a2≤2000000
namespace FlRaw
variable {w w':World} {L:Lp} {pv:Value} {s:SS} {pc node ahd:Nat→Int}
theorem wrote {S:Nat→Prop} (h:FlRaw w L pv s pc node ahd) (k:Wr S w w') (h1:¬ S L.lb) (h2:¬ S L.p) (h3:¬ S L.b) (h4:¬ S L.tb):FlRaw w' L pv s pc node ahd:=
 ⟨(k.block _ (blk_lt h.obj) h1).trans h.obj,h.seat.wrote k h2 h3,(k.block _ (blk_lt h.tick) h4).trans h.tick,h.ne,h.rng,h.adr⟩
theorem after (h:FlRaw w L pv s pc node ahd) (k:Wr Nil w w'):FlRaw w' L pv s pc node ahd:=h.wrote k id id id id
theorem cell0 (h:FlRaw w L pv s pc node ahd):w.cell? ⟨L.lb,0,none⟩=some (.pointer (some ⟨L.p,0,none⟩)):=by rw [blk_cell h.obj];rfl
theorem cell1 (h:FlRaw w L pv s pc node ahd):w.cell? ⟨L.lb,1,none⟩=some pv:=by rw [blk_cell h.obj];rfl
theorem frozen (h:FlRaw w L pv s pc node ahd) (k:Nat):w.frozen? ⟨L.lb,k,none⟩=false:=blk_frozen h.obj k
theorem use (h:FlRaw w L pv s pc node ahd) (v:Value):FlRaw (w.setCell ⟨L.lb,1,none⟩ v) L v s pc node ahd:=by
 have hW:Wr (One L.lb) w (w.setCell ⟨L.lb,1,none⟩ v):=(Wr.refl _ w).setCell _ _ λ_=>rfl
 refine ⟨?_,h.seat.wrote hW (λe=>h.ne.2.2.2.2 e.symm) (λe=>h.ne.1 e.symm),(hW.block _ (blk_lt h.tick) (λe=>h.ne.2.1 e.symm)).trans h.tick,h.ne,h.rng,h.adr⟩
 rw [blk_setCell h.obj]
 rfl
theorem place (h:FlRaw w L pv s pc node ahd) (q:Place) (hs:List Int):FlRaw w {L with q:=q,hs:=hs} pv s pc node ahd:=⟨h.obj,h.seat,h.tick,h.ne,h.rng,h.adr⟩
end FlRaw
abbrev RawF (w:World) (L:Lp) (pv:Value) (f:FL):Prop:=FlRaw w L pv f.s f.pc f.node f.ahd
structure LkAt (w:World) (L:Lp) (f:FL):Prop where
 raw:FlRaw w L (.pointer (some ⟨L.q.p,0,none⟩)) f.s f.pc f.node f.ahd
 port:PortAt w L.q L.hs f.ps
 far:L.lb<L.q.k0∧L.p<L.q.k0∧L.b<L.q.k0∧L.tb<L.q.k0
 top:L.q.k3≤w.heap.size
namespace LkAt
variable {w w':World} {L:Lp} {f:FL}
theorem wrote {S:Nat→Prop} (h:LkAt w L f) (k:Wr S w w') (h1:¬ S L.lb) (h2:¬ S L.p) (h3:¬ S L.b) (h4:¬ S L.tb) (h5:∀ b,L.q.k0≤b→b<L.q.k3→¬ S b):LkAt w' L f:=
 ⟨h.raw.wrote k h1 h2 h3 h4,h.port.wrote k h5,h.far,Nat.le_trans h.top k.size⟩
theorem after (h:LkAt w L f) (k:Wr Nil w w'):LkAt w' L f:=h.wrote k id id id id λ_ _ _=>id
end LkAt
open _root_.Go.Proofs.Tryz
open Go.RowKit Go.BigFrame
theorem fl_use {w:World} {L:Lp} {pv:Value} {s:SS} {pc node ahd:Nat→Int} (h:FlRaw w L pv s pc node ahd) (a:Addr):
  Calls prog 213 #[.pointer (some ⟨L.lb,0,none⟩),.pointer (some a)] w λe w'=>e= .returned (.tuple #[])∧w'=w.setCell ⟨L.lb,1,none⟩ (.pointer (some a)):=by
 have c1:=h.cell1
 have f1:=h.frozen 1
 clear h
 go_enter func213,ntmps213
 go_wp2
 go_end0
 exact ⟨rfl,rfl⟩
end Go.Proofs.YtcikfcplagelaaaGreat.Kc
