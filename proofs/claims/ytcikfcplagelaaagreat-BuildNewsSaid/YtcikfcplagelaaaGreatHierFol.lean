
import Derived.Test.YtcikfcplagelaaaGreatBuVia
import Derived.Test.YtcikfcplagelaaaGreatPack
import Derived.Deep.RegionHeld3
namespace Go.Proofs.YtcikfcplagelaaaGreat.Kh
open Go.RowKit
set_option linter.unusedVariables false
set_option maxRecDepth 100000
def _root_.Go.Proofs.YtcikfcplagelaaaGreat.SS.NpH (s:SS):Prop:=s.probed=false∧∀ k,s.st k≠4
structure Pc where
 cl:Int
 nd:Int
 ah:Int
 st:Int
 la:Int
 wa:Int
def Pc.cells (p:Pc):List Value:=[.int .i64 p.cl,.int .u32 p.nd,.int .u32 p.ah,.int .i64 p.st,.int .u32 p.la,.int .u32 p.wa]
def tkC (G:Nat→Pc) (t:Nat):List Value:=(G t).cells
theorem tkC_len (G:Nat→Pc):∀ x,(tkC G x).length=6:=λ_=>rfl
def tks (n:Nat) (G:Nat→Pc):List Value:=(List.range n).flatMap (tkC G)
theorem tks_at (n:Nat) (G:Nat→Pc) {k:Nat} (hk:k<n) {j:Nat} (hj:j<6):(tks n G)[k*6+j]? =(G k).cells[j]? :=flat_at' (tkC_len G) _ (by rw [List.getElem?_range hk]) hj
theorem range_at {n i t:Nat} (ht:(List.range n)[i]? =some t):i<n∧t=i:=by
 have hi:i<n:=by have:=(List.getElem?_eq_some_iff.1 ht).1;simpa using this
 rw [List.getElem?_range hi] at ht
 exact ⟨hi,by simpa using ht.symm⟩
theorem tks_set (n:Nat) (G:Nat→Pc) (k j:Nat) (v:Value) (p:Pc) (hj:j<6) (hp:p.cells=(G k).cells.set j v):(tks n G).set (k*6+j) v=tks n (upd G k p):=by
 refine flat_set (tkC_len G) (tkC_len _) _ k j hj _ λi t ht l hl=> ?_
 obtain ⟨_,rfl⟩:=range_at ht
 unfold tkC
 by_cases e:t=k
 ·subst e
  rw [upd_same,hp,List.getElem?_set]
  have hlen:(G t).cells.length=6:=rfl
  by_cases el:l=j
  ·subst el;simp [hlen,hj]
  ·simp [el,Ne.symm el]
 ·simp [upd_other _ _ e,e]
theorem upd_upd {α:Type} (g:Nat→α) (k:Nat) (x y:α):upd (upd g k x) k y=upd g k y:=by
 funext j
 by_cases e:j=k
 ·subst e;rw [upd_same,upd_same]
 ·rw [upd_other _ _ e,upd_other _ _ e,upd_other _ _ e]
structure Ab where
 cl:Int
 pc:Int
 nd:Int
 ahd:Int
 of:Int
 wv:Int
def FL.ab (f:FL) (k:Nat):Ab:=⟨f.cl k,f.pc k,f.nd k,f.ahd k,f.of k,f.wv k⟩
structure PlI (x:Int) (a:Ab) (p:Pc):Prop where
 cl:p.cl=a.cl∧0≤a.cl∧a.cl≤7
 nd:p.nd=a.nd∧0≤a.nd∧a.nd<4294967296
 st:p.st=a.pc∧0≤a.pc∧a.pc≤7
 ahr:0≤a.ahd∧a.ahd<4294967296
 ofr:0≤a.of∧a.of<4294967296
 wvr:0≤a.wv∧a.wv<4294967296
 ah1:x=1→2≤a.pc→p.ah=a.ahd
 ah2:x=2∨x=3→p.ah=a.ahd
 la1:x=1→4≤a.pc→p.la=a.of
 wa1:x=1→a.pc=6→p.wa=a.wv
 wa3:x=3→a.pc=1→p.wa=a.wv
 idle:x≠1→x≠3→a.pc=0
 rel:x=3→a.pc≤1
 pa:0≤p.ah∧p.ah<4294967296
 pl:0≤p.la∧p.la<4294967296
 pw:0≤p.wa∧p.wa<4294967296
structure FlRaw (w:World) (L:Lp) (pv:Value) (s:SS) (σ:Nat→Int) (A:Nat→Ab):Prop where
 obj:w.heap[L.lb]? =some (.cells #[.pointer (some ⟨L.p,0,none⟩),pv,.int .i64 L.a1,.slice (some ⟨L.tb,0,none⟩) s.n s.n] 209 (0,0))
 seat:SeatAt w L.p L.b s
 tick:∃ G:Nat→Pc,w.heap[L.tb]? =some (.cells (tks s.n G).toArray 251 (0,0))∧∀ k,k<s.n→PlI (σ k) (A k) (G k)
 np:s.NpH
 ne:L.lb≠L.b∧L.lb≠L.tb∧L.p≠L.tb∧L.b≠L.tb∧L.lb≠L.p
 adr:0≤L.a1∧L.a1≤2000000∧L.a2=L.a1+1
namespace FlRaw
variable {w w':World} {L:Lp} {pv:Value} {s:SS} {σ:Nat→Int} {A:Nat→Ab}
theorem wrote {S:Nat→Prop} (h:FlRaw w L pv s σ A) (k:Wr S w w') (h1:¬ S L.lb) (h2:¬ S L.p) (h3:¬ S L.b) (h4:¬ S L.tb):FlRaw w' L pv s σ A:=by
 obtain ⟨G,g1,g2⟩:=h.tick
 exact ⟨(k.block _ (blk_lt h.obj) h1).trans h.obj,h.seat.wrote k h2 h3,⟨G,(k.block _ (blk_lt g1) h4).trans g1,g2⟩,h.np,h.ne,h.adr⟩
theorem after (h:FlRaw w L pv s σ A) (k:Wr Nil w w'):FlRaw w' L pv s σ A:=h.wrote k id id id id
theorem lto (h:FlRaw w L pv s σ A):L.lb<w.heap.size:=blk_lt h.obj
theorem ltt (h:FlRaw w L pv s σ A):L.tb<w.heap.size:=by obtain ⟨G,g1,_⟩:=h.tick;exact blk_lt g1
theorem cell0 (h:FlRaw w L pv s σ A):w.cell? ⟨L.lb,0,none⟩=some (.pointer (some ⟨L.p,0,none⟩)):=by rw [blk_cell h.obj];rfl
theorem cell1 (h:FlRaw w L pv s σ A):w.cell? ⟨L.lb,1,none⟩=some pv:=by rw [blk_cell h.obj];rfl
theorem frozen (h:FlRaw w L pv s σ A) (k:Nat):w.frozen? ⟨L.lb,k,none⟩=false:=blk_frozen h.obj k
theorem use (h:FlRaw w L pv s σ A) (v:Value):FlRaw (w.setCell ⟨L.lb,1,none⟩ v) L v s σ A:=by
 have hW:Wr (One L.lb) w (w.setCell ⟨L.lb,1,none⟩ v):=(Wr.refl _ w).setCell _ _ λ_=>rfl
 obtain ⟨G,g1,g2⟩:=h.tick
 refine ⟨?_,h.seat.wrote hW (λe=>h.ne.2.2.2.2 e.symm) (λe=>h.ne.1 e.symm),⟨G,(hW.block _ (blk_lt g1) (λe=>h.ne.2.1 e.symm)).trans g1,g2⟩,h.np,h.ne,h.adr⟩
 rw [blk_setCell h.obj]
 rfl
theorem place (h:FlRaw w L pv s σ A) (q:Place) (hs:List Int):FlRaw w {L with q:=q,hs:=hs} pv s σ A:=⟨h.obj,h.seat,h.tick,h.np,h.ne,h.adr⟩
end FlRaw
abbrev RawF (w:World) (L:Lp) (pv:Value) (f:FL):Prop:=FlRaw w L pv f.s f.s.st f.ab
structure LkM (w:World) (L:Lp) (f:FL) (σ:Nat→Int):Prop where
 raw:FlRaw w L (.pointer (some ⟨L.q.p,0,none⟩)) f.s σ f.ab
 port:PortAt w L.q L.hs f.ps
 far:L.lb<L.q.k0∧L.p<L.q.k0∧L.b<L.q.k0∧L.tb<L.q.k0
 top:L.q.k3≤w.heap.size
abbrev LkAt (w:World) (L:Lp) (f:FL):Prop:=LkM w L f f.s.st
namespace LkM
variable {w w':World} {L:Lp} {f:FL} {σ:Nat→Int}
theorem wrote {S:Nat→Prop} (h:LkM w L f σ) (k:Wr S w w') (h5:∀ b,b<L.q.k3→¬ S b):LkM w' L f σ:=by
 have hf:=h.far
 have hl:=h.port.place.le
 exact ⟨h.raw.wrote k (h5 _ (by omega)) (h5 _ (by omega)) (h5 _ (by omega)) (h5 _ (by omega)),h.port.wrote k (λb _ b2=>h5 b b2),h.far,Nat.le_trans h.top k.size⟩
theorem after (h:LkM w L f σ) (k:Wr Nil w w'):LkM w' L f σ:=h.wrote k λ_ _=>id
end LkM
open _root_.Go.Proofs.Tryz
open Go.RowKit Go.BigFrame
theorem fl_use {w:World} {L:Lp} {pv:Value} {s:SS} {σ:Nat→Int} {A:Nat→Ab} (h:FlRaw w L pv s σ A) (a:Addr):
  Calls prog 256 #[.pointer (some ⟨L.lb,0,none⟩),.pointer (some a)] w λe w'=>e= .returned (.tuple #[])∧w'=w.setCell ⟨L.lb,1,none⟩ (.pointer (some a)):=by
 have c1:=h.cell1
 have f1:=h.frozen 1
 clear h
 go_enter func256,ntmps256
 go_wp2
 go_end0
 exact ⟨rfl,rfl⟩
end Go.Proofs.YtcikfcplagelaaaGreat.Kh
