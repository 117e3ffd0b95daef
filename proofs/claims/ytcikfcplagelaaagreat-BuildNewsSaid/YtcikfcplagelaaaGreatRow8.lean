
import Derived.Test.YtcikfcplagelaaaGreatCohortAcc
import Derived.Test.YtcikfcplagelaaaGreatBuF
import Derived.Test.YtcikfcplagelaaaGreatBuC
import Derived.Test.YtcikfcplagelaaaGreatBuM
import Derived.Deep.CutBlock
namespace Go.Proofs.YtcikfcplagelaaaGreat
open _root_.Go.Proofs.Tryz
open Go.RowKit
set_option linter.unusedVariables false
set_option maxRecDepth 100000
def noPl:Place:=⟨0,0,0,0,0,0,0,0,0,0,0,0,.slice none 0 0⟩
def Ip.kf (I:Ip) (q:Place) (hs:List Int):Kf.Lp:={lb:=I.lb,p:=I.p,b:=I.b,tb:=I.tb,a1:=(I.a:Nat),a2:=(I.a:Nat)+1,q:=q,hs:=hs}
def Ip.kc (I:Ip) (q:Place) (hs:List Int):Kc.Lp:={lb:=I.lb,p:=I.p,b:=I.b,tb:=I.tb,a1:=(I.a:Nat),a2:=(I.a:Nat)+1,q:=q,hs:=hs}
def Ip.km (I:Ip) (q:Place) (hs:List Int):Km.Lp:={lb:=I.lb,p:=I.p,b:=I.b,tb:=I.tb,a1:=(I.a:Nat),a2:=(I.a:Nat)+1,q:=q,hs:=hs}
def Ip.val (I:Ip):Value:= .iface I.ty (.pointer (some ⟨I.lb,0,none⟩))
namespace Inn
def ty:Inn→Nat
 |tk _=>131
 |cl _=>137
 |mc _=>140
def useF:Inn→Nat
 |tk _=>194
 |cl _=>213
 |mc _=>223
theorem use_enter (x:Inn) (args:Array Value) (w:World):(callFunc x.useF args).run prog w= .ok (.enter x.useF args) w:=by
 cases x with
 |tk f=>show (callFunc 194 args).run prog w= .ok (.enter 194 args) w;kernel_rfl
 |cl f=>show (callFunc 213 args).run prog w= .ok (.enter 213 args) w;kernel_rfl
 |mc f=>show (callFunc 223 args).run prog w= .ok (.enter 223 args) w;kernel_rfl
def Raw (w:World) (I:Ip) (pv:Value):Inn→Prop
 |tk f=>Kf.RawF w (I.kf noPl []) pv f
 |cl f=>Kc.RawF w (I.kc noPl []) pv f
 |mc f=>Km.RawF w (I.km noPl []) pv f
end Inn
structure InAt (w:World) (I:Ip) (pv:Value) (x:Inn):Prop where
 raw:x.Raw w I pv
 rng:(I.lo≤I.lb∧I.lb<I.hi)∧(I.lo≤I.p∧I.p<I.hi)∧(I.lo≤I.b∧I.b<I.hi)∧I.lo≤I.tb∧I.tb<I.hi
 le:I.hi≤w.heap.size
 ty:x.ty=I.ty
 pr:x.s.probed=true
namespace InAt
variable {w w':World} {I:Ip} {pv:Value} {x:Inn}
theorem wrote {S:Nat→Prop} (h:InAt w I pv x) (k:Wr S w w') (hS:∀ b,I.lo≤b→b<I.hi→¬ S b):InAt w' I pv x:=by
 obtain ⟨a,b,c,d,e⟩:=h
 have h1:=hS I.lb b.1.1 b.1.2
 have h2:=hS I.p b.2.1.1 b.2.1.2
 have h3:=hS I.b b.2.2.1.1 b.2.2.1.2
 have h4:=hS I.tb b.2.2.2.1 b.2.2.2.2
 refine ⟨?_,b,Nat.le_trans c k.size,d,e⟩
 cases x with
 |tk f=>exact Kf.FlRaw.wrote a k h1 h2 h3 h4
 |cl f=>exact Kc.FlRaw.wrote a k h1 h2 h3 h4
 |mc f=>exact Km.FlRaw.wrote a k h1 h2 h3 h4
theorem after (h:InAt w I pv x) (k:Wr Nil w w'):InAt w' I pv x:=h.wrote k λ_ _ _=>id
theorem seat (h:InAt w I pv x):SeatAt w I.p I.b x.s:=by
 have a:=h.raw
 cases x with
 |tk f=>exact Kf.FlRaw.seat a
 |cl f=>exact Kc.FlRaw.seat a
 |mc f=>exact Km.FlRaw.seat a
theorem via_use (h:InAt w I pv x) (w:World):(method 446 I.ty (.pointer (some ⟨I.lb,0,none⟩)) "Use").run prog w= .ok (x.useF,.pointer (some ⟨I.lb,0,none⟩)) w:=by
 rw [←h.ty]
 cases x with
 |tk f=>exact Kf.via_use ⟨I.lb,0,none⟩ w
 |cl f=>exact Kc.via_use ⟨I.lb,0,none⟩ w
 |mc f=>exact Km.via_use ⟨I.lb,0,none⟩ w
end InAt
def InPost (w:World) (I:Ip) (pv:Value) (x:Inn) (v:Value) (e:Ending) (w':World):Prop:=e= .returned v∧InAt w' I pv x∧Wr (Rng I.lo I.hi) w w'
section
variable {w:World} {I:Ip} {pv:Value} {x:Inn}
theorem in_wr {w w':World} {b:Nat} (hb:I.lo≤b∧b<I.hi) (k:Wr (One b) w w'):Wr (Rng I.lo I.hi) w w':=k.mono λj _ e=>by unfold One at e;subst e;exact hb
theorem in_use (h:InAt w I pv x) (a:Addr):Calls prog x.useF #[.pointer (some ⟨I.lb,0,none⟩),.pointer (some a)] w (InPost w I (.pointer (some a)) x (.tuple #[])):=by
 obtain ⟨r,b,c,ty,pr⟩:=h
 have hW:Wr (One I.lb) w (w.setCell ⟨I.lb,1,none⟩ (.pointer (some a))):=(Wr.refl _ w).setCell _ _ λ_=>rfl
 cases x with
 |tk f=>
  refine (Kf.fl_use r a).mono ?_
  rintro e w' ⟨rfl,rfl⟩
  exact ⟨rfl,⟨Kf.FlRaw.use r _,b,Nat.le_trans c hW.size,ty,pr⟩,in_wr b.1 hW⟩
 |cl f=>
  refine (Kc.fl_use r a).mono ?_
  rintro e w' ⟨rfl,rfl⟩
  exact ⟨rfl,⟨Kc.FlRaw.use r _,b,Nat.le_trans c hW.size,ty,pr⟩,in_wr b.1 hW⟩
 |mc f=>
  refine (Km.fl_use r a).mono ?_
  rintro e w' ⟨rfl,rfl⟩
  exact ⟨rfl,⟨Km.FlRaw.use r _,b,Nat.le_trans c hW.size,ty,pr⟩,in_wr b.1 hW⟩
end
def cxC (nd own:Nat→Nat) (nx:Nat→Value) (got:Nat→Int) (t:Nat):List Value:=[.int .i64 (nd t:Nat),.int .i64 (own t:Nat),nx t,.int .u32 (got t)]
theorem cxC_len (nd own:Nat→Nat) (nx:Nat→Value) (got:Nat→Int):∀ x,(cxC nd own nx got x).length=4:=λ_=>rfl
def cxs (n:Nat) (nd own:Nat→Nat) (nx:Nat→Value) (got:Nat→Int):List Value:=(List.range n).flatMap (cxC nd own nx got)
theorem cxs_at (n:Nat) (nd own:Nat→Nat) (nx:Nat→Value) (got:Nat→Int) {k:Nat} (hk:k<n) {j:Nat} (hj:j<4):(cxs n nd own nx got)[k*4+j]? =(cxC nd own nx got k)[j]? :=flat_at' (cxC_len nd own nx got) _ (by rw [List.getElem?_range hk]) hj
theorem cx_range {n i t:Nat} (ht:(List.range n)[i]? =some t):i<n∧t=i:=by
 have hi:i<n:=by have:=(List.getElem?_eq_some_iff.1 ht).1;simpa using this
 rw [List.getElem?_range hi] at ht
 exact ⟨hi,by simpa using ht.symm⟩
theorem four_of {l:Nat} (hl:l<4):l=0∨l=1∨l=2∨l=3:=by omega
theorem cxs_set2 (n:Nat) (nd own:Nat→Nat) (nx:Nat→Value) (got:Nat→Int) (k:Nat) (v:Value):(cxs n nd own nx got).set (k*4+2) v=cxs n nd own (upd nx k v) got:=by
 refine flat_set (cxC_len nd own nx got) (cxC_len _ _ _ _) _ k 2 (by decide) _ λi t ht l hl=> ?_
 obtain ⟨_,rfl⟩:=cx_range ht
 rcases four_of hl with rfl|rfl|rfl|rfl
 all_goals
  by_cases e:t=k
  ·subst e;simp [cxC,upd_same]
  ·simp [cxC,upd_other _ _ e,e]
theorem cxs_set3 (n:Nat) (nd own:Nat→Nat) (nx:Nat→Value) (got:Nat→Int) (k:Nat) (v:Int):(cxs n nd own nx got).set (k*4+3) (.int .u32 v)=cxs n nd own nx (upd got k v):=by
 refine flat_set (cxC_len nd own nx got) (cxC_len _ _ _ _) _ k 3 (by decide) _ λi t ht l hl=> ?_
 obtain ⟨_,rfl⟩:=cx_range ht
 rcases four_of hl with rfl|rfl|rfl|rfl
 all_goals
  by_cases e:t=k
  ·subst e;simp [cxC,upd_same]
  ·simp [cxC,upd_other _ _ e,e]
theorem cxs_same {n:Nat} {nd own:Nat→Nat} {nx nx':Nat→Value} {got:Nat→Int} (h:∀ t,t<n→nx t=nx' t):cxs n nd own nx got=cxs n nd own nx' got:=by
 unfold cxs
 rw [List.flatMap_def,List.flatMap_def]
 congr 1
 refine List.map_congr_left λt ht=> ?_
 have:=h t (by simpa using ht)
 unfold cxC
 rw [this]
def lvL (L:Lp) (c:Nat):Value:=if L.has c=true then (L.li c).val else .nilIface
structure FlRaw (w:World) (L:Lp) (pv pg:Value) (pl:Nat→Value) (f:FL) (nx:Nat→Value):Prop where
 obj:w.heap[L.lb]? =some (.cells #[.pointer (some ⟨L.p,0,none⟩),pv,.int .u32 f.bud,.int .i64 L.a1,L.gi.val,lvL L 0,lvL L 1,lvL L 2,lvL L 3,lvL L 4,lvL L 5,lvL L 6,lvL L 7,.slice (some ⟨L.tb,0,none⟩) f.s.n f.s.n] 214 (0,0))
 seat:SeatAt w L.p L.b f.s
 tick:w.heap[L.tb]? =some (.cells (cxs f.s.n f.nd f.own nx f.got).toArray 264 (0,0))
 glo:InAt w L.gi pg f.G
 loc:∀ c,c<8→L.has c=true→InAt w (L.li c) (pl c) (f.Lc c)
 ne:L.lb≠L.b∧L.lb≠L.tb∧L.p≠L.tb∧L.b≠L.tb∧L.lb≠L.p
 low:(L.lo≤L.lb∧L.lb<L.gi.lo)∧(L.lo≤L.p∧L.p<L.gi.lo)∧(L.lo≤L.b∧L.b<L.gi.lo)∧L.lo≤L.tb∧L.tb<L.gi.lo
 sep:(∀ c,c<8→L.has c=true→L.gi.hi≤(L.li c).lo)∧∀ c d,c<8→d<8→L.has c=true→L.has d=true→c≠d→(L.li c).hi≤(L.li d).lo∨(L.li d).hi≤(L.li c).lo
 nod:∀ t,t<f.s.n→f.nd t<8∧L.has (f.nd t)=true
 adr:(0≤L.a1∧L.a1≤2000000)∧L.gi.a=f.ga∧∀ c,c<8→L.has c=true→(L.li c).a=f.la c
 rng:(∀ t,0≤f.got t∧f.got t<4294967296)∧0≤f.bud∧f.bud<4294967296
namespace FlRaw
variable {w w':World} {L:Lp} {pv pg:Value} {pl:Nat→Value} {f:FL} {nx:Nat→Value}
theorem glr (h:FlRaw w L pv pg pl f nx):L.gi.lo<L.gi.hi:=by have:=h.glo.rng.1;omega
theorem wrote {S:Nat→Prop} (h:FlRaw w L pv pg pl f nx) (k:Wr S w w') (hS:∀ b,L.lo≤b→b<w.heap.size→¬ S b):FlRaw w' L pv pg pl f nx:=by
 have hl:=h.low
 have g:=h.glr
 have g2:=h.glo.le
 refine ⟨(k.block _ (blk_lt h.obj) (hS _ hl.1.1 (blk_lt h.obj))).trans h.obj,h.seat.wrote k (hS _ hl.2.1.1 (blk_lt h.seat.obj)) (hS _ hl.2.2.1.1 (blk_lt h.seat.ctx)),(k.block _ (blk_lt h.tick) (hS _ hl.2.2.2.1 (blk_lt h.tick))).trans h.tick,h.glo.wrote k λb b1 b2=>hS b (by omega) (by omega),λc hc hh=> ?_,h.ne,h.low,h.sep,h.nod,h.adr,h.rng⟩
 have s:=h.sep.1 c hc hh
 have i:=h.loc c hc hh
 have:=i.le
 exact i.wrote k λb b1 b2=>hS b (by omega) (by omega)
theorem after (h:FlRaw w L pv pg pl f nx) (k:Wr Nil w w'):FlRaw w' L pv pg pl f nx:=h.wrote k λ_ _ _=>id
theorem same (h:FlRaw w L pv pg pl f nx) {nx':Nat→Value} (e:∀ t,t<f.s.n→nx t=nx' t):FlRaw w L pv pg pl f nx':=
 ⟨h.obj,h.seat,by rw [←cxs_same e];exact h.tick,h.glo,h.loc,h.ne,h.low,h.sep,h.nod,h.adr,h.rng⟩
theorem keep {S:Nat→Prop} (h:FlRaw w L pv pg pl f nx) (k:Wr S w w') (hS:∀ b,S b→b<L.gi.lo):InAt w' L.gi pg f.G∧∀ c,c<8→L.has c=true→InAt w' (L.li c) (pl c) (f.Lc c):=by
 have g:=h.glr
 refine ⟨h.glo.wrote k λb b1 _ e=>by have:=hS b e;omega,λc hc hh=> ?_⟩
 have s:=h.sep.1 c hc hh
 exact (h.loc c hc hh).wrote k λb b1 _ e=>by have:=hS b e;omega
theorem cell0 (h:FlRaw w L pv pg pl f nx):w.cell? ⟨L.lb,0,none⟩=some (.pointer (some ⟨L.p,0,none⟩)):=by rw [blk_cell h.obj];rfl
theorem cell1 (h:FlRaw w L pv pg pl f nx):w.cell? ⟨L.lb,1,none⟩=some pv:=by rw [blk_cell h.obj];rfl
theorem cell4 (h:FlRaw w L pv pg pl f nx):w.cell? ⟨L.lb,4,none⟩=some L.gi.val:=by rw [blk_cell h.obj];rfl
theorem cellL (h:FlRaw w L pv pg pl f nx) {c:Nat} (hc:c<8):w.cell? ⟨L.lb,5+c,none⟩=some (lvL L c):=by
 rw [blk_cell h.obj]
 have:c=0∨c=1∨c=2∨c=3∨c=4∨c=5∨c=6∨c=7:=by omega
 rcases this with rfl|rfl|rfl|rfl|rfl|rfl|rfl|rfl<;>rfl
theorem frozen (h:FlRaw w L pv pg pl f nx) (k:Nat):w.frozen? ⟨L.lb,k,none⟩=false:=blk_frozen h.obj k
theorem glob {S:Nat→Prop} {x:Inn} {pg':Value} (h:FlRaw w L pv pg pl f nx) (hx:InAt w' L.gi pg' x) (k:Wr S w w') (hS:∀ b,b<w.heap.size→S b→Rng L.gi.lo L.gi.hi b∨((∀ c,c<8→L.has c=true→(L.li c).hi≤b)∧L.gi.hi≤b)):FlRaw w' L pv pg' pl {f with G:=x} nx:=by
 have hl:=h.low
 have g:=h.glr
 have hn:∀ b,b<w.heap.size→b<L.gi.lo→¬ S b:=λb hb h1 e=>by rcases hS b hb e with q|q;(unfold Rng at q;omega);omega
 refine ⟨(k.block _ (blk_lt h.obj) (hn _ (blk_lt h.obj) hl.1.2)).trans h.obj,h.seat.wrote k (hn _ (blk_lt h.seat.obj) hl.2.1.2) (hn _ (blk_lt h.seat.ctx) hl.2.2.1.2),(k.block _ (blk_lt h.tick) (hn _ (blk_lt h.tick) hl.2.2.2.2)).trans h.tick,hx,λc hc hh=> ?_,h.ne,h.low,h.sep,h.nod,h.adr,h.rng⟩
 have i:=h.loc c hc hh
 have s:=h.sep.1 c hc hh
 have il:=i.le
 exact i.wrote k λb b1 b2 e=>by
  rcases hS b (by omega) e with q|q
  ·unfold Rng at q;omega
  ·have:=q.1 c hc hh;omega
theorem locl {S:Nat→Prop} {x:Inn} {c:Nat} {pc:Value} (h:FlRaw w L pv pg pl f nx) (hc:c<8) (hh:L.has c=true) (hx:InAt w' (L.li c) pc x) (k:Wr S w w') (hS:∀ b,b<w.heap.size→S b→Rng (L.li c).lo (L.li c).hi b∨((∀ c,c<8→L.has c=true→(L.li c).hi≤b)∧L.gi.hi≤b)):
  FlRaw w' L pv pg (upd pl c pc) {f with Lc:=upd f.Lc c x} nx:=by
 have hl:=h.low
 have g:=h.glr
 have s0:=h.sep.1 c hc hh
 have gl:=h.glo.le
 have hn:∀ b,b<w.heap.size→b<L.gi.hi→¬ S b:=λb hb h1 e=>by rcases hS b hb e with q|q;(unfold Rng at q;omega);omega
 refine ⟨(k.block _ (blk_lt h.obj) (hn _ (blk_lt h.obj) (by omega))).trans h.obj,h.seat.wrote k (hn _ (blk_lt h.seat.obj) (by omega)) (hn _ (blk_lt h.seat.ctx) (by omega)),(k.block _ (blk_lt h.tick) (hn _ (blk_lt h.tick) (by omega))).trans h.tick,h.glo.wrote k λb b1 b2=>hn b (by omega) (by omega),λd hd hdd=> ?_,h.ne,h.low,h.sep,h.nod,h.adr,h.rng⟩
 show InAt w' (L.li d) (upd pl c pc d) (upd f.Lc c x d)
 by_cases e:d=c
 ·subst e;rw [upd_same,upd_same];exact hx
 rw [upd_other _ _ e,upd_other _ _ e]
 have i:=h.loc d hd hdd
 have il:=i.le
 have s:=h.sep.2 c d hc hd hh hdd (λq=>e q.symm)
 exact i.wrote k λb b1 b2 e=>by
  rcases hS b (by omega) e with q|q
  ·unfold Rng at q;omega
  ·have:=q.1 d hd hdd;omega
theorem place (h:FlRaw w L pv pg pl f nx) (q:Place) (hs:List Int):FlRaw w {L with q:=q,hs:=hs} pv pg pl f nx:=⟨h.obj,h.seat,h.tick,h.glo,h.loc,h.ne,h.low,h.sep,h.nod,h.adr,h.rng⟩
end FlRaw
structure LkM (w:World) (L:Lp) (f:FL) (nx:Nat→Value):Prop where
 raw:FlRaw w L (.pointer (some ⟨L.q.p,0,none⟩)) (.pointer (some ⟨L.q.p,0,none⟩)) (λ_=> .pointer (some ⟨L.q.p,0,none⟩)) f nx
 port:PortAt w L.q L.hs f.ps
 far:L.gi.hi≤L.q.k0∧∀ c,c<8→L.has c=true→(L.li c).hi≤L.q.k0
 top:L.q.k3≤w.heap.size
def LF (L:Lp) (k:Nat):Prop:=Rng L.lo L.q.k3 k
namespace LkM
variable {w w':World} {L:Lp} {f:FL} {nx nx':Nat→Value}
theorem k0 (h:LkM w L f nx):L.lo<L.q.k0∧L.q.k0≤L.q.k3:=by
 have:=h.raw.low
 have:=h.raw.glr
 have:=h.far.1
 have:=h.port.place.le
 exact ⟨by omega,by omega⟩
theorem wrote {S:Nat→Prop} (h:LkM w L f nx) (k:Wr S w w') (h5:∀ b,b<L.q.k3→¬ S b):LkM w' L f nx:=by
 have hf:=h.far
 have hl:=h.k0
 have hr:=h.raw
 have lw:=hr.low
 have g:=hr.glr
 have n:∀ b,b<L.q.k3→¬ S b:=h5
 refine ⟨⟨(k.block _ (blk_lt hr.obj) (n _ (by omega))).trans hr.obj,hr.seat.wrote k (n _ (by omega)) (n _ (by omega)),(k.block _ (blk_lt hr.tick) (n _ (by omega))).trans hr.tick,hr.glo.wrote k λb b1 b2=>n b (by omega),λc hc hh=> ?_,hr.ne,hr.low,hr.sep,hr.nod,hr.adr,hr.rng⟩,h.port.wrote k (λb _ b2=>n b b2),h.far,Nat.le_trans h.top k.size⟩
 have:=hf.2 c hc hh
 exact (hr.loc c hc hh).wrote k λb b1 b2=>n b (by omega)
theorem after (h:LkM w L f nx) (k:Wr Nil w w'):LkM w' L f nx:=h.wrote k λ_ _=>id
end LkM
theorem set4 {Y:World} {B:Nat} {t:TypeId} {cs:Array Value} (h:Y.heap[B]? =some (.cells cs t (0,0))) (h4:cs.size=4) (x0 x1 x2 x3:Value):
  ((((Y.setCell ⟨B,0,none⟩ x0).setCell ⟨B,1,none⟩ x1).setCell ⟨B,2,none⟩ x2).setCell ⟨B,3,none⟩ x3).heap[B]? =some (.cells #[x0,x1,x2,x3] t (0,0)):=by
 rw [blk_setCell (blk_setCell (blk_setCell (blk_setCell h 0 x0) 1 x1) 2 x2) 3 x3]
 obtain ⟨l⟩:=cs
 match l,h4 with
 |[a,b,c,d],_=>rfl
open Go.RowKit Go.BigFrame
def RowQ (w:World) (v:Value) (xs:List Value):Prop:=
 (v= .slice none 0 0∧xs=[])∨∃ g off cap cur,v= .slice (some ⟨g,off,none⟩) xs.length cap∧w.heap[g]? =some (.cells cur 3 (0,0))∧xs.length≤cap∧off+cap≤cur.size∧∀ j u,xs[j]? =some u→cur[off+j]? =some u
namespace RowQ
variable {w w':World} {v:Value} {xs:List Value}
theorem lt (h:RowQ w v xs):∀ k,v.ownBlock=some k→k<w.heap.size:=by
 rcases h with ⟨rfl,_⟩|⟨g,off,cap,cur,rfl,hg,_⟩
 ·intro k hk;cases hk
 ·intro k hk
  have e:g=k:=by simpa [Value.ownBlock] using hk
  subst e
  exact blk_lt hg
theorem keep (h:RowQ w v xs) (hk:∀ k,v.ownBlock=some k→w'.heap[k]? =w.heap[k]?):RowQ w' v xs:=by
 rcases h with h|⟨g,off,cap,cur,rfl,hg,h2,h3,h4⟩
 ·exact .inl h
 ·exact .inr ⟨g,off,cap,cur,rfl,(hk g rfl).trans hg,h2,h3,h4⟩
theorem wrote {S:Nat→Prop} (h:RowQ w v xs) (k:Wr S w w') (hS:∀ j,v.ownBlock=some j→¬ S j):RowQ w' v xs:=h.keep λj hj=>k.block j (h.lt j hj) (hS j hj)
theorem nil (w:World):RowQ w (.slice none 0 0) []:= .inl ⟨rfl,rfl⟩
theorem form (h:RowQ w v xs):∃ sa cap,v= .slice sa xs.length cap:=by
 rcases h with ⟨rfl,rfl⟩|⟨g,off,cap,cur,rfl,_⟩
 ·exact ⟨none,0,rfl⟩
 ·exact ⟨_,cap,rfl⟩
theorem ofOwn {base n:Nat} (h:w.ownsRow base 3 1 v n xs):RowQ w v xs:=by
 obtain ⟨hl,h⟩:=h
 rw [Nat.mul_one] at hl
 subst hl
 rcases h with ⟨rfl,e⟩|⟨g,cap,cur,rfl,_,hg,h2,_,h3,h4⟩
 ·exact .inl ⟨rfl,List.eq_nil_of_length_eq_zero e⟩
 ·refine .inr ⟨g,0,cap,cur,rfl,hg,h2,by omega,λj u hj=> ?_⟩
  rw [Nat.mul_one] at h4
  rw [←h4,List.getElem?_take] at hj
  split at hj
  ·rw [Nat.zero_add];simpa using hj
  ·cases hj
end RowQ
def PushQ (w w':World) (v v':Value) (xs:List Value) (x:Value):Prop:=RowQ w' v' (xs++[x])∧Wr (λj=>v.ownBlock=some j) w w'∧(v'.ownBlock=v.ownBlock∨∀ k,v'.ownBlock=some k→w.heap.size≤k)
theorem run_push {w:World} {v:Value} {xs:List Value} (h:RowQ w v xs) (ty:TypeId) (ad:Addr) (x:Value) (hx:w.cell? ad=some x) (h1:x.oneCell'=true) (hl:xs.length≤1000000):
  ∃ v' w',(Builtin.append_ #[22,22] ty #[v,.slice (some ad) 1 1]).run prog w= .ok v' w'∧PushQ w w' v v' xs x:=by
 obtain ⟨i0,hi,hz0,hz1,hz2⟩:=info_parts info_int
 have hnews:∀ (j:Nat) (u:Value),[x][j]? =some u→w.cell? (ad.add j)=some u:=λj u hj=>by
  match j,hj with
  |0,hj=>
   have e:x=u:=by simpa using hj
   rw [←e]
   simpa [Addr.add] using hx
 have hone:∀ u∈[x],u.oneCell'=true:=λu hu=>by rw [List.mem_singleton.1 hu];exact h1
 rcases h with ⟨rfl,rfl⟩|⟨g,off,cap,cur,rfl,hg,h2,h3,h4⟩
 ·obtain ⟨v',w',hr,ho,hgr,_⟩:=run_append_own (P:=prog) w w.heap.size 22 ty 3 i0 (.int .i64 0) 1 8 underlying22 hi hz0 hz1 hz2 rfl (by decide) (.slice none 0 0) 0 [] (World.ownsRow_nil w _ _ _) ad 1 1 [x] rfl hnews hone (by unfold maxLen;omega) (by omega) (Nat.le_refl _)
  exact ⟨v',w',hr,RowQ.ofOwn ho,(Wr.refl _ w).grown hgr λk hk _=>hk,.inr λk hk=>(ho.lt k hk).1⟩
 ·by_cases hroom:xs.length+1≤cap
  ·have hb:=blk_cell hg (off+xs.length)
   have hlt:off+xs.length<cur.size:=by omega
   have hr:=run_append_room_cells (P:=prog) w 22 ty 3 i0 underlying22 hi g off xs.length cap ad 1 1 [x] (by rw [hz1];rfl) hnews hone hroom
    (λj hj=>by
      have e:j=0:=by simpa using hj
      subst e
      rw [hz1,Nat.mul_one,Nat.add_zero,hb,Array.getElem?_eq_getElem hlt];rfl)
    (λj hj=>blk_frozen hg _)
   rw [hz1,Nat.mul_one] at hr
   have hW:Wr (λj=>(Value.slice (some ⟨g,off,none⟩) xs.length cap).ownBlock=some j) w (w.setCells g (off+xs.length) [x]):=(Wr.refl _ w).setCell ⟨g,off+xs.length,none⟩ x λ_=>rfl
   refine ⟨_,_,hr,.inr ⟨g,off,cap,cur.setIfInBounds (off+xs.length) x,by rw [List.length_append,List.length_singleton],blk_setCell hg _ _,by rw [List.length_append,List.length_singleton];exact hroom,by rw [Array.size_setIfInBounds];exact h3,λj u hj=> ?_⟩,hW,.inl rfl⟩
   by_cases hjn:j<xs.length
   ·rw [List.getElem?_append_left hjn] at hj
    rw [Array.getElem?_setIfInBounds_ne (by omega)]
    exact h4 j u hj
   ·have e:j=xs.length:=by
     have:=(List.getElem?_eq_some_iff.1 hj).1
     rw [List.length_append,List.length_singleton] at this
     omega
    subst e
    rw [List.getElem?_append_right (Nat.le_refl _),Nat.sub_self] at hj
    have e:x=u:=by simpa using hj
    subst e
    rw [Array.getElem?_setIfInBounds_self_of_lt hlt]
  ·obtain ⟨v',w',hr,ho,hgr⟩:=run_append_arg_grows (P:=prog) w 22 ty 3 i0 (.int .i64 0) 1 8 underlying22 hi hz0 hz1 hz2 rfl (by decide) ⟨g,off,none⟩ xs.length cap xs (by rw [Nat.mul_one]) (λj u hj=>by rw [Addr.add_lit,blk_cell hg];exact h4 j u hj) ad 1 1 [x] rfl hnews (by omega) (by unfold maxLen;omega) (by omega)
   exact ⟨v',w',hr,RowQ.ofOwn ho,(Wr.refl _ w).grown hgr λk hk _=>(by cases hk),.inr λk hk=>(ho.lt k hk).1⟩
theorem wp_push {w:World} {o:Oper} {a:Act} {K:Act→World→Prop} {Q:Exit→Act→World→Prop} (s y:Operand) (ho:o.op= .call {callee:= .builtin .append,args:= #[s,y],argTypes:= #[22,22]})
  {v:Value} {xs:List Value} (hs:a.eval s=v) (h:RowQ w v xs) (ad:Addr) (x:Value) (hy:a.eval y= .slice (some ad) 1 1) (hx:w.cell? ad=some x) (h1:x.oneCell'=true) (hl:xs.length≤1000000)
  (hK:∀ v' w',PushQ w w' v v' xs x→K (a.put o.dst v') w'):o.wp prog a w K Q:=by
 obtain ⟨v',w',hr,hp⟩:=run_push h o.type ad x hx h1 hl
 unfold Oper.wp execOp
 simp only [ho,resolve,invoke,builtin,Sem.run_bind,Sem.run_pure,Result.andThen_ok,List.map_toArray,List.map_cons,List.map_nil,hs,hy,hr]
 exact hK v' w' hp
theorem wpList_push {w:World} {ops:Array Oper} {rest:List Oper} {o:Oper} {a:Act} {Q:Exit→Act→World→Prop} (hgd:o.guard=none) (s y:Operand) (ho:o.op= .call {callee:= .builtin .append,args:= #[s,y],argTypes:= #[22,22]})
  {v:Value} {xs:List Value} (hs:a.eval s=v) (h:RowQ w v xs) (ad:Addr) (x:Value) (hy:a.eval y= .slice (some ad) 1 1) (hx:w.cell? ad=some x) (h1:x.oneCell'=true) (hl:xs.length≤1000000)
  (hK:∀ v' w',PushQ w w' v v' xs x→wpList prog ops Q rest (a.put o.dst v') w'):wpList prog ops Q (o::rest) a w:=
 wpList_plain hgd λ_ hK'=>wp_push s y ho hs h ad x hy hx h1 hl λv' w' hp=>hK' _ _ (hK v' w' hp)
theorem step_push {w:World} {ops:Array Oper} {o:Oper} {a:Act} {K:Act→World→Prop} {Q:Exit→Act→World→Prop} {E:Prop} (hgd:o.guard=none) (s y:Operand) (ho:o.op= .call {callee:= .builtin .append,args:= #[s,y],argTypes:= #[22,22]})
  {v:Value} {xs:List Value} (hs:a.eval s=v) (h:RowQ w v xs) (ad:Addr) (x:Value) (hy:a.eval y= .slice (some ad) 1 1) (hx:w.cell? ad=some x) (h1:x.oneCell'=true) (hl:xs.length≤1000000)
  (hK:∀ v' w',PushQ w w' v v' xs x→K (a.put o.dst v') w'):if Region.wanted o (yielded ops a.tmps)=true then Oper.wp prog o a w K Q else E:=by
 have hw:Region.wanted o (yielded ops a.tmps)=true:=by simp [Region.wanted,hgd]
 rw [if_pos hw]
 exact wp_push s y ho hs h ad x hy hx h1 hl hK
def natV (k:Nat):Value:= .int .i64 (k:Int)
def arr8 (vq:Nat→Value):Array Value:=((List.range 8).map vq).toArray
theorem arr8_at (vq:Nat→Value) {c:Nat} (hc:c<8):(arr8 vq)[c]? =some (vq c):=by
 unfold arr8
 rw [List.getElem?_toArray,List.getElem?_map,List.getElem?_range hc]
 rfl
theorem arr8_set (vq:Nat→Value) (c:Nat) (v:Value):(arr8 vq).setIfInBounds c v=arr8 (upd vq c v):=by
 unfold arr8
 rw [List.setIfInBounds_toArray]
 congr 1
 apply List.ext_getElem?
 intro j
 rw [List.getElem?_set,List.getElem?_map,List.getElem?_map,List.length_map,List.length_range]
 by_cases hj:j<8
 ·rw [List.getElem?_range hj]
  by_cases e:c=j
  ·subst e;simp [upd_same,hj]
  ·simp [e,upd_other _ _ (Ne.symm e)]
 ·rw [List.getElem?_eq_none (by simp;omega)]
  simp
  omega
structure R8 (w:World) (base Qb:Nat) (vq:Nat→Value) (q:Nat→List Nat):Prop where
 arr:w.heap[Qb]? =some (.cells (arr8 vq) 254 (0,0))
 row:∀ c,c<8→RowQ w (vq c) ((q c).map natV)
 lo:base≤Qb
 low:∀ c,c<8→∀ j,(vq c).ownBlock=some j→base≤j∧j≠Qb
 far:∀ c d,c<8→d<8→c≠d→∀ j,(vq c).ownBlock=some j→(vq d).ownBlock≠some j
namespace R8
variable {w w':World} {base Qb:Nat} {vq:Nat→Value} {q:Nat→List Nat}
theorem wrote {S:Nat→Prop} (h:R8 w base Qb vq q) (k:Wr S w w') (hS:∀ b,base≤b→¬ S b):R8 w' base Qb vq q:=
 ⟨(k.block _ (blk_lt h.arr) (hS _ h.lo)).trans h.arr,λc hc=>(h.row c hc).wrote k λj hj=>hS j (h.low c hc j hj).1,h.lo,h.low,h.far⟩
theorem after (h:R8 w base Qb vq q) (k:Wr Nil w w'):R8 w' base Qb vq q:=h.wrote k λ_ _=>id
theorem beside (h:R8 w base Qb vq q) {H:Nat} (k:Wr (One H) w w') (hQ:H≠Qb) (hr:∀ c,c<8→(vq c).ownBlock≠some H):R8 w' base Qb vq q:=
 ⟨(k.block _ (blk_lt h.arr) λe=>by unfold One at e;omega).trans h.arr,λc hc=>(h.row c hc).wrote k λj hj e=>by unfold One at e;subst e;exact hr c hc hj,h.lo,h.low,h.far⟩
theorem cell (h:R8 w base Qb vq q) {c:Nat} (hc:c<8):w.cell? ⟨Qb,c,none⟩=some (vq c):=(blk_cell h.arr c).trans (arr8_at vq hc)
theorem push (h:R8 w base Qb vq q) (hb:base≤w.heap.size) {c:Nat} (hc:c<8) {k:Nat} {v':Value} (hp:PushQ w w' (vq c) v' ((q c).map natV) (natV k)) {q':Nat→List Nat} (hq:q' c=q c++[k]) (hq2:∀ d,d≠c→q' d=q d):
  R8 (w'.setCell ⟨Qb,c,none⟩ v') base Qb (upd vq c v') q'∧Wr (λj=>base≤j) w (w'.setCell ⟨Qb,c,none⟩ v'):=by
 obtain ⟨h1,h2,h3⟩:=hp
 have lsz:=blk_lt h.arr
 have harr:w'.heap[Qb]? =some (.cells (arr8 vq) 254 (0,0)):=(h2.block _ lsz λe=>(h.low c hc Qb e).2 rfl).trans h.arr
 have k2:Wr (One Qb) w' (w'.setCell ⟨Qb,c,none⟩ v'):=(Wr.refl _ _).setCell _ _ λ_=>rfl
 have hl:∀ j,v'.ownBlock=some j→base≤j∧j≠Qb:=λj hj=>by
  rcases h3 with e|e
  ·exact h.low c hc j (e▸hj)
  ·have:=e j hj
   omega
 have hf:∀ d,d<8→d≠c→∀ j,v'.ownBlock=some j→(vq d).ownBlock≠some j:=λd hd hdc j hj=>by
  rcases h3 with e|e
  ·exact h.far c d hc hd (Ne.symm hdc) j (e▸hj)
  ·intro q2
   have:=(h.row d hd).lt j q2
   have:=e j hj
   omega
 refine ⟨⟨?_,λd hd=> ?_,h.lo,λd hd j hj=> ?_,λd e hd he hde j hj=> ?_⟩,?_⟩
 ·rw [blk_setCell harr,arr8_set]
 ·by_cases e:d=c
  ·subst e
   rw [upd_same,hq,List.map_append]
   exact h1.wrote k2 λj hj e=>by unfold One at e;exact (hl j hj).2 e
  ·rw [upd_other _ _ e,hq2 d e]
   exact ((h.row d hd).wrote h2 λj hj e2=>h.far d c hd hc e j hj e2).wrote k2 λj hj e=>by unfold One at e;exact (h.low d hd j hj).2 e
 ·by_cases e:d=c
  ·subst e;rw [upd_same] at hj;exact hl j hj
  ·rw [upd_other _ _ e] at hj;exact h.low d hd j hj
 ·by_cases e1:d=c
  ·subst e1
   rw [upd_same] at hj
   rw [upd_other _ _ (Ne.symm hde)]
   exact hf e he (Ne.symm hde) j hj
  ·rw [upd_other _ _ e1] at hj
   by_cases e2:e=c
   ·subst e2
    rw [upd_same]
    intro q2
    exact hf d hd e1 j q2 hj
   ·rw [upd_other _ _ e2]
    exact h.far d e hd he hde j hj
 ·exact (h2.mono λj _ e=>(h.low c hc j e).1).trans k2 λj _ e=>by unfold One at e;subst e;exact h.lo
theorem start {w X:World} {base Qb:Nat} (h:X.heap[Qb]? =some (.cells (arr8 λ_=> .slice none 0 0) 254 (0,0))) (hb:base≤Qb):R8 X base Qb (λ_=> .slice none 0 0) (λ_=>[]):=
 ⟨h,λc hc=>RowQ.nil _,hb,λc hc j hj=>(by cases hj),λc d hc hd e j hj=>(by cases hj)⟩
end R8
end Go.Proofs.YtcikfcplagelaaaGreat
