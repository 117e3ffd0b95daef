
import Derived.Test.YtcikfcplagelaaaGreatBuVia
import Derived.Test.YtcikfcplagelaaaGreatPack
import Derived.Deep.RegionHeld3
namespace Go.Proofs.YtcikfcplagelaaaGreat.Kh
open _root_.Go.Proofs.Tryz
open Go.RowKit
set_option linter.unusedVariables false
set_option maxRecDepth 100000
def _root_.Go.Proofs.YtcikfcplagelaaaGreat.SS.NpH (s:SS):Prop:=s.probed=false∧∀ k,s.st k≠4
def _root_.Go.Proofs.YtcikfcplagelaaaGreat.SS.KeH (s s':SS):Prop:=s'.n=s.n∧(s.NpH→s'.NpH∧∀ k,s'.st k=s.st k∨(s.st k=0∧s'.st k=1)∨(s.st k=2∧s'.st k=3))
theorem _root_.Go.Proofs.YtcikfcplagelaaaGreat.SS.set_npH {s:SS} (h:s.NpH) (k:Nat) (x d:Int) (hx:x≠4):(s.set k x d).NpH:=by
 refine ⟨h.1,λj=> ?_⟩
 show upd s.st k x j≠4
 by_cases e:j=k
 ·subst e;rw [upd_same];exact hx
 ·rw [upd_other _ _ e];exact h.2 j
theorem _root_.Go.Proofs.YtcikfcplagelaaaGreat.SS.set_stH (s:SS) (k:Nat) (x d:Int):(s.set k x d).st=upd s.st k x:=rfl
theorem _root_.Go.Proofs.YtcikfcplagelaaaGreat.SS.lock_kH (s:SS) (t d:Int):s.KeH (s.lock t d):=by
 refine ⟨s.lock_n t d,λh=> ?_⟩
 unfold SS.lock
 split
 ·rename_i hE
  unfold lockE at hE
  split at hE
  ·rename_i hq
   split at hE
   ·rename_i h0
    refine ⟨SS.set_npH h _ _ _ (by decide),λj=> ?_⟩
    rw [SS.set_stH]
    by_cases e:j=t.toNat
    ·subst e;rw [upd_same];exact .inr (.inl ⟨h0,rfl⟩)
    ·rw [upd_other _ _ e];exact .inl rfl
   ·exact absurd hE (by decide)
  ·exact absurd hE (by decide)
 ·exact ⟨h,λ_=> .inl rfl⟩
theorem _root_.Go.Proofs.YtcikfcplagelaaaGreat.SS.turn_kH (s:SS) (t x:Int) (hx:x=3):s.KeH (s.turn t x):=by
 subst hx
 refine ⟨s.turn_n t 3,λh=> ?_⟩
 unfold SS.turn
 split
 ·rename_i hE
  unfold turnE at hE
  split at hE
  ·split at hE
   ·exact absurd hE (by decide)
   ·split at hE
    ·rename_i h2
     refine ⟨SS.set_npH h _ _ _ (by decide),λj=> ?_⟩
     rw [SS.set_stH]
     by_cases e:j=t.toNat
     ·subst e;rw [upd_same];exact .inr (.inr ⟨h2,rfl⟩)
     ·rw [upd_other _ _ e];exact .inl rfl
    ·exact absurd hE (by decide)
  ·exact absurd hE (by decide)
 ·exact ⟨h,λ_=> .inl rfl⟩
theorem _root_.Go.Proofs.YtcikfcplagelaaaGreat.SS.fin_npH {s:SS} (h:s.NpH) (t ev:Int):(s.fin t ev).NpH:=by
 unfold SS.fin
 split
 ·rename_i y e
  refine SS.set_npH h _ _ _ ?_
  unfold endO behindI at e
  repeat' split at e
  all_goals first|(cases e;decide)|cases e
 ·exact h
def finS (x ev:Int):Int:=(behindI x ev).getD x
theorem _root_.Go.Proofs.YtcikfcplagelaaaGreat.SS.fin_stH (s:SS) (k:Nat) (hk:k<s.n) (ev:Int):(s.fin k ev).st=upd s.st k (finS (s.st k) ev):=by
 unfold SS.fin endO finS
 rw [if_pos (show 0≤(k:Int)∧(k:Int)<s.n by omega),Int.toNat_natCast]
 cases behindI (s.st k) ev with
 |some y=>rfl
 |none=>
  funext j
  by_cases e:j=k
  ·subst e;rw [upd_same];rfl
  ·rw [upd_other _ _ e]
theorem _root_.Go.Proofs.YtcikfcplagelaaaGreat.SS.fin_st0H (s:SS) (t:Int):(s.fin t 0).st=s.st:=by
 unfold SS.fin endO
 by_cases h:0≤t∧t<s.n
 ·rw [if_pos h]
  have:behindI (s.st t.toNat) 0=none:=by
   unfold behindI
   repeat' split
   all_goals first|rfl|(exfalso;omega)
  rw [this]
 ·rw [if_neg h]
structure Pc where
 cl:Int
 nd:Int
 ah:Int
 st:Int
 la:Int
 wa:Int
def Pc.cells (p:Pc):List Value:=[.int .i64 p.cl,.int .u32 p.nd,.int .u32 p.ah,.int .i64 p.st,.int .u32 p.la,.int .u32 p.wa]
def tkC (G:Nat→Pc) (t:Nat):List Value:=(G t).cells
theorem tkC_len (G:Nat→Pc):∀ x,(tkC G x).length=6:=λ_=>rfl
def tks (n:Nat) (G:Nat→Pc):List Value:=(List.range n).flatMap (tkC G)
theorem tks_at (n:Nat) (G:Nat→Pc) {k:Nat} (hk:k<n) {j:Nat} (hj:j<6):(tks n G)[k*6+j]? =(G k).cells[j]? :=flat_at' (tkC_len G) _ (by rw [List.getElem?_range hk]) hj
theorem range_at {n i t:Nat} (ht:(List.range n)[i]? =some t):i<n∧t=i:=by
 have hi:i<n:=by have:=(List.getElem?_eq_some_iff.1 ht).1;simpa using this
 rw [List.getElem?_range hi] at ht
 exact ⟨hi,by simpa using ht.symm⟩
theorem tks_set (n:Nat) (G:Nat→Pc) (k j:Nat) (v:Value) (p:Pc) (hj:j<6) (hp:p.cells=(G k).cells.set j v):(tks n G).set (k*6+j) v=tks n (upd G k p):=by
 refine flat_set (tkC_len G) (tkC_len _) _ k j hj _ λi t ht l hl=> ?_
 obtain ⟨_,rfl⟩:=range_at ht
 unfold tkC
 by_cases e:t=k
 ·subst e
  rw [upd_same,hp,List.getElem?_set]
  have hlen:(G t).cells.length=6:=rfl
  by_cases el:l=j
  ·subst el;simp [hlen,hj]
  ·simp [el,Ne.symm el]
 ·simp [upd_other _ _ e,e]
theorem upd_sf {α:Type} (f:Nat→α) (k j:Nat):f j=upd f k (f k) j:=by
 by_cases e:j=k
 ·subst e;rw [upd_same]
 ·rw [upd_other _ _ e]
theorem upd_id {α:Type} (g:Nat→α) (k:Nat) {x:α} (h:x=g k):upd g k x=g:=by subst h;exact funext λj=>(upd_sf g k j).symm
theorem upd_upd {α:Type} (g:Nat→α) (k:Nat) (x y:α):upd (upd g k x) k y=upd g k y:=by
 funext j
 by_cases e:j=k
 ·subst e;rw [upd_same,upd_same]
 ·rw [upd_other _ _ e,upd_other _ _ e,upd_other _ _ e]
structure Ab where
 cl:Int
 pc:Int
 nd:Int
 ahd:Int
 of:Int
 wv:Int
def FL.ab (f:FL) (k:Nat):Ab:=⟨f.cl k,f.pc k,f.nd k,f.ahd k,f.of k,f.wv k⟩
def FL.put (f:FL) (k:Nat) (a:Ab):FL:={f with cl:=upd f.cl k a.cl,pc:=upd f.pc k a.pc,nd:=upd f.nd k a.nd,ahd:=upd f.ahd k a.ahd,of:=upd f.of k a.of,wv:=upd f.wv k a.wv}
theorem FL.ab_put (f:FL) (k:Nat) (a:Ab):(f.put k a).ab=upd f.ab k a:=by
 funext j
 unfold FL.ab FL.put
 by_cases e:j=k
 ·subst e;simp only [upd_same]
 ·simp only [upd_other _ _ e]
structure PlI (x:Int) (a:Ab) (p:Pc):Prop where
 cl:p.cl=a.cl∧0≤a.cl∧a.cl≤7
 nd:p.nd=a.nd∧0≤a.nd∧a.nd<4294967296
 st:p.st=a.pc∧0≤a.pc∧a.pc≤7
 ahr:0≤a.ahd∧a.ahd<4294967296
 ofr:0≤a.of∧a.of<4294967296
 wvr:0≤a.wv∧a.wv<4294967296
 ah1:x=1→2≤a.pc→p.ah=a.ahd
 ah2:x=2∨x=3→p.ah=a.ahd
 la1:x=1→4≤a.pc→p.la=a.of
 wa1:x=1→a.pc=6→p.wa=a.wv
 wa3:x=3→a.pc=1→p.wa=a.wv
 idle:x≠1→x≠3→a.pc=0
 rel:x=3→a.pc≤1
 pa:0≤p.ah∧p.ah<4294967296
 pl:0≤p.la∧p.la<4294967296
 pw:0≤p.wa∧p.wa<4294967296
theorem PlI.turn {x y:Int} {a:Ab} {p:Pc} (h:PlI x a p) (hy:y=x∨(x=0∧y=1)∨(x=2∧y=3)):PlI y a p:=by
 rcases hy with rfl|⟨rfl,rfl⟩|⟨rfl,rfl⟩
 ·exact h
 ·have e:=h.idle (by decide) (by decide)
  exact ⟨h.cl,h.nd,h.st,h.ahr,h.ofr,h.wvr,λ_ q=>by omega,λq=>by omega,λ_ q=>by omega,λ_ q=>by omega,λq=>by omega,λq=>by omega,λq=>by omega,h.pa,h.pl,h.pw⟩
 ·have e:=h.idle (by decide) (by decide)
  exact ⟨h.cl,h.nd,h.st,h.ahr,h.ofr,h.wvr,λq=>by omega,λ_=>h.ah2 (.inl rfl),λq=>by omega,λq=>by omega,λ_ q=>by omega,λ_ q=>by omega,λ_=>by omega,h.pa,h.pl,h.pw⟩
structure FlRaw (w:World) (L:Lp) (pv:Value) (s:SS) (σ:Nat→Int) (A:Nat→Ab):Prop where
 obj:w.heap[L.lb]? =some (.cells #[.pointer (some ⟨L.p,0,none⟩),pv,.int .i64 L.a1,.slice (some ⟨L.tb,0,none⟩) s.n s.n] 209 (0,0))
 seat:SeatAt w L.p L.b s
 tick:∃ G:Nat→Pc,w.heap[L.tb]? =some (.cells (tks s.n G).toArray 251 (0,0))∧∀ k,k<s.n→PlI (σ k) (A k) (G k)
 np:s.NpH
 ne:L.lb≠L.b∧L.lb≠L.tb∧L.p≠L.tb∧L.b≠L.tb∧L.lb≠L.p
 adr:0≤L.a1∧L.a1≤2000000∧L.a2=L.a1+1
namespace FlRaw
variable {w w':World} {L:Lp} {pv:Value} {s:SS} {σ:Nat→Int} {A:Nat→Ab}
theorem wrote {S:Nat→Prop} (h:FlRaw w L pv s σ A) (k:Wr S w w') (h1:¬ S L.lb) (h2:¬ S L.p) (h3:¬ S L.b) (h4:¬ S L.tb):FlRaw w' L pv s σ A:=by
 obtain ⟨G,g1,g2⟩:=h.tick
 exact ⟨(k.block _ (blk_lt h.obj) h1).trans h.obj,h.seat.wrote k h2 h3,⟨G,(k.block _ (blk_lt g1) h4).trans g1,g2⟩,h.np,h.ne,h.adr⟩
theorem after (h:FlRaw w L pv s σ A) (k:Wr Nil w w'):FlRaw w' L pv s σ A:=h.wrote k id id id id
theorem lto (h:FlRaw w L pv s σ A):L.lb<w.heap.size:=blk_lt h.obj
theorem ltt (h:FlRaw w L pv s σ A):L.tb<w.heap.size:=by obtain ⟨G,g1,_⟩:=h.tick;exact blk_lt g1
theorem seats0 {s':SS} (h:FlRaw w L pv s σ A) (hS:SeatAt w' L.p L.b s') (hn:s'.n=s.n) (hp:s'.NpH) (k:Wr (One L.b) w w'):FlRaw w' L pv s' σ A:=by
 obtain ⟨G,g1,g2⟩:=h.tick
 refine ⟨?_,hS,⟨G,?_,λk hk=>g2 k (by omega)⟩,hp,h.ne,h.adr⟩
 ·rw [hn];exact (k.block _ (blk_lt h.obj) h.ne.1).trans h.obj
 ·rw [hn];exact (k.block _ (blk_lt g1) (λe=>h.ne.2.2.2.1 e.symm)).trans g1
theorem cell0 (h:FlRaw w L pv s σ A):w.cell? ⟨L.lb,0,none⟩=some (.pointer (some ⟨L.p,0,none⟩)):=by rw [blk_cell h.obj];rfl
theorem cell1 (h:FlRaw w L pv s σ A):w.cell? ⟨L.lb,1,none⟩=some pv:=by rw [blk_cell h.obj];rfl
theorem cell2 (h:FlRaw w L pv s σ A):w.cell? ⟨L.lb,2,none⟩=some (.int .i64 L.a1):=by rw [blk_cell h.obj];rfl
theorem cell3 (h:FlRaw w L pv s σ A):w.cell? ⟨L.lb,3,none⟩=some (.slice (some ⟨L.tb,0,none⟩) s.n s.n):=by rw [blk_cell h.obj];rfl
theorem frozen (h:FlRaw w L pv s σ A) (k:Nat):w.frozen? ⟨L.lb,k,none⟩=false:=blk_frozen h.obj k
theorem place6 (h:FlRaw w L pv s σ A) {k:Nat} (hk:k<s.n):∃ p:Pc,PlI (σ k) (A k) p∧w.cell? ⟨L.tb,k*6,none⟩=some (.int .i64 (A k).cl)∧w.cell? ⟨L.tb,k*6+1,none⟩=some (.int .u32 (A k).nd)∧
  w.cell? ⟨L.tb,k*6+2,none⟩=some (.int .u32 p.ah)∧w.cell? ⟨L.tb,k*6+3,none⟩=some (.int .i64 (A k).pc)∧w.cell? ⟨L.tb,k*6+4,none⟩=some (.int .u32 p.la)∧w.cell? ⟨L.tb,k*6+5,none⟩=some (.int .u32 p.wa):=by
 obtain ⟨G,g1,g2⟩:=h.tick
 have g2:=g2 k hk
 refine ⟨G k,g2,?_,?_,?_,?_,?_,?_⟩
 ·rw [blk_cell g1,List.getElem?_toArray,←g2.cl.1];exact tks_at s.n G hk (j:=0) (by decide)
 ·rw [blk_cell g1,List.getElem?_toArray,←g2.nd.1];exact tks_at s.n G hk (j:=1) (by decide)
 ·rw [blk_cell g1,List.getElem?_toArray];exact tks_at s.n G hk (j:=2) (by decide)
 ·rw [blk_cell g1,List.getElem?_toArray,←g2.st.1];exact tks_at s.n G hk (j:=3) (by decide)
 ·rw [blk_cell g1,List.getElem?_toArray];exact tks_at s.n G hk (j:=4) (by decide)
 ·rw [blk_cell g1,List.getElem?_toArray];exact tks_at s.n G hk (j:=5) (by decide)
theorem tkz (h:FlRaw w L pv s σ A) (k:Nat):w.frozen? ⟨L.tb,k,none⟩=false:=by obtain ⟨G,g1,_⟩:=h.tick;exact blk_frozen g1 k
theorem pli (h:FlRaw w L pv s σ A) {k:Nat} (hk:k<s.n):∃ p:Pc,PlI (σ k) (A k) p:=by obtain ⟨G,g1,g2⟩:=h.tick;exact ⟨G k,g2 k hk⟩
theorem put0 (h:FlRaw w L pv s σ A) {G:Nat→Pc} (hG:w'.heap[L.tb]? =some (.cells (tks s.n G).toArray 251 (0,0))) (hW:Wr (One L.tb) w w')
  {σ':Nat→Int} {A':Nat→Ab} (hI:∀ j,j<s.n→PlI (σ' j) (A' j) (G j)):FlRaw w' L pv s σ' A':=
 ⟨(hW.block _ (blk_lt h.obj) h.ne.2.1).trans h.obj,h.seat.wrote hW h.ne.2.2.1 h.ne.2.2.2.1,⟨G,hG,hI⟩,h.np,h.ne,h.adr⟩
theorem pli_upd {n:Nat} {G:Nat→Pc} (hI:∀ j,j<n→PlI (σ j) (A j) (G j)) (k:Nat) {v:Int} {a:Ab} {p:Pc} (hp:PlI (σ k) (A k) (G k)→PlI v a p):∀ j,j<n→PlI (upd σ k v j) (upd A k a j) (upd G k p j):=λj hj=>by
 by_cases e:j=k
 ·subst e;rw [upd_same,upd_same,upd_same];exact hp (hI j hj)
 ·rw [upd_other _ _ e,upd_other _ _ e,upd_other _ _ e];exact hI j hj
theorem set0 (h:FlRaw w L pv s σ A) (k:Nat) (v:Int) (a:Ab) (hp:∀ p,PlI (σ k) (A k) p→PlI v a p):FlRaw w L pv s (upd σ k v) (upd A k a):=by
 obtain ⟨G,g1,g2⟩:=h.tick
 exact h.put0 (G:=upd G k (G k)) (by rw [upd_id G k rfl];exact g1) (Wr.refl _ w) (pli_upd g2 k (hp _))
theorem set1 (h:FlRaw w L pv s σ A) (k:Nat) (v:Int) (a:Ab) (c:Int) (hp:∀ p,PlI (σ k) (A k) p→PlI v a {p with st:=c}):
  FlRaw (w.setCell ⟨L.tb,k*6+3,none⟩ (.int .i64 c)) L pv s (upd σ k v) (upd A k a)∧Wr (One L.tb) w (w.setCell ⟨L.tb,k*6+3,none⟩ (.int .i64 c)):=by
 obtain ⟨G,g1,g2⟩:=h.tick
 have hW:Wr (One L.tb) w (w.setCell ⟨L.tb,k*6+3,none⟩ (.int .i64 c)):=(Wr.refl (One L.tb) w).setCell ⟨L.tb,k*6+3,none⟩ (.int .i64 c) λ_=>rfl
 refine ⟨h.put0 (G:=upd G k {G k with st:=c}) ?_ hW (pli_upd g2 k (hp _)),hW⟩
 rw [blk_setCell g1 _ _,List.setIfInBounds_toArray]
 have e0:(tks s.n G).set (k*6+3) (.int .i64 c)=tks s.n (upd G k {G k with st:=c}):=tks_set s.n G k 3 _ _ (by decide) rfl
 rw [e0]
theorem setA (h:FlRaw w L pv s σ A) (k:Nat) (v:Int) (a:Ab) (b c:Int) (hp:∀ p,PlI (σ k) (A k) p→PlI v a {p with ah:=b,st:=c}):
  FlRaw ((w.setCell ⟨L.tb,k*6+2,none⟩ (.int .u32 b)).setCell ⟨L.tb,k*6+3,none⟩ (.int .i64 c)) L pv s (upd σ k v) (upd A k a)∧Wr (One L.tb) w ((w.setCell ⟨L.tb,k*6+2,none⟩ (.int .u32 b)).setCell ⟨L.tb,k*6+3,none⟩ (.int .i64 c)):=by
 obtain ⟨G,g1,g2⟩:=h.tick
 have hW:Wr (One L.tb) w ((w.setCell ⟨L.tb,k*6+2,none⟩ (.int .u32 b)).setCell ⟨L.tb,k*6+3,none⟩ (.int .i64 c)):=((Wr.refl (One L.tb) w).setCell ⟨L.tb,k*6+2,none⟩ (.int .u32 b) λ_=>rfl).setCell ⟨L.tb,k*6+3,none⟩ (.int .i64 c) λ_=>rfl
 refine ⟨h.put0 (G:=upd G k {G k with ah:=b,st:=c}) ?_ hW (pli_upd g2 k (hp _)),hW⟩
 rw [blk_setCell (blk_setCell g1 _ _) _ _,List.setIfInBounds_toArray,List.setIfInBounds_toArray]
 have e0:(tks s.n G).set (k*6+2) (.int .u32 b)=tks s.n (upd G k {G k with ah:=b}):=tks_set s.n G k 2 _ _ (by decide) rfl
 have e1:(tks s.n (upd G k {G k with ah:=b})).set (k*6+3) (.int .i64 c)=tks s.n (upd G k {G k with ah:=b,st:=c}):=by rw [tks_set s.n (upd G k {G k with ah:=b}) k 3 _ {G k with ah:=b,st:=c} (by decide) (by rw [upd_same];rfl),upd_upd]
 rw [e0,e1]
theorem setL (h:FlRaw w L pv s σ A) (k:Nat) (v:Int) (a:Ab) (b c:Int) (hp:∀ p,PlI (σ k) (A k) p→PlI v a {p with la:=b,st:=c}):
  FlRaw ((w.setCell ⟨L.tb,k*6+4,none⟩ (.int .u32 b)).setCell ⟨L.tb,k*6+3,none⟩ (.int .i64 c)) L pv s (upd σ k v) (upd A k a)∧Wr (One L.tb) w ((w.setCell ⟨L.tb,k*6+4,none⟩ (.int .u32 b)).setCell ⟨L.tb,k*6+3,none⟩ (.int .i64 c)):=by
 obtain ⟨G,g1,g2⟩:=h.tick
 have hW:Wr (One L.tb) w ((w.setCell ⟨L.tb,k*6+4,none⟩ (.int .u32 b)).setCell ⟨L.tb,k*6+3,none⟩ (.int .i64 c)):=((Wr.refl (One L.tb) w).setCell ⟨L.tb,k*6+4,none⟩ (.int .u32 b) λ_=>rfl).setCell ⟨L.tb,k*6+3,none⟩ (.int .i64 c) λ_=>rfl
 refine ⟨h.put0 (G:=upd G k {G k with la:=b,st:=c}) ?_ hW (pli_upd g2 k (hp _)),hW⟩
 rw [blk_setCell (blk_setCell g1 _ _) _ _,List.setIfInBounds_toArray,List.setIfInBounds_toArray]
 have e0:(tks s.n G).set (k*6+4) (.int .u32 b)=tks s.n (upd G k {G k with la:=b}):=tks_set s.n G k 4 _ _ (by decide) rfl
 have e1:(tks s.n (upd G k {G k with la:=b})).set (k*6+3) (.int .i64 c)=tks s.n (upd G k {G k with la:=b,st:=c}):=by rw [tks_set s.n (upd G k {G k with la:=b}) k 3 _ {G k with la:=b,st:=c} (by decide) (by rw [upd_same];rfl),upd_upd]
 rw [e0,e1]
theorem setW (h:FlRaw w L pv s σ A) (k:Nat) (v:Int) (a:Ab) (b c:Int) (hp:∀ p,PlI (σ k) (A k) p→PlI v a {p with wa:=b,st:=c}):
  FlRaw ((w.setCell ⟨L.tb,k*6+5,none⟩ (.int .u32 b)).setCell ⟨L.tb,k*6+3,none⟩ (.int .i64 c)) L pv s (upd σ k v) (upd A k a)∧Wr (One L.tb) w ((w.setCell ⟨L.tb,k*6+5,none⟩ (.int .u32 b)).setCell ⟨L.tb,k*6+3,none⟩ (.int .i64 c)):=by
 obtain ⟨G,g1,g2⟩:=h.tick
 have hW:Wr (One L.tb) w ((w.setCell ⟨L.tb,k*6+5,none⟩ (.int .u32 b)).setCell ⟨L.tb,k*6+3,none⟩ (.int .i64 c)):=((Wr.refl (One L.tb) w).setCell ⟨L.tb,k*6+5,none⟩ (.int .u32 b) λ_=>rfl).setCell ⟨L.tb,k*6+3,none⟩ (.int .i64 c) λ_=>rfl
 refine ⟨h.put0 (G:=upd G k {G k with wa:=b,st:=c}) ?_ hW (pli_upd g2 k (hp _)),hW⟩
 rw [blk_setCell (blk_setCell g1 _ _) _ _,List.setIfInBounds_toArray,List.setIfInBounds_toArray]
 have e0:(tks s.n G).set (k*6+5) (.int .u32 b)=tks s.n (upd G k {G k with wa:=b}):=tks_set s.n G k 5 _ _ (by decide) rfl
 have e1:(tks s.n (upd G k {G k with wa:=b})).set (k*6+3) (.int .i64 c)=tks s.n (upd G k {G k with wa:=b,st:=c}):=by rw [tks_set s.n (upd G k {G k with wa:=b}) k 3 _ {G k with wa:=b,st:=c} (by decide) (by rw [upd_same];rfl),upd_upd]
 rw [e0,e1]
theorem setB (h:FlRaw w L pv s σ A) (k:Nat) (v:Int) (a:Ab) (b c d:Int) (hp:∀ p,PlI (σ k) (A k) p→PlI v a {p with ah:=b,st:=d}):
  FlRaw (((w.setCell ⟨L.tb,k*6+2,none⟩ (.int .u32 b)).setCell ⟨L.tb,k*6+3,none⟩ (.int .i64 c)).setCell ⟨L.tb,k*6+3,none⟩ (.int .i64 d)) L pv s (upd σ k v) (upd A k a)∧Wr (One L.tb) w (((w.setCell ⟨L.tb,k*6+2,none⟩ (.int .u32 b)).setCell ⟨L.tb,k*6+3,none⟩ (.int .i64 c)).setCell ⟨L.tb,k*6+3,none⟩ (.int .i64 d)):=by
 obtain ⟨G,g1,g2⟩:=h.tick
 have hW:Wr (One L.tb) w (((w.setCell ⟨L.tb,k*6+2,none⟩ (.int .u32 b)).setCell ⟨L.tb,k*6+3,none⟩ (.int .i64 c)).setCell ⟨L.tb,k*6+3,none⟩ (.int .i64 d)):=(((Wr.refl (One L.tb) w).setCell ⟨L.tb,k*6+2,none⟩ (.int .u32 b) λ_=>rfl).setCell ⟨L.tb,k*6+3,none⟩ (.int .i64 c) λ_=>rfl).setCell ⟨L.tb,k*6+3,none⟩ (.int .i64 d) λ_=>rfl
 refine ⟨h.put0 (G:=upd G k {G k with ah:=b,st:=d}) ?_ hW (pli_upd g2 k (hp _)),hW⟩
 rw [blk_setCell (blk_setCell (blk_setCell g1 _ _) _ _) _ _,List.setIfInBounds_toArray,List.setIfInBounds_toArray,List.setIfInBounds_toArray]
 have e0:(tks s.n G).set (k*6+2) (.int .u32 b)=tks s.n (upd G k {G k with ah:=b}):=tks_set s.n G k 2 _ _ (by decide) rfl
 have e1:(tks s.n (upd G k {G k with ah:=b})).set (k*6+3) (.int .i64 c)=tks s.n (upd G k {G k with ah:=b,st:=c}):=by rw [tks_set s.n (upd G k {G k with ah:=b}) k 3 _ {G k with ah:=b,st:=c} (by decide) (by rw [upd_same];rfl),upd_upd]
 have e2:(tks s.n (upd G k {G k with ah:=b,st:=c})).set (k*6+3) (.int .i64 d)=tks s.n (upd G k {G k with ah:=b,st:=d}):=by rw [tks_set s.n (upd G k {G k with ah:=b,st:=c}) k 3 _ {G k with ah:=b,st:=d} (by decide) (by rw [upd_same];rfl),upd_upd]
 rw [e0,e1,e2]
theorem set6 (h:FlRaw w L pv s σ A) (k:Nat) (v:Int) (a:Ab) (c0 c1 c2 c3 c4 c5:Int) (hp:∀ p,PlI (σ k) (A k) p→PlI v a {p with cl:=c0,nd:=c1,ah:=c2,st:=c3,la:=c4,wa:=c5}):
  FlRaw ((((((w.setCell ⟨L.tb,k*6,none⟩ (.int .i64 c0)).setCell ⟨L.tb,k*6+1,none⟩ (.int .u32 c1)).setCell ⟨L.tb,k*6+2,none⟩ (.int .u32 c2)).setCell ⟨L.tb,k*6+3,none⟩ (.int .i64 c3)).setCell ⟨L.tb,k*6+4,none⟩ (.int .u32 c4)).setCell ⟨L.tb,k*6+5,none⟩ (.int .u32 c5)) L pv s (upd σ k v) (upd A k a)∧Wr (One L.tb) w ((((((w.setCell ⟨L.tb,k*6,none⟩ (.int .i64 c0)).setCell ⟨L.tb,k*6+1,none⟩ (.int .u32 c1)).setCell ⟨L.tb,k*6+2,none⟩ (.int .u32 c2)).setCell ⟨L.tb,k*6+3,none⟩ (.int .i64 c3)).setCell ⟨L.tb,k*6+4,none⟩ (.int .u32 c4)).setCell ⟨L.tb,k*6+5,none⟩ (.int .u32 c5)):=by
 obtain ⟨G,g1,g2⟩:=h.tick
 have hW:Wr (One L.tb) w ((((((w.setCell ⟨L.tb,k*6,none⟩ (.int .i64 c0)).setCell ⟨L.tb,k*6+1,none⟩ (.int .u32 c1)).setCell ⟨L.tb,k*6+2,none⟩ (.int .u32 c2)).setCell ⟨L.tb,k*6+3,none⟩ (.int .i64 c3)).setCell ⟨L.tb,k*6+4,none⟩ (.int .u32 c4)).setCell ⟨L.tb,k*6+5,none⟩ (.int .u32 c5)):=((((((Wr.refl (One L.tb) w).setCell ⟨L.tb,k*6,none⟩ (.int .i64 c0) λ_=>rfl).setCell ⟨L.tb,k*6+1,none⟩ (.int .u32 c1) λ_=>rfl).setCell ⟨L.tb,k*6+2,none⟩ (.int .u32 c2) λ_=>rfl).setCell ⟨L.tb,k*6+3,none⟩ (.int .i64 c3) λ_=>rfl).setCell ⟨L.tb,k*6+4,none⟩ (.int .u32 c4) λ_=>rfl).setCell ⟨L.tb,k*6+5,none⟩ (.int .u32 c5) λ_=>rfl
 refine ⟨h.put0 (G:=upd G k {G k with cl:=c0,nd:=c1,ah:=c2,st:=c3,la:=c4,wa:=c5}) ?_ hW (pli_upd g2 k (hp _)),hW⟩
 rw [blk_setCell (blk_setCell (blk_setCell (blk_setCell (blk_setCell (blk_setCell g1 _ _) _ _) _ _) _ _) _ _) _ _,List.setIfInBounds_toArray,List.setIfInBounds_toArray,List.setIfInBounds_toArray,List.setIfInBounds_toArray,List.setIfInBounds_toArray,List.setIfInBounds_toArray]
 have e0:(tks s.n G).set (k*6) (.int .i64 c0)=tks s.n (upd G k {G k with cl:=c0}):=tks_set s.n G k 0 _ _ (by decide) rfl
 have e1:(tks s.n (upd G k {G k with cl:=c0})).set (k*6+1) (.int .u32 c1)=tks s.n (upd G k {G k with cl:=c0,nd:=c1}):=by rw [tks_set s.n (upd G k {G k with cl:=c0}) k 1 _ {G k with cl:=c0,nd:=c1} (by decide) (by rw [upd_same];rfl),upd_upd]
 have e2:(tks s.n (upd G k {G k with cl:=c0,nd:=c1})).set (k*6+2) (.int .u32 c2)=tks s.n (upd G k {G k with cl:=c0,nd:=c1,ah:=c2}):=by rw [tks_set s.n (upd G k {G k with cl:=c0,nd:=c1}) k 2 _ {G k with cl:=c0,nd:=c1,ah:=c2} (by decide) (by rw [upd_same];rfl),upd_upd]
 have e3:(tks s.n (upd G k {G k with cl:=c0,nd:=c1,ah:=c2})).set (k*6+3) (.int .i64 c3)=tks s.n (upd G k {G k with cl:=c0,nd:=c1,ah:=c2,st:=c3}):=by rw [tks_set s.n (upd G k {G k with cl:=c0,nd:=c1,ah:=c2}) k 3 _ {G k with cl:=c0,nd:=c1,ah:=c2,st:=c3} (by decide) (by rw [upd_same];rfl),upd_upd]
 have e4:(tks s.n (upd G k {G k with cl:=c0,nd:=c1,ah:=c2,st:=c3})).set (k*6+4) (.int .u32 c4)=tks s.n (upd G k {G k with cl:=c0,nd:=c1,ah:=c2,st:=c3,la:=c4}):=by rw [tks_set s.n (upd G k {G k with cl:=c0,nd:=c1,ah:=c2,st:=c3}) k 4 _ {G k with cl:=c0,nd:=c1,ah:=c2,st:=c3,la:=c4} (by decide) (by rw [upd_same];rfl),upd_upd]
 have e5:(tks s.n (upd G k {G k with cl:=c0,nd:=c1,ah:=c2,st:=c3,la:=c4})).set (k*6+5) (.int .u32 c5)=tks s.n (upd G k {G k with cl:=c0,nd:=c1,ah:=c2,st:=c3,la:=c4,wa:=c5}):=by rw [tks_set s.n (upd G k {G k with cl:=c0,nd:=c1,ah:=c2,st:=c3,la:=c4}) k 5 _ {G k with cl:=c0,nd:=c1,ah:=c2,st:=c3,la:=c4,wa:=c5} (by decide) (by rw [upd_same];rfl),upd_upd]
 rw [e0,e1,e2,e3,e4,e5]
theorem beside (h:FlRaw w L pv s σ A) {i j:Nat} (e:i≠j) (v:Value):(w.setCell ⟨L.tb,i,none⟩ v).cell? ⟨L.tb,j,none⟩=w.cell? ⟨L.tb,j,none⟩:=by
 obtain ⟨G,g1,_⟩:=h.tick
 rw [blk_cell (blk_setCell g1 i v),blk_cell g1,Array.getElem?_setIfInBounds_ne e]
theorem far1 (h:FlRaw w L pv s σ A) (i:Nat) (v:Value):(w.setCell ⟨L.tb,i,none⟩ v).cell? ⟨L.lb,1,none⟩=some pv:=by
 have hW:Wr (One L.tb) w (w.setCell ⟨L.tb,i,none⟩ v):=(Wr.refl _ w).setCell _ _ λ_=>rfl
 rw [blk_cell ((hW.block _ (blk_lt h.obj) h.ne.2.1).trans h.obj)];rfl
theorem far2 (h:FlRaw w L pv s σ A) (i:Nat) (v:Value):(w.setCell ⟨L.tb,i,none⟩ v).cell? ⟨L.lb,2,none⟩=some (.int .i64 L.a1):=by
 have hW:Wr (One L.tb) w (w.setCell ⟨L.tb,i,none⟩ v):=(Wr.refl _ w).setCell _ _ λ_=>rfl
 rw [blk_cell ((hW.block _ (blk_lt h.obj) h.ne.2.1).trans h.obj)];rfl
theorem use (h:FlRaw w L pv s σ A) (v:Value):FlRaw (w.setCell ⟨L.lb,1,none⟩ v) L v s σ A:=by
 have hW:Wr (One L.lb) w (w.setCell ⟨L.lb,1,none⟩ v):=(Wr.refl _ w).setCell _ _ λ_=>rfl
 obtain ⟨G,g1,g2⟩:=h.tick
 refine ⟨?_,h.seat.wrote hW (λe=>h.ne.2.2.2.2 e.symm) (λe=>h.ne.1 e.symm),⟨G,(hW.block _ (blk_lt g1) (λe=>h.ne.2.1 e.symm)).trans g1,g2⟩,h.np,h.ne,h.adr⟩
 rw [blk_setCell h.obj]
 rfl
theorem place (h:FlRaw w L pv s σ A) (q:Place) (hs:List Int):FlRaw w {L with q:=q,hs:=hs} pv s σ A:=⟨h.obj,h.seat,h.tick,h.np,h.ne,h.adr⟩
end FlRaw
abbrev RawF (w:World) (L:Lp) (pv:Value) (f:FL):Prop:=FlRaw w L pv f.s f.s.st f.ab
structure LkM (w:World) (L:Lp) (f:FL) (σ:Nat→Int):Prop where
 raw:FlRaw w L (.pointer (some ⟨L.q.p,0,none⟩)) f.s σ f.ab
 port:PortAt w L.q L.hs f.ps
 far:L.lb<L.q.k0∧L.p<L.q.k0∧L.b<L.q.k0∧L.tb<L.q.k0
 top:L.q.k3≤w.heap.size
abbrev LkAt (w:World) (L:Lp) (f:FL):Prop:=LkM w L f f.s.st
def LF (L:Lp) (k:Nat):Prop:=k=L.b∨k=L.tb∨Rng L.q.k0 L.q.k3 k
namespace LkM
variable {w w':World} {L:Lp} {f:FL} {σ:Nat→Int}
theorem wrote {S:Nat→Prop} (h:LkM w L f σ) (k:Wr S w w') (h5:∀ b,b<L.q.k3→¬ S b):LkM w' L f σ:=by
 have hf:=h.far
 have hl:=h.port.place.le
 exact ⟨h.raw.wrote k (h5 _ (by omega)) (h5 _ (by omega)) (h5 _ (by omega)) (h5 _ (by omega)),h.port.wrote k (λb _ b2=>h5 b b2),h.far,Nat.le_trans h.top k.size⟩
theorem after (h:LkM w L f σ) (k:Wr Nil w w'):LkM w' L f σ:=h.wrote k λ_ _=>id
theorem seats {s':SS} (h:LkAt w L f) (hS:SeatAt w' L.p L.b s') (hn:f.s.KeH s') (k:Wr (One L.b) w w'):LkAt w' L {f with s:=s'}:=by
 have hr:=h.raw.seats0 hS hn.1 (hn.2 h.raw.np).1 k
 obtain ⟨G,g1,g2⟩:=hr.tick
 exact ⟨⟨hr.obj,hr.seat,⟨G,g1,λj hj=>(g2 j hj).turn ((hn.2 h.raw.np).2 j)⟩,hr.np,hr.ne,hr.adr⟩,h.port.wrote k (λb b1 _ e=>by have:=h.far.2.2.1;cases e;omega),h.far,Nat.le_trans h.top k.size⟩
theorem ends {s':SS} (h:LkM w L f σ) (hS:SeatAt w' L.p L.b s') (hn:s'.n=f.s.n) (hp:s'.NpH) (hs:σ=s'.st) (k:Wr (One L.b) w w'):LkAt w' L {f with s:=s'}:=by
 subst hs
 exact ⟨h.raw.seats0 hS hn hp k,h.port.wrote k (λb b1 _ e=>by have:=h.far.2.2.1;cases e;omega),h.far,Nat.le_trans h.top k.size⟩
theorem ports {ps':PSta} (h:LkM w L f σ) (hP:PortAt w' L.q L.hs ps') (k:Wr (Rng L.q.k0 L.q.k3) w w'):LkM w' L {f with ps:=ps'} σ:=
 ⟨h.raw.wrote k (λe=>by have:=h.far.1;unfold Rng at e;omega) (λe=>by have:=h.far.2.1;unfold Rng at e;omega) (λe=>by have:=h.far.2.2.1;unfold Rng at e;omega) (λe=>by have:=h.far.2.2.2;unfold Rng at e;omega),hP,h.far,Nat.le_trans h.top k.size⟩
theorem turns (h:LkM w L f σ) {σ':Nat→Int} {k:Nat} {a:Ab} (g:FlRaw w' L (.pointer (some ⟨L.q.p,0,none⟩)) f.s σ' (upd f.ab k a)∧Wr (One L.tb) w w'):
  LkM w' L (f.put k a) σ'∧Wr (One L.tb) w w':=
 ⟨⟨by rw [FL.ab_put];exact g.1,h.port.wrote g.2 (λb b1 _ e=>by have:=h.far.2.2.2;cases e;omega),h.far,Nat.le_trans h.top g.2.size⟩,g.2⟩
theorem turn0 (h:LkM w L f σ) {σ':Nat→Int} {k:Nat} {a:Ab} (g:FlRaw w L (.pointer (some ⟨L.q.p,0,none⟩)) f.s σ' (upd f.ab k a)):LkM w L (f.put k a) σ':=⟨by rw [FL.ab_put];exact g,h.port,h.far,h.top⟩
theorem place6 (h:LkM w L f σ) {k:Nat} (hk:k<f.s.n):∃ p:Pc,PlI (σ k) (f.ab k) p∧w.cell? ⟨L.tb,k*6,none⟩=some (.int .i64 (f.cl k))∧w.cell? ⟨L.tb,k*6+1,none⟩=some (.int .u32 (f.nd k))∧
  w.cell? ⟨L.tb,k*6+2,none⟩=some (.int .u32 p.ah)∧w.cell? ⟨L.tb,k*6+3,none⟩=some (.int .i64 (f.pc k))∧w.cell? ⟨L.tb,k*6+4,none⟩=some (.int .u32 p.la)∧w.cell? ⟨L.tb,k*6+5,none⟩=some (.int .u32 p.wa):=h.raw.place6 hk
theorem wf (h:LkM w L f σ) (j:Int):0≤loadI f.ps.ws j∧loadI f.ps.ws j<4294967296:=h.port.mem.load_rng j
theorem tell (h:LkM w L f σ) (t K a:Int):0≤tellS f.ps t K a∧tellS f.ps t K a<4294967296:=by
 unfold tellS tellI
 repeat' split
 ·exact h.wf a
 all_goals omega
theorem lf_lt (h:LkM w L f σ) {k:Nat} (hk:LF L k):k<w.heap.size:=by
 rcases hk with rfl|rfl|hk
 ·exact blk_lt h.raw.seat.ctx
 ·exact h.raw.ltt
 ·exact Nat.lt_of_lt_of_le hk.2 h.top
end LkM
def LmPost (w:World) (L:Lp) (f:FL) (σ:Nat→Int) (v:Value) (e:Ending) (w':World):Prop:=e= .returned v∧LkM w' L f σ∧Wr (LF L) w w'
abbrev LkPost (w:World) (L:Lp) (f:FL) (v:Value) (e:Ending) (w':World):Prop:=LmPost w L f f.s.st v e w'
theorem lf_b {w w':World} {L:Lp} (k:Wr (One L.b) w w'):Wr (LF L) w w':=k.mono λ_ _ e=> .inl e
theorem lf_t {w w':World} {L:Lp} (k:Wr (One L.tb) w w'):Wr (LF L) w w':=k.mono λ_ _ e=> .inr (.inl e)
theorem lf_q {w w':World} {L:Lp} (k:Wr (Rng L.q.k0 L.q.k3) w w'):Wr (LF L) w w':=k.mono λ_ _ e=> .inr (.inr e)
theorem lf_nil {w w':World} {L:Lp} (k:Wr Nil w w'):Wr (LF L) w w':=k.mono λ_ _ e=>e.elim
def didC (d:Dd):Array Value:= #[.int .i64 d.ev,.bool d.enq,.bool d.arr,.bool d.lead]
structure Fr (w:World) (B:Nat) (Y:World) (L:Lp) (f:FL) (σ:Nat→Int):Prop where
 lk:LkM Y L f σ
 wr:Wr (LF L) w Y
 res:Y.heap[B]? =some (.cells (didC Dd.no) 228 (0,0))
 new:w.heap.size≤B
namespace Fr
variable {w X Y:World} {L:Lp} {f f':FL} {B:Nat} {σ σ':Nat→Int}
theorem start (h:LkM w L f σ):Fr w w.heap.size (w.alloc (.cells #[.int .i64 0,.bool false,.bool false,.bool false] 228)) L f σ:=
 ⟨h.after ((Wr.refl _ w).alloc _),(Wr.refl _ w).alloc _,Go.Deep.blk_alloc_new w _,Nat.le_refl _⟩
theorem after (h:Fr w B X L f σ) (k:Wr Nil X Y):Fr w B Y L f σ:=⟨h.lk.after k,h.wr.trans k λ_ _ e=>e.elim,(k.block _ (blk_lt h.res) id).trans h.res,h.new⟩
theorem drew (h:Fr w B X L f σ):Fr w B X.drew L f σ:=h.after ((Wr.refl _ X).drew)
theorem call {f0:FL} {σ0:Nat→Int} (h0:LkM w L f' σ') (h:Fr w B X L f σ) (hl:LkM Y L f0 σ0) (k:Wr (LF L) X Y):Fr w B Y L f0 σ0:=
 ⟨hl,h.wr.trans k λ_ _ e=>e,(k.block _ (blk_lt h.res) (λe=>by have:=h0.lf_lt e;have:=h.new;omega)).trans h.res,h.new⟩
theorem cell (h:Fr w B X L f σ):X.cell? ⟨B,0,none⟩=some (.int .i64 0)∧X.cell? ⟨B,1,none⟩=some (.bool false)∧X.cell? ⟨B,2,none⟩=some (.bool false)∧X.cell? ⟨B,3,none⟩=some (.bool false):=by
 rw [blk_cell h.res,blk_cell h.res,blk_cell h.res,blk_cell h.res];exact ⟨rfl,rfl,rfl,rfl⟩
theorem frz (h:Fr w B X L f σ):X.frozen? ⟨B,0,none⟩=false∧X.frozen? ⟨B,1,none⟩=false∧X.frozen? ⟨B,2,none⟩=false∧X.frozen? ⟨B,3,none⟩=false:=
 ⟨blk_frozen h.res 0,blk_frozen h.res 1,blk_frozen h.res 2,blk_frozen h.res 3⟩
end Fr
theorem set4 {Y:World} {B:Nat} {t:TypeId} {cs:Array Value} (h:Y.heap[B]? =some (.cells cs t (0,0))) (h4:cs.size=4) (x0 x1 x2 x3:Value):
  ((((Y.setCell ⟨B,0,none⟩ x0).setCell ⟨B,1,none⟩ x1).setCell ⟨B,2,none⟩ x2).setCell ⟨B,3,none⟩ x3).heap[B]? =some (.cells #[x0,x1,x2,x3] t (0,0)):=by
 rw [blk_setCell (blk_setCell (blk_setCell (blk_setCell h 0 x0) 1 x1) 2 x2) 3 x3]
 obtain ⟨l⟩:=cs
 match l,h4 with
 |[a,b,c,d],_=>rfl
theorem wrote4 (Y:World) (B:Nat) (x0 x1 x2 x3:Value):Wr (One B) Y ((((Y.setCell ⟨B,0,none⟩ x0).setCell ⟨B,1,none⟩ x1).setCell ⟨B,2,none⟩ x2).setCell ⟨B,3,none⟩ x3):=
 ((((Wr.refl (One B) Y).setCell ⟨B,0,none⟩ x0 λ_=>rfl).setCell ⟨B,1,none⟩ x1 λ_=>rfl).setCell ⟨B,2,none⟩ x2 λ_=>rfl).setCell ⟨B,3,none⟩ x3 λ_=>rfl
theorem Fr.told {w Y:World} {L:Lp} {f f0:FL} {B:Nat} {σ σ0:Nat→Int} (h0:LkM w L f0 σ0) (h:Fr w B Y L f σ) (d:Dd):
  LmPost w L f σ d.val (.returned d.val) ((((Y.setCell ⟨B,0,none⟩ (.int .i64 d.ev)).setCell ⟨B,1,none⟩ (.bool d.enq)).setCell ⟨B,2,none⟩ (.bool d.arr)).setCell ⟨B,3,none⟩ (.bool d.lead)):=by
 have k:=wrote4 Y B (.int .i64 d.ev) (.bool d.enq) (.bool d.arr) (.bool d.lead)
 have hB:∀ j,j<w.heap.size→¬ One B j:=λj hj e=>by have:=h.new;cases e;omega
 refine ⟨rfl,h.lk.wrote k (λb b2=>hB b (Nat.lt_of_lt_of_le b2 h0.top)),?_⟩
 exact h.wr.trans k λb hb e=>(hB b hb e).elim
theorem i_did:(prog.info? 228).map (·.size)=some 4:=by kernel_rfl
set_option maxHeartbeats 8000000
open _root_.Go.Proofs.Tryz Go.Deep
open Go.RowKit Go.BigFrame
theorem fl_use {w:World} {L:Lp} {pv:Value} {s:SS} {σ:Nat→Int} {A:Nat→Ab} (h:FlRaw w L pv s σ A) (a:Addr):
  Calls prog 256 #[.pointer (some ⟨L.lb,0,none⟩),.pointer (some a)] w λe w'=>e= .returned (.tuple #[])∧w'=w.setCell ⟨L.lb,1,none⟩ (.pointer (some a)):=by
 have c1:=h.cell1
 have f1:=h.frozen 1
 clear h
 go_enter func256,ntmps256
 go_wp2
 go_end0
 exact ⟨rfl,rfl⟩
theorem fl_local {w:World} {L:Lp} {f:FL} {σ:Nat→Int} (h:LkM w L f σ) (c:Int) (hc:0≤c∧c≤7):
  Calls prog 261 #[.pointer (some ⟨L.lb,0,none⟩),.int .i64 c] w λe w'=>e= .returned (.int .i64 (L.cA c))∧w=w':=by
 have c2:=h.raw.cell2
 obtain ⟨a0,a1,a2⟩:=h.raw.adr
 have w1:IntKind.i64.wrap (L.a1+1)=L.a1+1:=by rw [IntKind.wrap_i64];omega
 have w2:IntKind.i64.wrap (L.a1+1+c)=L.a1+1+c:=by rw [IntKind.wrap_i64];omega
 have e:L.cA c=L.a1+1+c:=by unfold Lp.cA;omega
 rw [e]
 clear h e
 go_enter func261,ntmps261
 go_wp2
 go_ret
 exact ⟨rfl,rfl⟩
theorem fl_word {w:World} {L:Lp} {f:FL} {σ:Nat→Int} (h:LkM w L f σ) (x:Int) (hx:0≤x∧x<4294967296):
  Calls prog 259 #[.pointer (some ⟨L.lb,0,none⟩),.int .u32 x] w λe w'=>e= .returned (.int .i64 (L.nA x))∧w=w':=by
 have c2:=h.raw.cell2
 obtain ⟨a0,a1,a2⟩:=h.raw.adr
 have w0:IntKind.i64.wrap x=x:=by rw [IntKind.wrap_i64];omega
 have w1:IntKind.i64.wrap (L.a1+8)=L.a1+8:=by rw [IntKind.wrap_i64];omega
 have w2:IntKind.i64.wrap (L.a1+8+x)=L.a1+8+x:=by rw [IntKind.wrap_i64];omega
 have e:L.nA x=L.a1+8+x:=by unfold Lp.nA;omega
 rw [e]
 clear h e
 go_enter func259,ntmps259
 go_wp2
 go_ret
 exact ⟨rfl,rfl⟩
theorem pk_busy (c:Int) (hc:0≤c∧c≤7) (w:World):Calls prog 109 #[.int .i64 c,.bool true,.bool false] w λe w'=>e= .returned (.int .u32 (wd c 1 0))∧w=w':=by
 have:=pack_any c true false w
 rw [show wordI c true false=wd c 1 0 from by unfold wordI wd;rw [held_in c (by omega) (by omega)];unfold oneI;simp] at this
 exact this
theorem pk_splice (v:Int) (h0:0≤v) (h1:v<4294967296) (w:World):Calls prog 269 #[.int .u32 v] w λe w'=>e= .returned (.int .u32 (wd (wCl v) (wWt v) 1))∧w=w':=by
 have:=splice_any v h0 h1 w
 rw [show spliceI v=wd (wCl v) (wWt v) 1 from by unfold spliceI wd wCl wWt;omega] at this
 exact this
theorem pk_free (v:Int) (h0:0≤v) (h1:v<4294967296) (w:World):Calls prog 266 #[.int .u32 v] w λe w'=>e= .returned (.int .u32 (wd (wCl v) 0 (wSp v)))∧w=w':=by
 have:=free_any v h0 h1 w
 rw [show freeI v=wd (wCl v) 0 (wSp v) from by unfold freeI wd wCl wSp;omega] at this
 exact this
theorem wd_rng {c x y:Int} (hc:0≤c∧c≤1073741823) (hx:x=0∨x=1) (hy:y=0∨y=1):0≤wd c x y∧wd c x y<4294967296:=by unfold wd;omega
theorem wd_s {v:Int} (h:0≤v∧v<4294967296):0≤wd (wCl v) (wWt v) 1∧wd (wCl v) (wWt v) 1<4294967296:=by unfold wd wCl wWt;omega
theorem wd_f {v:Int} (h:0≤v∧v<4294967296):0≤wd (wCl v) 0 (wSp v)∧wd (wCl v) 0 (wSp v)<4294967296:=by unfold wd wCl wSp;omega
section
variable {a:Ab} {p:Pc}
theorem PlI.next {q:Int} (h:PlI 1 a p) (hq:0≤q∧q≤7) (h2:2≤q→2≤a.pc) (h4:4≤q→4≤a.pc) (h6:q≠6):PlI 1 ⟨a.cl,q,a.nd,a.ahd,a.of,a.wv⟩ {p with st:=q}:=
 ⟨h.cl,h.nd,⟨rfl,hq⟩,h.ahr,h.ofr,h.wvr,λ_ x=>h.ah1 rfl (h2 x),λx=>by omega,λ_ x=>h.la1 rfl (h4 x),λ_ x=>absurd x h6,λx=>by omega,λx=>absurd rfl x,λx=>by omega,h.pa,h.pl,h.pw⟩
theorem PlI.ahead {q v:Int} (h:PlI 1 a p) (hv:0≤v∧v<4294967296) (hq:0≤q∧q≤7) (h4:4≤q→4≤a.pc) (h6:q≠6):PlI 1 ⟨a.cl,q,a.nd,v,a.of,a.wv⟩ {p with ah:=v,st:=q}:=
 ⟨h.cl,h.nd,⟨rfl,hq⟩,hv,h.ofr,h.wvr,λ_ _=>rfl,λx=>by omega,λ_ x=>h.la1 rfl (h4 x),λ_ x=>absurd x h6,λx=>by omega,λx=>absurd rfl x,λx=>by omega,hv,h.pl,h.pw⟩
theorem PlI.last {v:Int} (h:PlI 1 a p) (hv:0≤v∧v<4294967296) (h3:a.pc=3):PlI 1 ⟨a.cl,4,a.nd,a.ahd,v,a.wv⟩ {p with la:=v,st:=4}:=
 ⟨h.cl,h.nd,⟨rfl,(by show (0:Int)≤4∧(4:Int)≤7;decide)⟩,h.ahr,hv,h.wvr,λ_ _=>h.ah1 rfl (by omega),λx=>by omega,λ_ _=>rfl,λ_ x=>absurd x (show ¬ (4:Int)=6 by decide),λx=>by omega,λx=>absurd rfl x,λx=>by omega,h.pa,hv,h.pw⟩
theorem PlI.read {v:Int} (h:PlI 1 a p) (hv:0≤v∧v<4294967296) (h5:a.pc=5):PlI 1 ⟨a.cl,6,a.nd,a.ahd,a.of,v⟩ {p with wa:=v,st:=6}:=
 ⟨h.cl,h.nd,⟨rfl,(by show (0:Int)≤6∧(6:Int)≤7;decide)⟩,h.ahr,h.ofr,hv,λ_ _=>h.ah1 rfl (by omega),λx=>by omega,λ_ _=>h.la1 rfl (by omega),λ_ _=>rfl,λx=>by omega,λx=>absurd rfl x,λx=>by omega,h.pa,h.pl,hv⟩
theorem PlI.view {v:Int} (h:PlI 3 a p) (hv:0≤v∧v<4294967296):PlI 3 ⟨a.cl,1,a.nd,a.ahd,a.of,v⟩ {p with wa:=v,st:=1}:=
 ⟨h.cl,h.nd,⟨rfl,(by show (0:Int)≤1∧(1:Int)≤7;decide)⟩,h.ahr,h.ofr,hv,λx=>by omega,λx=>h.ah2 x,λx=>by omega,λx=>by omega,λ_ _=>rfl,λ_ x=>absurd rfl x,λ_=>(by show (1:Int)≤1;decide),h.pa,h.pl,hv⟩
theorem PlI.again (h:PlI 3 a p):PlI 3 ⟨a.cl,0,a.nd,a.ahd,a.of,a.wv⟩ {p with st:=0}:=
 ⟨h.cl,h.nd,⟨rfl,(by show (0:Int)≤0∧(0:Int)≤7;decide)⟩,h.ahr,h.ofr,h.wvr,λx=>by omega,λx=>h.ah2 x,λx=>by omega,λx=>by omega,λ_ x=>absurd x (show ¬ (0:Int)=1 by decide),λ_ x=>absurd rfl x,λ_=>(by show (0:Int)≤1;decide),h.pa,h.pl,h.pw⟩
theorem PlI.has (h:PlI 1 a p):PlI 2 ⟨a.cl,0,a.nd,a.ahd,a.of,a.wv⟩ ⟨a.cl,a.nd,a.ahd,0,0,0⟩:=
 ⟨⟨rfl,h.cl.2⟩,⟨rfl,h.nd.2⟩,⟨rfl,(by show (0:Int)≤0∧(0:Int)≤7;decide)⟩,h.ahr,h.ofr,h.wvr,λx=>by omega,λx=>rfl,λx=>by omega,λx=>by omega,λx=>by omega,λ_ _=>rfl,λx=>by omega,h.ahr,(by show (0:Int)≤0∧(0:Int)<4294967296;decide),(by show (0:Int)≤0∧(0:Int)<4294967296;decide)⟩
theorem PlI.gone (h:PlI 3 a p):PlI 0 ⟨a.cl,0,a.ahd,a.ahd,a.of,a.wv⟩ ⟨a.cl,a.ahd,0,0,0,0⟩:=
 ⟨⟨rfl,h.cl.2⟩,⟨rfl,h.ahr⟩,⟨rfl,(by show (0:Int)≤0∧(0:Int)≤7;decide)⟩,h.ahr,h.ofr,h.wvr,λx=>by omega,λx=>by omega,λx=>by omega,λx=>by omega,λx=>by omega,λ_ _=>rfl,λx=>by omega,(by show (0:Int)≤0∧(0:Int)<4294967296;decide),(by show (0:Int)≤0∧(0:Int)<4294967296;decide),(by show (0:Int)≤0∧(0:Int)<4294967296;decide)⟩
end
def FiPost (w:World) (L:Lp) (f:FL) (σ:Nat→Int) (e:Ending) (w':World):Prop:=e= .returned (.tuple #[])∧LkM w' L f σ∧Wr (LF L) w w'
theorem fl_ent0 {w:World} {L:Lp} {f:FL} {σ:Nat→Int} (h:LkM w L f σ) (k:Nat) (hk:k<f.s.n) (hs:σ k=1):
  Calls prog 260 #[.pointer (some ⟨L.tb,k*6,none⟩),.int .u32 0] w (FiPost w L (f.put k ⟨f.cl k,3,f.nd k,0,f.of k,f.wv k⟩) (upd σ k 1)):=by
 obtain ⟨p,hp,t0,t1,t2,t3,t4,t5⟩:=h.place6 hk
 have z2:=h.raw.tkz (k*6+2)
 have z3:=h.raw.tkz (k*6+3)
 have hT:=h.turns (h.raw.setB k 1 ⟨f.cl k,3,f.nd k,0,f.of k,f.wv k⟩ 0 2 3 (λp hp=>by rw [hs] at hp;exact hp.ahead (q:=3) (v:=0) (by decide) (by decide) (λx=>by omega) (by decide)))
 have HE:=Lib.hid hT
 clear h hT hp hs
 go_enter func260,ntmps260
 go_wp2
 go_end0
 exact ⟨rfl,HE.out.1,lf_t HE.out.2⟩
theorem fl_ent1 {w:World} {L:Lp} {f:FL} {σ:Nat→Int} (h:LkM w L f σ) (k:Nat) (hk:k<f.s.n) (hs:σ k=1) (v:Int) (hv:0≤v∧v<4294967296) (hz:v≠0):
  Calls prog 260 #[.pointer (some ⟨L.tb,k*6,none⟩),.int .u32 v] w (FiPost w L (f.put k ⟨f.cl k,2,f.nd k,v,f.of k,f.wv k⟩) (upd σ k 1)):=by
 obtain ⟨p,hp,t0,t1,t2,t3,t4,t5⟩:=h.place6 hk
 have z2:=h.raw.tkz (k*6+2)
 have z3:=h.raw.tkz (k*6+3)
 have hT:=h.turns (h.raw.setA k 1 ⟨f.cl k,2,f.nd k,v,f.of k,f.wv k⟩ v 2 (λp hp=>by rw [hs] at hp;exact hp.ahead (q:=2) hv (by decide) (λx=>by omega) (by decide)))
 have HE:=Lib.hid hT
 have b1:(v==0)=false:=beq_false_of_ne hz
 clear h hT hp hs hz
 go_enter func260,ntmps260
 go_wp2
 go_end0
 exact ⟨rfl,HE.out.1,lf_t HE.out.2⟩
theorem fl_enter {w:World} {L:Lp} {f:FL} {σ:Nat→Int} (h:LkM w L f σ) (k:Nat) (hk:k<f.s.n) (hs:σ k=1) (v:Int) (hv:0≤v∧v<4294967296):
  Calls prog 260 #[.pointer (some ⟨L.tb,k*6,none⟩),.int .u32 v] w (FiPost w L (f.put k ⟨f.cl k,if v=0 then 3 else 2,f.nd k,v,f.of k,f.wv k⟩) (upd σ k 1)):=by
 by_cases hz:v=0
 ·subst hz;exact fl_ent0 h k hk hs
 ·rw [if_neg hz];exact fl_ent1 h k hk hs v hv hz
theorem did_cells {X:World} {C:Nat} {d:Dd} (h:X.heap[C]? =some (.cells (didC d) 228 (0,0))):X.cell? ⟨C,0,none⟩=some (.int .i64 d.ev)∧X.cell? ⟨C,1,none⟩=some (.bool d.enq)∧X.cell? ⟨C,2,none⟩=some (.bool d.arr)∧X.cell? ⟨C,3,none⟩=some (.bool d.lead):=by
 rw [blk_cell h,blk_cell h,blk_cell h,blk_cell h];exact ⟨rfl,rfl,rfl,rfl⟩
theorem fl_has {w:World} {L:Lp} {f:FL} {σ:Nat→Int} (h:LkM w L f σ) (k:Nat) (hk:k<f.s.n) (hs:σ k=1) (hpc:2≤f.pc k) (d:Dd):
  Calls prog 264 #[.pointer (some ⟨L.tb,k*6,none⟩),d.val] w (LmPost w L (f.put k ⟨f.cl k,0,f.nd k,f.ahd k,f.of k,f.wv k⟩) (upd σ k 2) d.val):=by
 have e1:(w.alloc (.cells #[.int .i64 d.ev,.bool d.enq,.bool d.arr,.bool d.lead] 228)).heap.size=w.heap.size+1:=nblk_alloc _ _
 have hF0:=Fr.start (h.after ((Wr.refl _ w).alloc (.cells #[.int .i64 d.ev,.bool d.enq,.bool d.arr,.bool d.lead] 228)))
 have hD:((w.alloc (.cells #[.int .i64 d.ev,.bool d.enq,.bool d.arr,.bool d.lead] 228)).alloc (.cells #[.int .i64 0,.bool false,.bool false,.bool false] 228)).heap[w.heap.size]? =some (.cells (didC d) 228 (0,0)):=by
  rw [blk_alloc_lt _ _ _ (by rw [e1];omega),blk_alloc_new];rfl
 rw [e1] at hF0
 obtain ⟨Z,hZ⟩:∃ Z,Z=(w.alloc (.cells #[.int .i64 d.ev,.bool d.enq,.bool d.arr,.bool d.lead] 228)).alloc (.cells #[.int .i64 0,.bool false,.bool false,.bool false] 228):=⟨_,rfl⟩
 rw [←hZ] at hF0 hD
 have hF:Fr w (w.heap.size+1) Z L f σ:=⟨hF0.lk,(lf_nil (by rw [hZ];exact ((Wr.refl _ w).alloc _).alloc _)),hF0.res,Nat.le_succ _⟩
 obtain ⟨p,hp,t0,t1,t2,t3,t4,t5⟩:=hF.drew.lk.place6 hk
 rw [hs] at hp
 rw [hp.ah1 rfl hpc] at t2
 replace t2:Z.drew.cell? ⟨L.tb,k*6+2,none⟩=some (.int .u32 (f.ahd k)):=t2
 have z0:=hF.drew.lk.raw.tkz (k*6)
 have z1:=hF.drew.lk.raw.tkz (k*6+1)
 have z2:=hF.drew.lk.raw.tkz (k*6+2)
 have z3:=hF.drew.lk.raw.tkz (k*6+3)
 have z4:=hF.drew.lk.raw.tkz (k*6+4)
 have z5:=hF.drew.lk.raw.tkz (k*6+5)
 have hT:=hF.drew.lk.turns (hF.drew.lk.raw.set6 k 2 ⟨f.cl k,0,f.nd k,f.ahd k,f.of k,f.wv k⟩ (f.cl k) (f.nd k) (f.ahd k) 0 0 0 (λq hq=>by rw [hs] at hq;exact hq.has))
 obtain ⟨V,hV⟩:∃ V,V=((((((Z.drew.setCell ⟨L.tb,k*6,none⟩ (.int .i64 (f.cl k))).setCell ⟨L.tb,k*6+1,none⟩ (.int .u32 (f.nd k))).setCell ⟨L.tb,k*6+2,none⟩ (.int .u32 (f.ahd k))).setCell ⟨L.tb,k*6+3,none⟩ (.int .i64 0)).setCell ⟨L.tb,k*6+4,none⟩ (.int .u32 0)).setCell ⟨L.tb,k*6+5,none⟩ (.int .u32 0)):=⟨_,rfl⟩
 rw [←hV] at hT
 have hA:=Fr.call h hF.drew hT.1 (lf_t hT.2)
 obtain ⟨v0,v1,v2,v3⟩:=hA.cell
 obtain ⟨x0,x1,x2,x3⟩:=hA.frz
 have hD2:=(hT.2.block _ (blk_lt (show Z.drew.heap[w.heap.size]? =_ from hD)) (λe=>by have:=h.raw.ltt;unfold One at e;omega)).trans (show Z.drew.heap[w.heap.size]? =_ from hD)
 obtain ⟨p0,p1,p2,p3⟩:=did_cells hD2
 have HE:=Lib.hid (And.intro h hA)
 clear h hF0 hF hT hA hp hs hD hD2 e1
 unfold Dd.val
 go_enter func264,ntmps264
 go_wp2
 rw [←hZ]
 clear hZ
 refine wp_region_tail 15 (by kernel_rfl) (by kernel_rfl) ?_
 simp only [List.take_succ_cons,List.take_zero,List.drop_succ_cons,List.drop_zero]
 repeat still_step
 refine wpStill_nil ?_
 generalize Z.drew=Y at*
 go_step
 go_step
 rw [←hV]
 clear hV t0 t1 t2 t3 t4 t5 z0 z1 z2 z3 z4 z5
 go_wp2
 refine bodyPost_ret (v:=Dd.val d) (results_cell_row rfl _ _ (w.heap.size+1) 228 _ (0,0) _ rfl (set4 HE.out.2.res rfl _ _ _ _) underlying228 rfl i_did) rfl (HE.out.2.told HE.out.1 d)
theorem pk_cl (v:Int) (h:0≤v∧v<4294967296) (W:World):Calls prog 267 #[.int .u32 v] W λe w'=>e= .returned (.int .i64 (wCl v))∧w'=W:=(cluster_any v h.1 h.2 W).mono λ_ _ q=>⟨q.1,q.2.symm⟩
theorem pk_sp (v:Int) (h:0≤v∧v<4294967296) (b:Bool) (hb:b=decide (wSp v=1)) (W:World):Calls prog 268 #[.int .u32 v] W λe w'=>e= .returned (.bool b)∧w'=W:=(spliced_any v h.1 h.2 W).mono λ_ _ q=>⟨by rw [hb];exact q.1,q.2.symm⟩
theorem pk_wt (v:Int) (h:0≤v∧v<4294967296) (b:Bool) (hb:b=decide (wWt v=1)) (W:World):Calls prog 263 #[.int .u32 v] W λe w'=>e= .returned (.bool b)∧w'=W:=(waits_any v h.1 h.2 W).mono λ_ _ q=>⟨by rw [hb];exact q.1,q.2.symm⟩
theorem fl_fol1 {w:World} {L:Lp} {f:FL} {σ:Nat→Int} (h:LkM w L f σ) (k:Nat) (hk:k<f.s.n) (hs:σ k=1) (hpc:f.pc k=2) (v:Int) (hv:0≤v∧v<4294967296) (hx:wCl v≠f.cl k):
  Calls prog 262 #[.pointer (some ⟨L.tb,k*6,none⟩),.int .u32 v] w (LmPost w L (f.put k ⟨f.cl k,3,f.nd k,f.ahd k,f.of k,f.wv k⟩) (upd σ k 1) (Dd.val ⟨0,false,false,false⟩)):=by
 have hF:=Fr.start h
 obtain ⟨Z,hZ⟩:∃ Z,Z=w.alloc (.cells #[.int .i64 0,.bool false,.bool false,.bool false] 228):=⟨_,rfl⟩
 rw [←hZ] at hF
 obtain ⟨p,hp,t0,t1,t2,t3,t4,t5⟩:=hF.lk.place6 hk
 have cC:=pk_cl v hv
 have b0:(wCl v != f.cl k)=true:=by simpa [bne,BEq.beq] using hx
 have cS:=pk_sp v hv _ rfl
 clear hx
 have HE:=Lib.hid (And.intro h (And.intro hF (And.intro hs hpc)))
 clear h hF hp hs hpc
 go_enter func262,ntmps262
 go_wp2
 rw [←hZ]
 clear hZ
 go_big_quiet (first|(go_at_call 267;with_reducible exact Calls.quiet_of_same (cC _))|(go_at_call 268;with_reducible exact Calls.quiet_of_same (cS _)))
 generalize hX:Z.drewN _=X
 have hY:=HE.out.2.1.after (by rw [←hX];exact (Wr.refl Nil Z).drewN _:Wr Nil Z X)
 clear hX t0 t1 t2 t3 t4 t5
 obtain ⟨p,hp,t0,t1,t2,t3,t4,t5⟩:=hY.lk.place6 hk
 have z3:=hY.lk.raw.tkz (k*6+3)
 have hT:=hY.lk.turns (hY.lk.raw.set1 k 1 ⟨f.cl k,3,f.nd k,f.ahd k,f.of k,f.wv k⟩ 3 (λq hq=>by rw [HE.out.2.2.1] at hq;exact hq.next (q:=3) (by decide) (λ_=>(by have:(f.ab k).pc=2:=HE.out.2.2.2;omega)) (λx=>by omega) (by decide)))
 have hA:=Fr.call HE.out.1 hY hT.1 (lf_t hT.2)
 obtain ⟨v0,v1,v2,v3⟩:=hA.cell
 obtain ⟨x0,x1,x2,x3⟩:=hA.frz
 have HA:=Lib.hid hA
 clear hA hT hY hp
 go_wp2
 refine bodyPost_ret (v:=Dd.val ⟨0,false,false,false⟩) (results_cell_row rfl _ _ w.heap.size 228 _ (0,0) _ rfl (set4 HA.out.res rfl _ _ _ _) underlying228 rfl i_did) rfl (HA.out.told HE.out.1 ⟨0,false,false,false⟩)
theorem fl_fol2 {w:World} {L:Lp} {f:FL} {σ:Nat→Int} (h:LkM w L f σ) (k:Nat) (hk:k<f.s.n) (hs:σ k=1) (hpc:f.pc k=2) (v:Int) (hv:0≤v∧v<4294967296) (hx:wCl v=f.cl k) (hy:wSp v≠0):
  Calls prog 262 #[.pointer (some ⟨L.tb,k*6,none⟩),.int .u32 v] w (LmPost w L (f.put k ⟨f.cl k,3,f.nd k,f.ahd k,f.of k,f.wv k⟩) (upd σ k 1) (Dd.val ⟨0,false,false,false⟩)):=by
 have hF:=Fr.start h
 obtain ⟨Z,hZ⟩:∃ Z,Z=w.alloc (.cells #[.int .i64 0,.bool false,.bool false,.bool false] 228):=⟨_,rfl⟩
 rw [←hZ] at hF
 obtain ⟨p,hp,t0,t1,t2,t3,t4,t5⟩:=hF.lk.place6 hk
 have cC:=pk_cl v hv
 have b0:(wCl v != f.cl k)=false:=by rw [hx];simp
 have cS:=pk_sp v hv true (by symm;apply decide_eq_true;unfold wSp at hy ⊢;omega)
 clear hx hy
 have HE:=Lib.hid (And.intro h (And.intro hF (And.intro hs hpc)))
 clear h hF hp hs hpc
 go_enter func262,ntmps262
 go_wp2
 rw [←hZ]
 clear hZ
 go_big_quiet (first|(go_at_call 267;with_reducible exact Calls.quiet_of_same (cC _))|(go_at_call 268;with_reducible exact Calls.quiet_of_same (cS _)))
 generalize hX:Z.drewN _=X
 have hY:=HE.out.2.1.after (by rw [←hX];exact (Wr.refl Nil Z).drewN _:Wr Nil Z X)
 clear hX t0 t1 t2 t3 t4 t5
 obtain ⟨p,hp,t0,t1,t2,t3,t4,t5⟩:=hY.lk.place6 hk
 have z3:=hY.lk.raw.tkz (k*6+3)
 have hT:=hY.lk.turns (hY.lk.raw.set1 k 1 ⟨f.cl k,3,f.nd k,f.ahd k,f.of k,f.wv k⟩ 3 (λq hq=>by rw [HE.out.2.2.1] at hq;exact hq.next (q:=3) (by decide) (λ_=>(by have:(f.ab k).pc=2:=HE.out.2.2.2;omega)) (λx=>by omega) (by decide)))
 have hA:=Fr.call HE.out.1 hY hT.1 (lf_t hT.2)
 obtain ⟨v0,v1,v2,v3⟩:=hA.cell
 obtain ⟨x0,x1,x2,x3⟩:=hA.frz
 have HA:=Lib.hid hA
 clear hA hT hY hp
 go_wp2
 refine bodyPost_ret (v:=Dd.val ⟨0,false,false,false⟩) (results_cell_row rfl _ _ w.heap.size 228 _ (0,0) _ rfl (set4 HA.out.res rfl _ _ _ _) underlying228 rfl i_did) rfl (HA.out.told HE.out.1 ⟨0,false,false,false⟩)
theorem fl_fol3 {w:World} {L:Lp} {f:FL} {σ:Nat→Int} (h:LkM w L f σ) (k:Nat) (hk:k<f.s.n) (hs:σ k=1) (hpc:f.pc k=2) (v:Int) (hv:0≤v∧v<4294967296) (hx:wCl v=f.cl k) (hy:wSp v=0) (hz:wWt v≠0):
  Calls prog 262 #[.pointer (some ⟨L.tb,k*6,none⟩),.int .u32 v] w (LmPost w L (f.put k ⟨f.cl k,2,f.nd k,f.ahd k,f.of k,f.wv k⟩) (upd σ k 1) (Dd.val ⟨0,false,false,false⟩)):=by
 have hF:=Fr.start h
 obtain ⟨Z,hZ⟩:∃ Z,Z=w.alloc (.cells #[.int .i64 0,.bool false,.bool false,.bool false] 228):=⟨_,rfl⟩
 rw [←hZ] at hF
 obtain ⟨p,hp,t0,t1,t2,t3,t4,t5⟩:=hF.lk.place6 hk
 have cC:=pk_cl v hv
 have b0:(wCl v != f.cl k)=false:=by rw [hx];simp
 have cS:=pk_sp v hv false (by rw [hy];rfl)
 have cW:=pk_wt v hv true (by symm;apply decide_eq_true;unfold wWt at hz ⊢;omega)
 clear hx hy hz
 have HE:=Lib.hid (And.intro h (And.intro hF (And.intro hs hpc)))
 clear h hF hp hs hpc
 go_enter func262,ntmps262
 go_wp2
 rw [←hZ]
 clear hZ
 go_big_quiet (first|(go_at_call 267;with_reducible exact Calls.quiet_of_same (cC _))|(go_at_call 268;with_reducible exact Calls.quiet_of_same (cS _)))
 generalize hX:Z.drewN _=X
 have hY:=HE.out.2.1.after (by rw [←hX];exact (Wr.refl Nil Z).drewN _:Wr Nil Z X)
 clear hX t0 t1 t2 t3 t4 t5
 have hT:=hY.lk.turn0 (hY.lk.raw.set0 k 1 ⟨f.cl k,2,f.nd k,f.ahd k,f.of k,f.wv k⟩ (λq hq=>by rw [HE.out.2.2.1] at hq;rw [show f.ab k=⟨f.cl k,2,f.nd k,f.ahd k,f.of k,f.wv k⟩ from by unfold FL.ab;rw [HE.out.2.2.2]] at hq;exact hq))
 have hA:=Fr.call HE.out.1 hY hT (lf_nil (Wr.refl _ _))
 obtain ⟨v0,v1,v2,v3⟩:=hA.cell
 obtain ⟨x0,x1,x2,x3⟩:=hA.frz
 have HA:=Lib.hid hA
 clear hA hT hY
 go_wp2_with (go_at_call 263;with_reducible refine (cW _).mono ?_;rintro e w' ⟨rfl,rfl⟩)
 refine bodyPost_ret (v:=Dd.val ⟨0,false,false,false⟩) (results_cell_row rfl _ _ w.heap.size 228 _ (0,0) _ rfl (set4 HA.out.res rfl _ _ _ _) underlying228 rfl i_did) rfl (HA.out.told HE.out.1 ⟨0,false,false,false⟩)
theorem fl_fol4 {w:World} {L:Lp} {f:FL} {σ:Nat→Int} (h:LkM w L f σ) (k:Nat) (hk:k<f.s.n) (hs:σ k=1) (hpc:f.pc k=2) (v:Int) (hv:0≤v∧v<4294967296) (hx:wCl v=f.cl k) (hy:wSp v=0) (hz:wWt v=0):
  Calls prog 262 #[.pointer (some ⟨L.tb,k*6,none⟩),.int .u32 v] w (LmPost w L (f.put k ⟨f.cl k,0,f.nd k,f.ahd k,f.of k,f.wv k⟩) (upd σ k 2) (Dd.val ⟨1,false,false,false⟩)):=by
 have hF:=Fr.start h
 obtain ⟨Z,hZ⟩:∃ Z,Z=w.alloc (.cells #[.int .i64 0,.bool false,.bool false,.bool false] 228):=⟨_,rfl⟩
 rw [←hZ] at hF
 obtain ⟨p,hp,t0,t1,t2,t3,t4,t5⟩:=hF.lk.place6 hk
 have cC:=pk_cl v hv
 have b0:(wCl v != f.cl k)=false:=by rw [hx];simp
 have cS:=pk_sp v hv false (by rw [hy];rfl)
 have cW:=pk_wt v hv false (by rw [hz];rfl)
 clear hx hy hz
 have HE:=Lib.hid (And.intro h (And.intro hF (And.intro hs hpc)))
 clear h hF hp hs hpc
 go_enter func262,ntmps262
 go_wp2
 rw [←hZ]
 clear hZ
 go_big_quiet (first|(go_at_call 267;with_reducible exact Calls.quiet_of_same (cC _))|(go_at_call 268;with_reducible exact Calls.quiet_of_same (cS _)))
 generalize hX:Z.drewN _=X
 have hY:=HE.out.2.1.after (by rw [←hX];exact (Wr.refl Nil Z).drewN _:Wr Nil Z X)
 clear hX t0 t1 t2 t3 t4 t5
 have cH:=fl_has hY.lk k hk HE.out.2.2.1 (by have:=HE.out.2.2.2;omega) ⟨1,false,false,false⟩
 dsimp only [Dd.val] at cH
 have HY:=Lib.hid hY
 clear hY
 go_wp2_with (first
  |(go_at_call 263;with_reducible refine (cW _).mono ?_;rintro e w' ⟨rfl,rfl⟩)
  |(go_at_call 264;(with_reducible refine cH.mono ?_);intro e w3 hq;unfold LmPost at hq;obtain ⟨rfl,hB,hW2⟩:=hq;have hB3:=Fr.call HE.out.1 HY.out hB hW2;obtain ⟨v0,v1,v2,v3⟩:=hB3.cell;obtain ⟨x0,x1,x2,x3⟩:=hB3.frz;have HT:=Lib.hid hB3;clear hB hB3 hW2))
 refine bodyPost_ret (v:=Dd.val ⟨1,false,false,false⟩) (results_cell_row rfl _ _ w.heap.size 228 _ (0,0) _ rfl (set4 HT.out.res rfl _ _ _ _) underlying228 rfl i_did) rfl (HT.out.told HE.out.1 ⟨1,false,false,false⟩)
theorem fl_follow {w:World} {L:Lp} {f:FL} {σ:Nat→Int} (h:LkM w L f σ) (k:Nat) (hk:k<f.s.n) (hs:σ k=1) (hpc:f.pc k=2) (v:Int) (hv:0≤v∧v<4294967296):
  Calls prog 262 #[.pointer (some ⟨L.tb,k*6,none⟩),.int .u32 v] w (LmPost w L (f.put k ⟨f.cl k,if wCl v=f.cl k∧wSp v=0 then (if wWt v=0 then 0 else 2) else 3,f.nd k,f.ahd k,f.of k,f.wv k⟩)
   (upd σ k (finS 1 (if (wCl v=f.cl k∧wSp v=0)∧wWt v=0 then (⟨1,false,false,false⟩:Dd) else Dd.no).ev)) (Dd.val (if (wCl v=f.cl k∧wSp v=0)∧wWt v=0 then ⟨1,false,false,false⟩ else Dd.no))):=by
 by_cases hx:wCl v=f.cl k
 ·by_cases hy:wSp v=0
  ·by_cases hz:wWt v=0
   ·rw [if_pos ⟨hx,hy⟩,if_pos hz,if_pos ⟨⟨hx,hy⟩,hz⟩];exact fl_fol4 h k hk hs hpc v hv hx hy hz
   ·rw [if_pos ⟨hx,hy⟩,if_neg hz,if_neg (λq=>hz q.2)];exact fl_fol3 h k hk hs hpc v hv hx hy hz
  ·rw [if_neg (λq=>hy q.2),if_neg (λq=>hy q.1.2)];exact fl_fol2 h k hk hs hpc v hv hx hy
 ·rw [if_neg (λq=>hx q.1),if_neg (λq=>hx q.1.1)];exact fl_fol1 h k hk hs hpc v hv hx
end Go.Proofs.YtcikfcplagelaaaGreat.Kh
