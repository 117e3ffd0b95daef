
import Derived.Test.YtmnephejhkfchaaGreatBuVia
import Derived.Test.YtmnephejhkfchaaGreatPack
namespace Go.Proofs.YtmnephejhkfchaaGreat.Kh
open _root_.Go.Proofs.Tryz
open Go.RowKit
set_option linter.unusedVariables false
set_option maxRecDepth 100000
def _root_.Go.Proofs.YtmnephejhkfchaaGreat.SS.UL (s:SS):Prop:=s.Af=false/\∀ k,s.st k≠4
def _root_.Go.Proofs.YtmnephejhkfchaaGreat.SS.fC (s s':SS):Prop:=s'.n=s.n/\(s.UL->s'.UL/\∀ k,s'.st k=s.st k\/(s.st k=0/\s'.st k=1)\/(s.st k=2/\s'.st k=3))
theorem _root_.Go.Proofs.YtmnephejhkfchaaGreat.SS.Ll {s:SS} (h:s.UL) (k:Nat) (x d:Int) (hx:x≠4):(s.set k x d).UL:=zz4x
theorem _root_.Go.Proofs.YtmnephejhkfchaaGreat.SS.PR (s:SS) (k:Nat) (x d:Int):(s.set k x d).st=upd s.st k x:=rfl
theorem _root_.Go.Proofs.YtmnephejhkfchaaGreat.SS.Vh (s:SS) (t d:Int):s.fC (s.lock t d):=by
 refine ⟨s.Bz t d,λh=> ?_⟩;unfold SS.lock;split
 ·rename_i hE
  unfold BZ at hE;split at hE
  ·rename_i hq
   split at hE
   ·rename_i h0
    refine ⟨SS.Ll h _ _ _ (by decide),λj=> ?_⟩;rw [SS.PR];exact zz5c
   ·exact zz4c
  ·exact zz4c
 ·exact ⟨h,λ_=> .inl rfl⟩
theorem _root_.Go.Proofs.YtmnephejhkfchaaGreat.SS.Wd (s:SS) (t x:Int) (hx:x=3):s.fC (s.turn t x):=by
 subst hx;refine ⟨s.Bu t 3,λh=> ?_⟩;unfold SS.turn;split
 ·rename_i hE
  unfold BR at hE;split at hE
  ·split at hE
   ·exact zz4c
   ·split at hE
    ·rename_i h2
     refine ⟨SS.Ll h _ _ _ (by decide),λj=> ?_⟩;rw [SS.PR];exact zz5d
    ·exact zz4c
  ·exact zz4c
 ·exact ⟨h,λ_=> .inl rfl⟩
theorem _root_.Go.Proofs.YtmnephejhkfchaaGreat.SS.Ik {s:SS} (h:s.UL) (t ev:Int):(s.fin t ev).UL:=by
 unfold SS.fin;split
 ·rename_i y e
  refine SS.Ll h _ _ _ ?_;exact zz4i
 ·exact h
def Ai (x ev:Int):Int:=(AH x ev).getD x
theorem _root_.Go.Proofs.YtmnephejhkfchaaGreat.SS.Ol (s:SS) (k:Nat) (hk:k<s.n) (ev:Int):(s.fin k ev).st=upd s.st k (Ai (s.st k) ev):=zz3g
theorem _root_.Go.Proofs.YtmnephejhkfchaaGreat.SS.MI (s:SS) (t:Int):(s.fin t 0).st=s.st:=zz3w
structure Pc where
 cl:Int
 nd:Int
 ah:Int
 st:Int
 la:Int
 wa:Int
def Pc.cells (p:Pc):List Value:=[.int .i64 p.cl,.int .u32 p.nd,.int .u32 p.ah,.int .i64 p.st,.int .u32 p.la,.int .u32 p.wa]
def Ct (G:Nat->Pc) (t:Nat):List Value:=(G t).cells
theorem Ah (G:Nat->Pc):∀ x,(Ct G x).length=6:=λ_=>rfl
def BS (n:Nat) (G:Nat->Pc):List Value:=(List.range n).flatMap (Ct G)
theorem BB (n:Nat) (G:Nat->Pc) {k:Nat} (hk:k<n) {j:Nat} (hj:j<6):(BS n G)[k*6+j]? =(G k).cells[j]? :=Cb (Ah G) _ (by rw [List.getElem?_range hk]) hj
theorem D3 {n i t:Nat} (ht:(List.range n)[i]? =some t):i<n/\t=i:=zz7e
theorem BD (n:Nat) (G:Nat->Pc) (k j:Nat) (v:Value) (p:Pc) (hj:j<6) (hp:p.cells=(G k).cells.set j v):(BS n G).set (k*6+j) v=BS n (upd G k p):=by
 refine Bi (Ah G) (Ah _) _ k j hj _ λi t ht l hl=> ?_;obtain ⟨_,rfl⟩:=D3 ht;unfold Ct;by_cases e:t=k
 ·subst e
  rw [upd_same,hp,List.getElem?_set];have hlen:(G t).cells.length=6:=rfl;by_cases el:l=j
  ·subst el;simp [hlen,hj]
  ·simp [el,Ne.symm el]
 ·simp [A0 _ _ e,e]
theorem IB {α:Type} (f:Nat->α) (k j:Nat):f j=upd f k (f k) j:=zz5l
theorem AA {α:Type} (g:Nat->α) (k:Nat) {x:α} (h:x=g k):upd g k x=g:=by subst h;exact funext λj=>(IB g k j).symm
theorem BF {α:Type} (g:Nat->α) (k:Nat) (x y:α):upd (upd g k x) k y=upd g k y:=zz5t
structure Ab where
 cl:Int
 pc:Int
 nd:Int
 AL:Int
 of:Int
 wv:Int
def FL.ab (f:FL) (k:Nat):Ab:=⟨f.cl k,f.pc k,f.nd k,f.AL k,f.of k,f.wv k⟩
def FL.put (f:FL) (k:Nat) (a:Ab):FL:={f with cl:=upd f.cl k a.cl,pc:=upd f.pc k a.pc,nd:=upd f.nd k a.nd,AL:=upd f.AL k a.AL,of:=upd f.of k a.of,wv:=upd f.wv k a.wv}
theorem FL.NF (f:FL) (k:Nat) (a:Ab):(f.put k a).ab=upd f.ab k a:=by
 funext j
 unfold FL.ab FL.put;by_cases e:j=k
 ·subst e;simp only [upd_same]
 ·simp only [A0 _ _ e]
structure BJ (x:Int) (a:Ab) (p:Pc):Prop where
 cl:p.cl=a.cl/\0<=a.cl/\a.cl<=7
 nd:p.nd=a.nd/\0<=a.nd/\a.nd<4294967296
 st:p.st=a.pc/\0<=a.pc/\a.pc<=7
 OV:0<=a.AL/\a.AL<4294967296
 Ql:0<=a.of/\a.of<4294967296
 RZ:0<=a.wv/\a.wv<4294967296
 Rj:x=1->2<=a.pc->p.ah=a.AL
 ZM:x=2\/x=3->p.ah=a.AL
 Vc:x=1->4<=a.pc->p.la=a.of
 kz:x=1->a.pc=6->p.wa=a.wv
 eU:x=3->a.pc=1->p.wa=a.wv
 idle:x≠1->x≠3->a.pc=0
 rel:x=3->a.pc<=1
 pa:0<=p.ah/\p.ah<4294967296
 pl:0<=p.la/\p.la<4294967296
 pw:0<=p.wa/\p.wa<4294967296
theorem BJ.turn {x y:Int} {a:Ab} {p:Pc} (h:BJ x a p) (hy:y=x\/(x=0/\y=1)\/(x=2/\y=3)):BJ y a p:=by
 rcases hy with rfl|⟨rfl,rfl⟩|⟨rfl,rfl⟩
 ·exact h
 ·have e:=h.idle (by decide) (by decide)
  exact ⟨h.cl,h.nd,h.st,h.OV,h.Ql,h.RZ,λ_ q=>by omega,λq=>by omega,λ_ q=>by omega,λ_ q=>by omega,λq=>by omega,λq=>by omega,λq=>by omega,h.pa,h.pl,h.pw⟩
 ·have e:=h.idle (by decide) (by decide)
  exact ⟨h.cl,h.nd,h.st,h.OV,h.Ql,h.RZ,λq=>by omega,λ_=>h.ZM (.inl rfl),λq=>by omega,λq=>by omega,λ_ q=>by omega,λ_ q=>by omega,λ_=>by omega,h.pa,h.pl,h.pw⟩
structure FlRaw (w:World) (L:Lp) (pv:Value) (s:SS) (σ:Nat->Int) (A:Nat->Ab):Prop where
 obj:w.heap[L.lb]? =some (.cells #[.pointer (some ⟨L.p,0,none⟩),pv,.int .i64 L.a1,.slice (some ⟨L.tb,0,none⟩) s.n s.n] 137 (0,0))
 seat:SeatAt w L.p L.b s
 tick:∃ G:Nat->Pc,w.heap[L.tb]? =some (.cells (BS s.n G).toArray 170 (0,0))/\∀ k,k<s.n->BJ (σ k) (A k) (G k)
 np:s.UL
 ne:L.lb≠L.b/\L.lb≠L.tb/\L.p≠L.tb/\L.b≠L.tb/\L.lb≠L.p
 CM:0<=L.a1/\L.a1<=2000000/\L.a2=L.a1+1
namespace FlRaw
variable {w w':World} {L:Lp} {pv:Value} {s:SS} {σ:Nat->Int} {A:Nat->Ab}
theorem wrote {S:Nat->Prop} (h:FlRaw w L pv s σ A) (k:Wr S w w') (h1:¬ S L.lb) (h2:¬ S L.p) (h3:¬ S L.b) (h4:¬ S L.tb):FlRaw w' L pv s σ A:=by
 obtain ⟨G,g1,g2⟩:=h.tick;exact ⟨(k.block _ (A2 h.obj) h1).trans h.obj,h.seat.wrote k h2 h3,⟨G,(k.block _ (A2 g1) h4).trans g1,g2⟩,h.np,h.ne,h.CM⟩
theorem after (h:FlRaw w L pv s σ A) (k:Wr Nil w w'):FlRaw w' L pv s σ A:=h.wrote k id id id id
theorem iG (h:FlRaw w L pv s σ A):L.lb<w.heap.size:=A2 h.obj
theorem Z9 (h:FlRaw w L pv s σ A):L.tb<w.heap.size:=by obtain ⟨G,g1,_⟩:=h.tick;exact A2 g1
theorem Ja {s':SS} (h:FlRaw w L pv s σ A) (hS:SeatAt w' L.p L.b s') (hn:s'.n=s.n) (hp:s'.UL) (k:Wr (One L.b) w w'):FlRaw w' L pv s' σ A:=by
 obtain ⟨G,g1,g2⟩:=h.tick;refine ⟨?_,hS,⟨G,?_,λk hk=>g2 k (by omega)⟩,hp,h.ne,h.CM⟩
 ·exact zz3o
 ·exact zz6q
theorem cell0 (h:FlRaw w L pv s σ A):w.cell? ⟨L.lb,0,none⟩=some (.pointer (some ⟨L.p,0,none⟩)):=by rw [A1 h.obj];rfl
theorem cell1 (h:FlRaw w L pv s σ A):w.cell? ⟨L.lb,1,none⟩=some pv:=by rw [A1 h.obj];rfl
theorem AY (h:FlRaw w L pv s σ A):w.cell? ⟨L.lb,2,none⟩=some (.int .i64 L.a1):=by rw [A1 h.obj];rfl
theorem AV (h:FlRaw w L pv s σ A):w.cell? ⟨L.lb,3,none⟩=some (.slice (some ⟨L.tb,0,none⟩) s.n s.n):=by rw [A1 h.obj];rfl
theorem frozen (h:FlRaw w L pv s σ A) (k:Nat):w.frozen? ⟨L.lb,k,none⟩=false:=A4 h.obj k
theorem Ay (h:FlRaw w L pv s σ A) {k:Nat} (hk:k<s.n):∃ p:Pc,BJ (σ k) (A k) p/\w.cell? ⟨L.tb,k*6,none⟩=some (.int .i64 (A k).cl)/\w.cell? ⟨L.tb,k*6+1,none⟩=some (.int .u32 (A k).nd)/\
  w.cell? ⟨L.tb,k*6+2,none⟩=some (.int .u32 p.ah)/\w.cell? ⟨L.tb,k*6+3,none⟩=some (.int .i64 (A k).pc)/\w.cell? ⟨L.tb,k*6+4,none⟩=some (.int .u32 p.la)/\w.cell? ⟨L.tb,k*6+5,none⟩=some (.int .u32 p.wa):=by
 obtain ⟨G,g1,g2⟩:=h.tick;have g2:=g2 k hk;refine ⟨G k,g2,?_,?_,?_,?_,?_,?_⟩
 ·rw [A1 g1,List.getElem?_toArray,<-g2.cl.1];exact BB s.n G hk (j:=0) (by decide)
 ·rw [A1 g1,List.getElem?_toArray,<-g2.nd.1];exact BB s.n G hk (j:=1) (by decide)
 ·exact zz6p
 ·rw [A1 g1,List.getElem?_toArray,<-g2.st.1];exact BB s.n G hk (j:=3) (by decide)
 ·rw [A1 g1,List.getElem?_toArray];exact BB s.n G hk (j:=4) (by decide)
 ·rw [A1 g1,List.getElem?_toArray];exact BB s.n G hk (j:=5) (by decide)
theorem BO (h:FlRaw w L pv s σ A) (k:Nat):w.frozen? ⟨L.tb,k,none⟩=false:=by obtain ⟨G,g1,_⟩:=h.tick;exact A4 g1 k
theorem bO (h:FlRaw w L pv s σ A) {k:Nat} (hk:k<s.n):∃ p:Pc,BJ (σ k) (A k) p:=by obtain ⟨G,g1,g2⟩:=h.tick;exact ⟨G k,g2 k hk⟩
theorem Ie (h:FlRaw w L pv s σ A) {G:Nat->Pc} (hG:w'.heap[L.tb]? =some (.cells (BS s.n G).toArray 170 (0,0))) (hW:Wr (One L.tb) w w')
  {σ':Nat->Int} {A':Nat->Ab} (hI:∀ j,j<s.n->BJ (σ' j) (A' j) (G j)):FlRaw w' L pv s σ' A':=
 ⟨(hW.block _ (A2 h.obj) h.ne.2.1).trans h.obj,h.seat.wrote hW h.ne.2.2.1 h.ne.2.2.2.1,⟨G,hG,hI⟩,h.np,h.ne,h.CM⟩
theorem D8 {n:Nat} {G:Nat->Pc} (hI:∀ j,j<n->BJ (σ j) (A j) (G j)) (k:Nat) {v:Int} {a:Ab} {p:Pc} (hp:BJ (σ k) (A k) (G k)->BJ v a p):∀ j,j<n->BJ (upd σ k v j) (upd A k a j) (upd G k p j):=λj hj=>by
 by_cases e:j=k
 ·subst e;rw [upd_same,upd_same,upd_same];exact hp (hI j hj)
 ·rw [A0 _ _ e,A0 _ _ e,A0 _ _ e];exact hI j hj
theorem I6 (h:FlRaw w L pv s σ A) (k:Nat) (v:Int) (a:Ab) (hp:∀ p,BJ (σ k) (A k) p->BJ v a p):FlRaw w L pv s (upd σ k v) (upd A k a):=by
 obtain ⟨G,g1,g2⟩:=h.tick;exact h.Ie (G:=upd G k (G k)) (by rw [AA G k rfl];exact g1) (Wr.refl _ w) (D8 g2 k (hp _))
theorem Du (h:FlRaw w L pv s σ A) (k:Nat) (v:Int) (a:Ab) (c:Int) (hp:∀ p,BJ (σ k) (A k) p->BJ v a {p with st:=c}):
  FlRaw (w.setCell ⟨L.tb,k*6+3,none⟩ (.int .i64 c)) L pv s (upd σ k v) (upd A k a)/\Wr (One L.tb) w (w.setCell ⟨L.tb,k*6+3,none⟩ (.int .i64 c)):=by
 obtain ⟨G,g1,g2⟩:=h.tick;have hW:Wr (One L.tb) w (w.setCell ⟨L.tb,k*6+3,none⟩ (.int .i64 c)):=(Wr.refl (One L.tb) w).setCell ⟨L.tb,k*6+3,none⟩ (.int .i64 c) λ_=>rfl;refine ⟨h.Ie (G:=upd G k {G k with st:=c}) ?_ hW (D8 g2 k (hp _)),hW⟩;rw [A3 g1 _ _,List.setIfInBounds_toArray];have e0:(BS s.n G).set (k*6+3) (.int .i64 c)=BS s.n (upd G k {G k with st:=c}):=BD s.n G k 3 _ _ (by decide) rfl;rw [e0]
theorem ck (h:FlRaw w L pv s σ A) (k:Nat) (v:Int) (a:Ab) (b c:Int) (hp:∀ p,BJ (σ k) (A k) p->BJ v a {p with ah:=b,st:=c}):
  FlRaw ((w.setCell ⟨L.tb,k*6+2,none⟩ (.int .u32 b)).setCell ⟨L.tb,k*6+3,none⟩ (.int .i64 c)) L pv s (upd σ k v) (upd A k a)/\Wr (One L.tb) w ((w.setCell ⟨L.tb,k*6+2,none⟩ (.int .u32 b)).setCell ⟨L.tb,k*6+3,none⟩ (.int .i64 c)):=by
 obtain ⟨G,g1,g2⟩:=h.tick;have hW:Wr (One L.tb) w ((w.setCell ⟨L.tb,k*6+2,none⟩ (.int .u32 b)).setCell ⟨L.tb,k*6+3,none⟩ (.int .i64 c)):=((Wr.refl (One L.tb) w).setCell ⟨L.tb,k*6+2,none⟩ (.int .u32 b) λ_=>rfl).setCell ⟨L.tb,k*6+3,none⟩ (.int .i64 c) λ_=>rfl;refine ⟨h.Ie (G:=upd G k {G k with ah:=b,st:=c}) ?_ hW (D8 g2 k (hp _)),hW⟩;rw [A3 (A3 g1 _ _) _ _,List.setIfInBounds_toArray,List.setIfInBounds_toArray];have e0:(BS s.n G).set (k*6+2) (.int .u32 b)=BS s.n (upd G k {G k with ah:=b}):=BD s.n G k 2 _ _ (by decide) rfl;have e1:(BS s.n (upd G k {G k with ah:=b})).set (k*6+3) (.int .i64 c)=BS s.n (upd G k {G k with ah:=b,st:=c}):=by rw [BD s.n (upd G k {G k with ah:=b}) k 3 _ {G k with ah:=b,st:=c} (by decide) (by rw [upd_same];rfl),BF]
 rw [e0,e1]
theorem j_ (h:FlRaw w L pv s σ A) (k:Nat) (v:Int) (a:Ab) (b c:Int) (hp:∀ p,BJ (σ k) (A k) p->BJ v a {p with la:=b,st:=c}):
  FlRaw ((w.setCell ⟨L.tb,k*6+4,none⟩ (.int .u32 b)).setCell ⟨L.tb,k*6+3,none⟩ (.int .i64 c)) L pv s (upd σ k v) (upd A k a)/\Wr (One L.tb) w ((w.setCell ⟨L.tb,k*6+4,none⟩ (.int .u32 b)).setCell ⟨L.tb,k*6+3,none⟩ (.int .i64 c)):=by
 obtain ⟨G,g1,g2⟩:=h.tick;have hW:Wr (One L.tb) w ((w.setCell ⟨L.tb,k*6+4,none⟩ (.int .u32 b)).setCell ⟨L.tb,k*6+3,none⟩ (.int .i64 c)):=((Wr.refl (One L.tb) w).setCell ⟨L.tb,k*6+4,none⟩ (.int .u32 b) λ_=>rfl).setCell ⟨L.tb,k*6+3,none⟩ (.int .i64 c) λ_=>rfl;refine ⟨h.Ie (G:=upd G k {G k with la:=b,st:=c}) ?_ hW (D8 g2 k (hp _)),hW⟩;rw [A3 (A3 g1 _ _) _ _,List.setIfInBounds_toArray,List.setIfInBounds_toArray];have e0:(BS s.n G).set (k*6+4) (.int .u32 b)=BS s.n (upd G k {G k with la:=b}):=BD s.n G k 4 _ _ (by decide) rfl;have e1:(BS s.n (upd G k {G k with la:=b})).set (k*6+3) (.int .i64 c)=BS s.n (upd G k {G k with la:=b,st:=c}):=by rw [BD s.n (upd G k {G k with la:=b}) k 3 _ {G k with la:=b,st:=c} (by decide) (by rw [upd_same];rfl),BF]
 rw [e0,e1]
theorem cy (h:FlRaw w L pv s σ A) (k:Nat) (v:Int) (a:Ab) (b c:Int) (hp:∀ p,BJ (σ k) (A k) p->BJ v a {p with wa:=b,st:=c}):
  FlRaw ((w.setCell ⟨L.tb,k*6+5,none⟩ (.int .u32 b)).setCell ⟨L.tb,k*6+3,none⟩ (.int .i64 c)) L pv s (upd σ k v) (upd A k a)/\Wr (One L.tb) w ((w.setCell ⟨L.tb,k*6+5,none⟩ (.int .u32 b)).setCell ⟨L.tb,k*6+3,none⟩ (.int .i64 c)):=by
 obtain ⟨G,g1,g2⟩:=h.tick;have hW:Wr (One L.tb) w ((w.setCell ⟨L.tb,k*6+5,none⟩ (.int .u32 b)).setCell ⟨L.tb,k*6+3,none⟩ (.int .i64 c)):=((Wr.refl (One L.tb) w).setCell ⟨L.tb,k*6+5,none⟩ (.int .u32 b) λ_=>rfl).setCell ⟨L.tb,k*6+3,none⟩ (.int .i64 c) λ_=>rfl;refine ⟨h.Ie (G:=upd G k {G k with wa:=b,st:=c}) ?_ hW (D8 g2 k (hp _)),hW⟩;rw [A3 (A3 g1 _ _) _ _,List.setIfInBounds_toArray,List.setIfInBounds_toArray];have e0:(BS s.n G).set (k*6+5) (.int .u32 b)=BS s.n (upd G k {G k with wa:=b}):=BD s.n G k 5 _ _ (by decide) rfl;have e1:(BS s.n (upd G k {G k with wa:=b})).set (k*6+3) (.int .i64 c)=BS s.n (upd G k {G k with wa:=b,st:=c}):=by rw [BD s.n (upd G k {G k with wa:=b}) k 3 _ {G k with wa:=b,st:=c} (by decide) (by rw [upd_same];rfl),BF]
 rw [e0,e1]
theorem iy (h:FlRaw w L pv s σ A) (k:Nat) (v:Int) (a:Ab) (b c d:Int) (hp:∀ p,BJ (σ k) (A k) p->BJ v a {p with ah:=b,st:=d}):
  FlRaw (((w.setCell ⟨L.tb,k*6+2,none⟩ (.int .u32 b)).setCell ⟨L.tb,k*6+3,none⟩ (.int .i64 c)).setCell ⟨L.tb,k*6+3,none⟩ (.int .i64 d)) L pv s (upd σ k v) (upd A k a)/\Wr (One L.tb) w (((w.setCell ⟨L.tb,k*6+2,none⟩ (.int .u32 b)).setCell ⟨L.tb,k*6+3,none⟩ (.int .i64 c)).setCell ⟨L.tb,k*6+3,none⟩ (.int .i64 d)):=by
 obtain ⟨G,g1,g2⟩:=h.tick;have hW:Wr (One L.tb) w (((w.setCell ⟨L.tb,k*6+2,none⟩ (.int .u32 b)).setCell ⟨L.tb,k*6+3,none⟩ (.int .i64 c)).setCell ⟨L.tb,k*6+3,none⟩ (.int .i64 d)):=(((Wr.refl (One L.tb) w).setCell ⟨L.tb,k*6+2,none⟩ (.int .u32 b) λ_=>rfl).setCell ⟨L.tb,k*6+3,none⟩ (.int .i64 c) λ_=>rfl).setCell ⟨L.tb,k*6+3,none⟩ (.int .i64 d) λ_=>rfl;refine ⟨h.Ie (G:=upd G k {G k with ah:=b,st:=d}) ?_ hW (D8 g2 k (hp _)),hW⟩;rw [A3 (A3 (A3 g1 _ _) _ _) _ _,List.setIfInBounds_toArray,List.setIfInBounds_toArray,List.setIfInBounds_toArray];have e0:(BS s.n G).set (k*6+2) (.int .u32 b)=BS s.n (upd G k {G k with ah:=b}):=BD s.n G k 2 _ _ (by decide) rfl;have e1:(BS s.n (upd G k {G k with ah:=b})).set (k*6+3) (.int .i64 c)=BS s.n (upd G k {G k with ah:=b,st:=c}):=by rw [BD s.n (upd G k {G k with ah:=b}) k 3 _ {G k with ah:=b,st:=c} (by decide) (by rw [upd_same];rfl),BF]
 have e2:(BS s.n (upd G k {G k with ah:=b,st:=c})).set (k*6+3) (.int .i64 d)=BS s.n (upd G k {G k with ah:=b,st:=d}):=by rw [BD s.n (upd G k {G k with ah:=b,st:=c}) k 3 _ {G k with ah:=b,st:=d} (by decide) (by rw [upd_same];rfl),BF]
 rw [e0,e1,e2]
theorem cg (h:FlRaw w L pv s σ A) (k:Nat) (v:Int) (a:Ab) (c0 c1 c2 c3 c4 c5:Int) (hp:∀ p,BJ (σ k) (A k) p->BJ v a {p with cl:=c0,nd:=c1,ah:=c2,st:=c3,la:=c4,wa:=c5}):
  FlRaw ((((((w.setCell ⟨L.tb,k*6,none⟩ (.int .i64 c0)).setCell ⟨L.tb,k*6+1,none⟩ (.int .u32 c1)).setCell ⟨L.tb,k*6+2,none⟩ (.int .u32 c2)).setCell ⟨L.tb,k*6+3,none⟩ (.int .i64 c3)).setCell ⟨L.tb,k*6+4,none⟩ (.int .u32 c4)).setCell ⟨L.tb,k*6+5,none⟩ (.int .u32 c5)) L pv s (upd σ k v) (upd A k a)/\Wr (One L.tb) w ((((((w.setCell ⟨L.tb,k*6,none⟩ (.int .i64 c0)).setCell ⟨L.tb,k*6+1,none⟩ (.int .u32 c1)).setCell ⟨L.tb,k*6+2,none⟩ (.int .u32 c2)).setCell ⟨L.tb,k*6+3,none⟩ (.int .i64 c3)).setCell ⟨L.tb,k*6+4,none⟩ (.int .u32 c4)).setCell ⟨L.tb,k*6+5,none⟩ (.int .u32 c5)):=by
 obtain ⟨G,g1,g2⟩:=h.tick;have hW:Wr (One L.tb) w ((((((w.setCell ⟨L.tb,k*6,none⟩ (.int .i64 c0)).setCell ⟨L.tb,k*6+1,none⟩ (.int .u32 c1)).setCell ⟨L.tb,k*6+2,none⟩ (.int .u32 c2)).setCell ⟨L.tb,k*6+3,none⟩ (.int .i64 c3)).setCell ⟨L.tb,k*6+4,none⟩ (.int .u32 c4)).setCell ⟨L.tb,k*6+5,none⟩ (.int .u32 c5)):=((((((Wr.refl (One L.tb) w).setCell ⟨L.tb,k*6,none⟩ (.int .i64 c0) λ_=>rfl).setCell ⟨L.tb,k*6+1,none⟩ (.int .u32 c1) λ_=>rfl).setCell ⟨L.tb,k*6+2,none⟩ (.int .u32 c2) λ_=>rfl).setCell ⟨L.tb,k*6+3,none⟩ (.int .i64 c3) λ_=>rfl).setCell ⟨L.tb,k*6+4,none⟩ (.int .u32 c4) λ_=>rfl).setCell ⟨L.tb,k*6+5,none⟩ (.int .u32 c5) λ_=>rfl;refine ⟨h.Ie (G:=upd G k {G k with cl:=c0,nd:=c1,ah:=c2,st:=c3,la:=c4,wa:=c5}) ?_ hW (D8 g2 k (hp _)),hW⟩;rw [A3 (A3 (A3 (A3 (A3 (A3 g1 _ _) _ _) _ _) _ _) _ _) _ _,List.setIfInBounds_toArray,List.setIfInBounds_toArray,List.setIfInBounds_toArray,List.setIfInBounds_toArray,List.setIfInBounds_toArray,List.setIfInBounds_toArray];have e0:(BS s.n G).set (k*6) (.int .i64 c0)=BS s.n (upd G k {G k with cl:=c0}):=BD s.n G k 0 _ _ (by decide) rfl;have e1:(BS s.n (upd G k {G k with cl:=c0})).set (k*6+1) (.int .u32 c1)=BS s.n (upd G k {G k with cl:=c0,nd:=c1}):=by rw [BD s.n (upd G k {G k with cl:=c0}) k 1 _ {G k with cl:=c0,nd:=c1} (by decide) (by rw [upd_same];rfl),BF]
 have e2:(BS s.n (upd G k {G k with cl:=c0,nd:=c1})).set (k*6+2) (.int .u32 c2)=BS s.n (upd G k {G k with cl:=c0,nd:=c1,ah:=c2}):=by rw [BD s.n (upd G k {G k with cl:=c0,nd:=c1}) k 2 _ {G k with cl:=c0,nd:=c1,ah:=c2} (by decide) (by rw [upd_same];rfl),BF]
 have e3:(BS s.n (upd G k {G k with cl:=c0,nd:=c1,ah:=c2})).set (k*6+3) (.int .i64 c3)=BS s.n (upd G k {G k with cl:=c0,nd:=c1,ah:=c2,st:=c3}):=by rw [BD s.n (upd G k {G k with cl:=c0,nd:=c1,ah:=c2}) k 3 _ {G k with cl:=c0,nd:=c1,ah:=c2,st:=c3} (by decide) (by rw [upd_same];rfl),BF]
 have e4:(BS s.n (upd G k {G k with cl:=c0,nd:=c1,ah:=c2,st:=c3})).set (k*6+4) (.int .u32 c4)=BS s.n (upd G k {G k with cl:=c0,nd:=c1,ah:=c2,st:=c3,la:=c4}):=by rw [BD s.n (upd G k {G k with cl:=c0,nd:=c1,ah:=c2,st:=c3}) k 4 _ {G k with cl:=c0,nd:=c1,ah:=c2,st:=c3,la:=c4} (by decide) (by rw [upd_same];rfl),BF]
 have e5:(BS s.n (upd G k {G k with cl:=c0,nd:=c1,ah:=c2,st:=c3,la:=c4})).set (k*6+5) (.int .u32 c5)=BS s.n (upd G k {G k with cl:=c0,nd:=c1,ah:=c2,st:=c3,la:=c4,wa:=c5}):=by rw [BD s.n (upd G k {G k with cl:=c0,nd:=c1,ah:=c2,st:=c3,la:=c4}) k 5 _ {G k with cl:=c0,nd:=c1,ah:=c2,st:=c3,la:=c4,wa:=c5} (by decide) (by rw [upd_same];rfl),BF]
 rw [e0,e1,e2,e3,e4,e5]
theorem beside (h:FlRaw w L pv s σ A) {i j:Nat} (e:i≠j) (v:Value):(w.setCell ⟨L.tb,i,none⟩ v).cell? ⟨L.tb,j,none⟩=w.cell? ⟨L.tb,j,none⟩:=by
 obtain ⟨G,g1,_⟩:=h.tick;rw [A1 (A3 g1 i v),A1 g1,Array.getElem?_setIfInBounds_ne e]
theorem Px (h:FlRaw w L pv s σ A) (i:Nat) (v:Value):(w.setCell ⟨L.tb,i,none⟩ v).cell? ⟨L.lb,1,none⟩=some pv:=zz48
theorem Xa (h:FlRaw w L pv s σ A) (i:Nat) (v:Value):(w.setCell ⟨L.tb,i,none⟩ v).cell? ⟨L.lb,2,none⟩=some (.int .i64 L.a1):=zz48
theorem use (h:FlRaw w L pv s σ A) (v:Value):FlRaw (w.setCell ⟨L.lb,1,none⟩ v) L v s σ A:=by
 have hW:Wr (One L.lb) w (w.setCell ⟨L.lb,1,none⟩ v):=(Wr.refl _ w).setCell _ _ λ_=>rfl;obtain ⟨G,g1,g2⟩:=h.tick;refine ⟨?_,h.seat.wrote hW (λe=>h.ne.2.2.2.2 e.symm) (λe=>h.ne.1 e.symm),⟨G,(hW.block _ (A2 g1) (λe=>h.ne.2.1 e.symm)).trans g1,g2⟩,h.np,h.ne,h.CM⟩;rw [A3 h.obj];rfl
theorem place (h:FlRaw w L pv s σ A) (q:Place) (hs:List Int):FlRaw w {L with q:=q,hs:=hs} pv s σ A:=⟨h.obj,h.seat,h.tick,h.np,h.ne,h.CM⟩
end FlRaw
abbrev Ey (w:World) (L:Lp) (pv:Value) (f:FL):Prop:=FlRaw w L pv f.s f.s.st f.ab
structure LkM (w:World) (L:Lp) (f:FL) (σ:Nat->Int):Prop where
 raw:FlRaw w L (.pointer (some ⟨L.q.p,0,none⟩)) f.s σ f.ab
 port:PortAt w L.q L.hs f.ps
 far:L.lb<L.q.k0/\L.p<L.q.k0/\L.b<L.q.k0/\L.tb<L.q.k0
 top:L.q.k3<=w.heap.size
abbrev LkAt (w:World) (L:Lp) (f:FL):Prop:=LkM w L f f.s.st
def LF (L:Lp) (k:Nat):Prop:=k=L.b\/k=L.tb\/Bk L.q.k0 L.q.k3 k
namespace LkM
variable {w w':World} {L:Lp} {f:FL} {σ:Nat->Int}
theorem wrote {S:Nat->Prop} (h:LkM w L f σ) (k:Wr S w w') (h5:∀ b,b<L.q.k3->¬ S b):LkM w' L f σ:=by
 have hf:=h.far;have hl:=h.port.place.le;exact ⟨h.raw.wrote k (h5 _ (by omega)) (h5 _ (by omega)) (h5 _ (by omega)) (h5 _ (by omega)),h.port.wrote k (λb _ b2=>h5 b b2),h.far,Nat.le_trans h.top k.size⟩
theorem after (h:LkM w L f σ) (k:Wr Nil w w'):LkM w' L f σ:=h.wrote k λ_ _=>id
theorem seats {s':SS} (h:LkAt w L f) (hS:SeatAt w' L.p L.b s') (hn:f.s.fC s') (k:Wr (One L.b) w w'):LkAt w' L {f with s:=s'}:=by
 have hr:=h.raw.Ja hS hn.1 (hn.2 h.raw.np).1 k;obtain ⟨G,g1,g2⟩:=hr.tick;exact ⟨⟨hr.obj,hr.seat,⟨G,g1,λj hj=>(g2 j hj).turn ((hn.2 h.raw.np).2 j)⟩,hr.np,hr.ne,hr.CM⟩,h.port.wrote k (λb b1 _ e=>by have:=h.far.2.2.1;cases e;omega),h.far,Nat.le_trans h.top k.size⟩
theorem ends {s':SS} (h:LkM w L f σ) (hS:SeatAt w' L.p L.b s') (hn:s'.n=f.s.n) (hp:s'.UL) (hs:σ=s'.st) (k:Wr (One L.b) w w'):LkAt w' L {f with s:=s'}:=zz4n
theorem Ac {ps':AK} (h:LkM w L f σ) (hP:PortAt w' L.q L.hs ps') (k:Wr (Bk L.q.k0 L.q.k3) w w'):LkM w' L {f with ps:=ps'} σ:=
 ⟨h.raw.wrote k (λe=>by have:=h.far.1;unfold Bk at e;omega) (λe=>by have:=h.far.2.1;unfold Bk at e;omega) (λe=>by have:=h.far.2.2.1;unfold Bk at e;omega) (λe=>by have:=h.far.2.2.2;unfold Bk at e;omega),hP,h.far,Nat.le_trans h.top k.size⟩
theorem turns (h:LkM w L f σ) {σ':Nat->Int} {k:Nat} {a:Ab} (g:FlRaw w' L (.pointer (some ⟨L.q.p,0,none⟩)) f.s σ' (upd f.ab k a)/\Wr (One L.tb) w w'):
  LkM w' L (f.put k a) σ'/\Wr (One L.tb) w w':=
 ⟨⟨by rw [FL.NF];exact g.1,h.port.wrote g.2 (λb b1 _ e=>by have:=h.far.2.2.2;cases e;omega),h.far,Nat.le_trans h.top g.2.size⟩,g.2⟩
theorem KV (h:LkM w L f σ) {σ':Nat->Int} {k:Nat} {a:Ab} (g:FlRaw w L (.pointer (some ⟨L.q.p,0,none⟩)) f.s σ' (upd f.ab k a)):LkM w L (f.put k a) σ':=⟨by rw [FL.NF];exact g,h.port,h.far,h.top⟩
theorem Ay (h:LkM w L f σ) {k:Nat} (hk:k<f.s.n):∃ p:Pc,BJ (σ k) (f.ab k) p/\w.cell? ⟨L.tb,k*6,none⟩=some (.int .i64 (f.cl k))/\w.cell? ⟨L.tb,k*6+1,none⟩=some (.int .u32 (f.nd k))/\
  w.cell? ⟨L.tb,k*6+2,none⟩=some (.int .u32 p.ah)/\w.cell? ⟨L.tb,k*6+3,none⟩=some (.int .i64 (f.pc k))/\w.cell? ⟨L.tb,k*6+4,none⟩=some (.int .u32 p.la)/\w.cell? ⟨L.tb,k*6+5,none⟩=some (.int .u32 p.wa):=h.raw.Ay hk
theorem wf (h:LkM w L f σ) (j:Int):0<=BK f.ps.ws j/\BK f.ps.ws j<4294967296:=h.port.mem.Ea j
theorem tell (h:LkM w L f σ) (t K a:Int):0<=A6 f.ps t K a/\A6 f.ps t K a<4294967296:=zz2c
theorem Cz (h:LkM w L f σ) {k:Nat} (hk:LF L k):k<w.heap.size:=zz5i
end LkM
def A_ (w:World) (L:Lp) (f:FL) (σ:Nat->Int) (v:Value) (e:Ending) (w':World):Prop:=e= .returned v/\LkM w' L f σ/\Wr (LF L) w w'
abbrev AP (w:World) (L:Lp) (f:FL) (v:Value) (e:Ending) (w':World):Prop:=A_ w L f f.s.st v e w'
theorem CH {w w':World} {L:Lp} (k:Wr (One L.b) w w'):Wr (LF L) w w':=k.mono λ_ _ e=> .inl e
theorem BH {w w':World} {L:Lp} (k:Wr (One L.tb) w w'):Wr (LF L) w w':=k.mono λ_ _ e=> .inr (.inl e)
theorem B_ {w w':World} {L:Lp} (k:Wr (Bk L.q.k0 L.q.k3) w w'):Wr (LF L) w w':=k.mono λ_ _ e=> .inr (.inr e)
theorem Hx {w w':World} {L:Lp} (k:Wr Nil w w'):Wr (LF L) w w':=k.mono λ_ _ e=>e.elim
def Eh (d:Dd):Array Value:= #[.int .i64 d.ev,.bool d.BW,.bool d.arr,.bool d.lead]
structure Fr (w:World) (B:Nat) (Y:World) (L:Lp) (f:FL) (σ:Nat->Int):Prop where
 lk:LkM Y L f σ
 wr:Wr (LF L) w Y
 res:Y.heap[B]? =some (.cells (Eh Dd.no) 102 (0,0))
 new:w.heap.size<=B
namespace Fr
variable {w X Y:World} {L:Lp} {f f':FL} {B:Nat} {σ σ':Nat->Int}
theorem start (h:LkM w L f σ):Fr w w.heap.size (w.alloc (.cells #[.int .i64 0,.bool false,.bool false,.bool false] 102)) L f σ:=
 ⟨h.after ((Wr.refl _ w).alloc _),(Wr.refl _ w).alloc _,Go.Deep.blk_alloc_new w _,Nat.le_refl _⟩
theorem after (h:Fr w B X L f σ) (k:Wr Nil X Y):Fr w B Y L f σ:=⟨h.lk.after k,h.wr.trans k λ_ _ e=>e.elim,(k.block _ (A2 h.res) id).trans h.res,h.new⟩
theorem drew (h:Fr w B X L f σ):Fr w B X.drew L f σ:=h.after ((Wr.refl _ X).drew)
theorem call {f0:FL} {σ0:Nat->Int} (h0:LkM w L f' σ') (h:Fr w B X L f σ) (hl:LkM Y L f0 σ0) (k:Wr (LF L) X Y):Fr w B Y L f0 σ0:=
 ⟨hl,h.wr.trans k λ_ _ e=>e,(k.block _ (A2 h.res) (λe=>by have:=h0.Cz e;have:=h.new;omega)).trans h.res,h.new⟩
theorem cell (h:Fr w B X L f σ):X.cell? ⟨B,0,none⟩=some (.int .i64 0)/\X.cell? ⟨B,1,none⟩=some (.bool false)/\X.cell? ⟨B,2,none⟩=some (.bool false)/\X.cell? ⟨B,3,none⟩=some (.bool false):=zz1z
theorem Am (h:Fr w B X L f σ):X.frozen? ⟨B,0,none⟩=false/\X.frozen? ⟨B,1,none⟩=false/\X.frozen? ⟨B,2,none⟩=false/\X.frozen? ⟨B,3,none⟩=false:=
 ⟨A4 h.res 0,A4 h.res 1,A4 h.res 2,A4 h.res 3⟩
end Fr
theorem AO {Y:World} {B:Nat} {t:TypeId} {cs:Array Value} (h:Y.heap[B]? =some (.cells cs t (0,0))) (h4:cs.size=4) (x0 x1 x2 x3:Value):
  ((((Y.setCell ⟨B,0,none⟩ x0).setCell ⟨B,1,none⟩ x1).setCell ⟨B,2,none⟩ x2).setCell ⟨B,3,none⟩ x3).heap[B]? =some (.cells #[x0,x1,x2,x3] t (0,0)):=zz1b
theorem C0 (Y:World) (B:Nat) (x0 x1 x2 x3:Value):Wr (One B) Y ((((Y.setCell ⟨B,0,none⟩ x0).setCell ⟨B,1,none⟩ x1).setCell ⟨B,2,none⟩ x2).setCell ⟨B,3,none⟩ x3):=
 ((((Wr.refl (One B) Y).setCell ⟨B,0,none⟩ x0 λ_=>rfl).setCell ⟨B,1,none⟩ x1 λ_=>rfl).setCell ⟨B,2,none⟩ x2 λ_=>rfl).setCell ⟨B,3,none⟩ x3 λ_=>rfl
theorem Fr.told {w Y:World} {L:Lp} {f f0:FL} {B:Nat} {σ σ0:Nat->Int} (h0:LkM w L f0 σ0) (h:Fr w B Y L f σ) (d:Dd):
  A_ w L f σ d.val (.returned d.val) ((((Y.setCell ⟨B,0,none⟩ (.int .i64 d.ev)).setCell ⟨B,1,none⟩ (.bool d.BW)).setCell ⟨B,2,none⟩ (.bool d.arr)).setCell ⟨B,3,none⟩ (.bool d.lead)):=zz18
theorem AB:(prog.info? 102).map (·.size)=some 4:=by kernel_rfl
set_option maxHeartbeats 8000000
open _root_.Go.Proofs.Tryz Go.Deep
open Go.RowKit Go.BigFrame
theorem Cu {w:World} {L:Lp} {pv:Value} {s:SS} {σ:Nat->Int} {A:Nat->Ab} (h:FlRaw w L pv s σ A) (a:Addr):
  Calls prog 194 #[.pointer (some ⟨L.lb,0,none⟩),.pointer (some a)] w λe w'=>e= .returned (.tuple #[])/\w'=w.setCell ⟨L.lb,1,none⟩ (.pointer (some a)):=zz1t
theorem DU {w:World} {L:Lp} {f:FL} {σ:Nat->Int} (h:LkM w L f σ) (c:Int) (hc:0<=c/\c<=7):
  Calls prog 199 #[.pointer (some ⟨L.lb,0,none⟩),.int .i64 c] w λe w'=>e= .returned (.int .i64 (L.cA c))/\w=w':=by
 have c2:=h.raw.AY;obtain ⟨a0,a1,a2⟩:=h.raw.CM;have w1:IntKind.i64.wrap (L.a1+1)=L.a1+1:=by rw [IntKind.wrap_i64];omega
 have w2:IntKind.i64.wrap (L.a1+1+c)=L.a1+1+c:=by rw [IntKind.wrap_i64];omega
 have e:L.cA c=L.a1+1+c:=by unfold Lp.cA;omega
 rw [e];clear h e;exact zzo
theorem E1 {w:World} {L:Lp} {f:FL} {σ:Nat->Int} (h:LkM w L f σ) (x:Int) (hx:0<=x/\x<4294967296):
  Calls prog 197 #[.pointer (some ⟨L.lb,0,none⟩),.int .u32 x] w λe w'=>e= .returned (.int .i64 (L.nA x))/\w=w':=by
 have c2:=h.raw.AY;obtain ⟨a0,a1,a2⟩:=h.raw.CM;have w0:IntKind.i64.wrap x=x:=by rw [IntKind.wrap_i64];omega
 have w1:IntKind.i64.wrap (L.a1+8)=L.a1+8:=by rw [IntKind.wrap_i64];omega
 have w2:IntKind.i64.wrap (L.a1+8+x)=L.a1+8+x:=by rw [IntKind.wrap_i64];omega
 have e:L.nA x=L.a1+8+x:=by unfold Lp.nA;omega
 rw [e];clear h e;exact zzo
theorem WI (c:Int) (hc:0<=c/\c<=7) (w:World):Calls prog 74 #[.int .i64 c,.bool true,.bool false] w λe w'=>e= .returned (.int .u32 (wd c 1 0))/\w=w':=by
 have:=Mg c true false w;rw [show N6 c true false=wd c 1 0 from by unfold N6 wd;rw [VV c (by omega) (by omega)];unfold WD;simp] at this;exact this
theorem KH (v:Int) (h0:0<=v) (h1:v<4294967296) (w:World):Calls prog 207 #[.int .u32 v] w λe w'=>e= .returned (.int .u32 (wd (Ca v) (Dh v) 1))/\w=w':=by
 have:=OB v h0 h1 w;rw [show Iw v=wd (Ca v) (Dh v) 1 from by unfold Iw wd Ca Dh;omega] at this;exact this
theorem PK (v:Int) (h0:0<=v) (h1:v<4294967296) (w:World):Calls prog 204 #[.int .u32 v] w λe w'=>e= .returned (.int .u32 (wd (Ca v) 0 (E7 v)))/\w=w':=by
 have:=Si v h0 h1 w;rw [show Om v=wd (Ca v) 0 (E7 v) from by unfold Om wd Ca E7;omega] at this;exact this
theorem Yk {c x y:Int} (hc:0<=c/\c<=1073741823) (hx:x=0\/x=1) (hy:y=0\/y=1):0<=wd c x y/\wd c x y<4294967296:=by unfold wd;omega
theorem dZ {v:Int} (h:0<=v/\v<4294967296):0<=wd (Ca v) (Dh v) 1/\wd (Ca v) (Dh v) 1<4294967296:=by unfold wd Ca Dh;omega
theorem dY {v:Int} (h:0<=v/\v<4294967296):0<=wd (Ca v) 0 (E7 v)/\wd (Ca v) 0 (E7 v)<4294967296:=by unfold wd Ca E7;omega
section
variable {a:Ab} {p:Pc}
theorem BJ.next {q:Int} (h:BJ 1 a p) (hq:0<=q/\q<=7) (h2:2<=q->2<=a.pc) (h4:4<=q->4<=a.pc) (h6:q≠6):BJ 1 ⟨a.cl,q,a.nd,a.AL,a.of,a.wv⟩ {p with st:=q}:=
 ⟨h.cl,h.nd,⟨rfl,hq⟩,h.OV,h.Ql,h.RZ,λ_ x=>h.Rj rfl (h2 x),λx=>by omega,λ_ x=>h.Vc rfl (h4 x),λ_ x=>absurd x h6,λx=>by omega,λx=>absurd rfl x,λx=>by omega,h.pa,h.pl,h.pw⟩
theorem BJ.ahead {q v:Int} (h:BJ 1 a p) (hv:0<=v/\v<4294967296) (hq:0<=q/\q<=7) (h4:4<=q->4<=a.pc) (h6:q≠6):BJ 1 ⟨a.cl,q,a.nd,v,a.of,a.wv⟩ {p with ah:=v,st:=q}:=
 ⟨h.cl,h.nd,⟨rfl,hq⟩,hv,h.Ql,h.RZ,λ_ _=>rfl,λx=>by omega,λ_ x=>h.Vc rfl (h4 x),λ_ x=>absurd x h6,λx=>by omega,λx=>absurd rfl x,λx=>by omega,hv,h.pl,h.pw⟩
theorem BJ.last {v:Int} (h:BJ 1 a p) (hv:0<=v/\v<4294967296) (h3:a.pc=3):BJ 1 ⟨a.cl,4,a.nd,a.AL,v,a.wv⟩ {p with la:=v,st:=4}:=
 ⟨h.cl,h.nd,⟨rfl,(by show (0:Int)<=4/\(4:Int)<=7;decide)⟩,h.OV,hv,h.RZ,λ_ _=>h.Rj rfl (by omega),λx=>by omega,λ_ _=>rfl,λ_ x=>absurd x (show ¬ (4:Int)=6 by decide),λx=>by omega,λx=>absurd rfl x,λx=>by omega,h.pa,hv,h.pw⟩
theorem BJ.read {v:Int} (h:BJ 1 a p) (hv:0<=v/\v<4294967296) (h5:a.pc=5):BJ 1 ⟨a.cl,6,a.nd,a.AL,a.of,v⟩ {p with wa:=v,st:=6}:=
 ⟨h.cl,h.nd,⟨rfl,(by show (0:Int)<=6/\(6:Int)<=7;decide)⟩,h.OV,h.Ql,hv,λ_ _=>h.Rj rfl (by omega),λx=>by omega,λ_ _=>h.Vc rfl (by omega),λ_ _=>rfl,λx=>by omega,λx=>absurd rfl x,λx=>by omega,h.pa,h.pl,hv⟩
theorem BJ.view {v:Int} (h:BJ 3 a p) (hv:0<=v/\v<4294967296):BJ 3 ⟨a.cl,1,a.nd,a.AL,a.of,v⟩ {p with wa:=v,st:=1}:=
 ⟨h.cl,h.nd,⟨rfl,(by show (0:Int)<=1/\(1:Int)<=7;decide)⟩,h.OV,h.Ql,hv,λx=>by omega,λx=>h.ZM x,λx=>by omega,λx=>by omega,λ_ _=>rfl,λ_ x=>absurd rfl x,λ_=>(by show (1:Int)<=1;decide),h.pa,h.pl,hv⟩
theorem BJ.again (h:BJ 3 a p):BJ 3 ⟨a.cl,0,a.nd,a.AL,a.of,a.wv⟩ {p with st:=0}:=
 ⟨h.cl,h.nd,⟨rfl,(by show (0:Int)<=0/\(0:Int)<=7;decide)⟩,h.OV,h.Ql,h.RZ,λx=>by omega,λx=>h.ZM x,λx=>by omega,λx=>by omega,λ_ x=>absurd x (show ¬ (0:Int)=1 by decide),λ_ x=>absurd rfl x,λ_=>(by show (0:Int)<=1;decide),h.pa,h.pl,h.pw⟩
theorem BJ.has (h:BJ 1 a p):BJ 2 ⟨a.cl,0,a.nd,a.AL,a.of,a.wv⟩ ⟨a.cl,a.nd,a.AL,0,0,0⟩:=
 ⟨⟨rfl,h.cl.2⟩,⟨rfl,h.nd.2⟩,⟨rfl,(by show (0:Int)<=0/\(0:Int)<=7;decide)⟩,h.OV,h.Ql,h.RZ,λx=>by omega,λx=>rfl,λx=>by omega,λx=>by omega,λx=>by omega,λ_ _=>rfl,λx=>by omega,h.OV,(by show (0:Int)<=0/\(0:Int)<4294967296;decide),(by show (0:Int)<=0/\(0:Int)<4294967296;decide)⟩
theorem BJ.gone (h:BJ 3 a p):BJ 0 ⟨a.cl,0,a.AL,a.AL,a.of,a.wv⟩ ⟨a.cl,a.AL,0,0,0,0⟩:=
 ⟨⟨rfl,h.cl.2⟩,⟨rfl,h.OV⟩,⟨rfl,(by show (0:Int)<=0/\(0:Int)<=7;decide)⟩,h.OV,h.Ql,h.RZ,λx=>by omega,λx=>by omega,λx=>by omega,λx=>by omega,λx=>by omega,λ_ _=>rfl,λx=>by omega,(by show (0:Int)<=0/\(0:Int)<4294967296;decide),(by show (0:Int)<=0/\(0:Int)<4294967296;decide),(by show (0:Int)<=0/\(0:Int)<4294967296;decide)⟩
end
def CD (w:World) (L:Lp) (f:FL) (σ:Nat->Int) (e:Ending) (w':World):Prop:=e= .returned (.tuple #[])/\LkM w' L f σ/\Wr (LF L) w w'
theorem Gf {w:World} {L:Lp} {f:FL} {σ:Nat->Int} (h:LkM w L f σ) (k:Nat) (hk:k<f.s.n) (hs:σ k=1):
  Calls prog 198 #[.pointer (some ⟨L.tb,k*6,none⟩),.int .u32 0] w (CD w L (f.put k ⟨f.cl k,3,f.nd k,0,f.of k,f.wv k⟩) (upd σ k 1)):=by
 obtain ⟨p,hp,t0,t1,t2,t3,t4,t5⟩:=h.Ay hk;have z2:=h.raw.BO (k*6+2);have z3:=h.raw.BO (k*6+3);have hT:=h.turns (h.raw.iy k 1 ⟨f.cl k,3,f.nd k,0,f.of k,f.wv k⟩ 0 2 3 (λp hp=>by rw [hs] at hp;exact hp.ahead (q:=3) (v:=0) (by decide) (by decide) (λx=>by omega) (by decide)));have HE:=Qw hT;clear h hT hp hs;exact zz2r
theorem Gg {w:World} {L:Lp} {f:FL} {σ:Nat->Int} (h:LkM w L f σ) (k:Nat) (hk:k<f.s.n) (hs:σ k=1) (v:Int) (hv:0<=v/\v<4294967296) (hz:v≠0):
  Calls prog 198 #[.pointer (some ⟨L.tb,k*6,none⟩),.int .u32 v] w (CD w L (f.put k ⟨f.cl k,2,f.nd k,v,f.of k,f.wv k⟩) (upd σ k 1)):=by
 obtain ⟨p,hp,t0,t1,t2,t3,t4,t5⟩:=h.Ay hk;have z2:=h.raw.BO (k*6+2);have z3:=h.raw.BO (k*6+3);have hT:=h.turns (h.raw.ck k 1 ⟨f.cl k,2,f.nd k,v,f.of k,f.wv k⟩ v 2 (λp hp=>by rw [hs] at hp;exact hp.ahead (q:=2) hv (by decide) (λx=>by omega) (by decide)));have HE:=Qw hT;have b1:(v==0)=false:=beq_false_of_ne hz;clear h hT hp hs hz;exact zz2r
theorem SH {w:World} {L:Lp} {f:FL} {σ:Nat->Int} (h:LkM w L f σ) (k:Nat) (hk:k<f.s.n) (hs:σ k=1) (v:Int) (hv:0<=v/\v<4294967296):
  Calls prog 198 #[.pointer (some ⟨L.tb,k*6,none⟩),.int .u32 v] w (CD w L (f.put k ⟨f.cl k,if v=0 then 3 else 2,f.nd k,v,f.of k,f.wv k⟩) (upd σ k 1)):=by
 by_cases hz:v=0
 ·subst hz;exact Gf h k hk hs
 ·rw [Qq hz];exact Gg h k hk hs v hv hz
theorem Po {X:World} {C:Nat} {d:Dd} (h:X.heap[C]? =some (.cells (Eh d) 102 (0,0))):X.cell? ⟨C,0,none⟩=some (.int .i64 d.ev)/\X.cell? ⟨C,1,none⟩=some (.bool d.BW)/\X.cell? ⟨C,2,none⟩=some (.bool d.arr)/\X.cell? ⟨C,3,none⟩=some (.bool d.lead):=by
 rw [A1 h,A1 h,A1 h,A1 h];exact ⟨rfl,rfl,rfl,rfl⟩
theorem Hs {w:World} {L:Lp} {f:FL} {σ:Nat->Int} (h:LkM w L f σ) (k:Nat) (hk:k<f.s.n) (hs:σ k=1) (hpc:2<=f.pc k) (d:Dd):
  Calls prog 202 #[.pointer (some ⟨L.tb,k*6,none⟩),d.val] w (A_ w L (f.put k ⟨f.cl k,0,f.nd k,f.AL k,f.of k,f.wv k⟩) (upd σ k 2) d.val):=by
 have e1:(w.alloc (.cells #[.int .i64 d.ev,.bool d.BW,.bool d.arr,.bool d.lead] 102)).heap.size=w.heap.size+1:=nblk_alloc _ _;have Zj:=Fr.start (h.after ((Wr.refl _ w).alloc (.cells #[.int .i64 d.ev,.bool d.BW,.bool d.arr,.bool d.lead] 102)));have hD:((w.alloc (.cells #[.int .i64 d.ev,.bool d.BW,.bool d.arr,.bool d.lead] 102)).alloc (.cells #[.int .i64 0,.bool false,.bool false,.bool false] 102)).heap[w.heap.size]? =some (.cells (Eh d) 102 (0,0)):=by
  rw [blk_alloc_lt _ _ _ (by rw [e1];omega),blk_alloc_new];rfl
 rw [e1] at Zj;obtain ⟨Z,hZ⟩:∃ Z,Z=(w.alloc (.cells #[.int .i64 d.ev,.bool d.BW,.bool d.arr,.bool d.lead] 102)).alloc (.cells #[.int .i64 0,.bool false,.bool false,.bool false] 102):=⟨_,rfl⟩
 rw [<-hZ] at Zj hD;have hF:Fr w (w.heap.size+1) Z L f σ:=⟨Zj.lk,(Hx (by rw [hZ];exact ((Wr.refl _ w).alloc _).alloc _)),Zj.res,Nat.le_succ _⟩
 obtain ⟨p,hp,t0,t1,t2,t3,t4,t5⟩:=hF.drew.lk.Ay hk;rw [hs] at hp;rw [hp.Rj rfl hpc] at t2;replace t2:Z.drew.cell? ⟨L.tb,k*6+2,none⟩=some (.int .u32 (f.AL k)):=t2;have z0:=hF.drew.lk.raw.BO (k*6);have z1:=hF.drew.lk.raw.BO (k*6+1);have z2:=hF.drew.lk.raw.BO (k*6+2);have z3:=hF.drew.lk.raw.BO (k*6+3);have z4:=hF.drew.lk.raw.BO (k*6+4);have z5:=hF.drew.lk.raw.BO (k*6+5);have hT:=hF.drew.lk.turns (hF.drew.lk.raw.cg k 2 ⟨f.cl k,0,f.nd k,f.AL k,f.of k,f.wv k⟩ (f.cl k) (f.nd k) (f.AL k) 0 0 0 (λq hq=>by rw [hs] at hq;exact hq.has));obtain ⟨V,hV⟩:∃ V,V=((((((Z.drew.setCell ⟨L.tb,k*6,none⟩ (.int .i64 (f.cl k))).setCell ⟨L.tb,k*6+1,none⟩ (.int .u32 (f.nd k))).setCell ⟨L.tb,k*6+2,none⟩ (.int .u32 (f.AL k))).setCell ⟨L.tb,k*6+3,none⟩ (.int .i64 0)).setCell ⟨L.tb,k*6+4,none⟩ (.int .u32 0)).setCell ⟨L.tb,k*6+5,none⟩ (.int .u32 0)):=⟨_,rfl⟩
 rw [<-hV] at hT;have hA:=Fr.call h hF.drew hT.1 (BH hT.2);obtain ⟨v0,v1,v2,v3⟩:=hA.cell;obtain ⟨x0,x1,x2,x3⟩:=hA.Am;have jd:=(hT.2.block _ (A2 (show Z.drew.heap[w.heap.size]? =_ from hD)) (λe=>by have:=h.raw.Z9;unfold One at e;omega)).trans (show Z.drew.heap[w.heap.size]? =_ from hD);obtain ⟨p0,p1,p2,p3⟩:=Po jd;have HE:=Qw (Qz h hA);clear h Zj hF hT hA hp hs hD jd e1;unfold Dd.val
 go_in
 go_wp2;rw [<-hZ];clear hZ;refine Cl 15 (by kernel_rfl) (by kernel_rfl) ?_;simp only [List.take_succ_cons,List.take_zero,List.drop_succ_cons,List.drop_zero]
 repeat still_step
 refine wpStill_nil ?_;generalize Z.drew=Y at*
 go_step
 go_step
 rw [<-hV];clear hV t0 t1 t2 t3 t4 t5 z0 z1 z2 z3 z4 z5;go_wp2;refine bodyPost_ret (v:=Dd.val d) (results_cell_row rfl _ _ (w.heap.size+1) 102 _ (0,0) _ rfl (AO HE.out.2.res rfl _ _ _ _) underlying102 rfl AB) rfl (HE.out.2.told HE.out.1 d)
theorem PJ (v:Int) (h:0<=v/\v<4294967296) (W:World):Calls prog 205 #[.int .u32 v] W λe w'=>e= .returned (.int .i64 (Ca v))/\w'=W:=(M9 v h.1 h.2 W).mono λ_ _ q=>⟨q.1,q.2.symm⟩
theorem PL (v:Int) (h:0<=v/\v<4294967296) (b:Bool) (hb:b=decide (E7 v=1)) (W:World):Calls prog 206 #[.int .u32 v] W λe w'=>e= .returned (.bool b)/\w'=W:=(Mt v h.1 h.2 W).mono λ_ _ q=>⟨by rw [hb];exact q.1,q.2.symm⟩
theorem PM (v:Int) (h:0<=v/\v<4294967296) (b:Bool) (hb:b=decide (Dh v=1)) (W:World):Calls prog 201 #[.int .u32 v] W λe w'=>e= .returned (.bool b)/\w'=W:=(RN v h.1 h.2 W).mono λ_ _ q=>⟨by rw [hb];exact q.1,q.2.symm⟩
theorem V6 {w:World} {L:Lp} {f:FL} {σ:Nat->Int} (h:LkM w L f σ) (k:Nat) (hk:k<f.s.n) (hs:σ k=1) (hpc:f.pc k=2) (v:Int) (hv:0<=v/\v<4294967296) (hx:Ca v≠f.cl k):
  Calls prog 200 #[.pointer (some ⟨L.tb,k*6,none⟩),.int .u32 v] w (A_ w L (f.put k ⟨f.cl k,3,f.nd k,f.AL k,f.of k,f.wv k⟩) (upd σ k 1) (Dd.val ⟨0,false,false,false⟩)):=by
 have hF:=Fr.start h;obtain ⟨Z,hZ⟩:∃ Z,Z=w.alloc (.cells #[.int .i64 0,.bool false,.bool false,.bool false] 102):=⟨_,rfl⟩
 rw [<-hZ] at hF;obtain ⟨p,hp,t0,t1,t2,t3,t4,t5⟩:=hF.lk.Ay hk;have cC:=PJ v hv;have b0:(Ca v != f.cl k)=true:=by simpa [bne,BEq.beq] using hx
 have cS:=PL v hv _ rfl;clear hx;exact zzi
theorem V7 {w:World} {L:Lp} {f:FL} {σ:Nat->Int} (h:LkM w L f σ) (k:Nat) (hk:k<f.s.n) (hs:σ k=1) (hpc:f.pc k=2) (v:Int) (hv:0<=v/\v<4294967296) (hx:Ca v=f.cl k) (hy:E7 v≠0):
  Calls prog 200 #[.pointer (some ⟨L.tb,k*6,none⟩),.int .u32 v] w (A_ w L (f.put k ⟨f.cl k,3,f.nd k,f.AL k,f.of k,f.wv k⟩) (upd σ k 1) (Dd.val ⟨0,false,false,false⟩)):=by
 have hF:=Fr.start h;obtain ⟨Z,hZ⟩:∃ Z,Z=w.alloc (.cells #[.int .i64 0,.bool false,.bool false,.bool false] 102):=⟨_,rfl⟩
 rw [<-hZ] at hF;obtain ⟨p,hp,t0,t1,t2,t3,t4,t5⟩:=hF.lk.Ay hk;have cC:=PJ v hv;have b0:(Ca v != f.cl k)=false:=by rw [hx];simp
 have cS:=PL v hv true (by symm;apply decide_eq_true;unfold E7 at hy ⊢;omega);clear hx hy;exact zzi
theorem V8 {w:World} {L:Lp} {f:FL} {σ:Nat->Int} (h:LkM w L f σ) (k:Nat) (hk:k<f.s.n) (hs:σ k=1) (hpc:f.pc k=2) (v:Int) (hv:0<=v/\v<4294967296) (hx:Ca v=f.cl k) (hy:E7 v=0) (hz:Dh v≠0):
  Calls prog 200 #[.pointer (some ⟨L.tb,k*6,none⟩),.int .u32 v] w (A_ w L (f.put k ⟨f.cl k,2,f.nd k,f.AL k,f.of k,f.wv k⟩) (upd σ k 1) (Dd.val ⟨0,false,false,false⟩)):=by
 have hF:=Fr.start h;obtain ⟨Z,hZ⟩:∃ Z,Z=w.alloc (.cells #[.int .i64 0,.bool false,.bool false,.bool false] 102):=⟨_,rfl⟩
 rw [<-hZ] at hF;obtain ⟨p,hp,t0,t1,t2,t3,t4,t5⟩:=hF.lk.Ay hk;have cC:=PJ v hv;have b0:(Ca v != f.cl k)=false:=by rw [hx];simp
 have cS:=PL v hv false (by rw [hy];rfl);have cW:=PM v hv true (by symm;apply decide_eq_true;unfold Dh at hz ⊢;omega);clear hx hy hz;have HE:=Qw (Qz h (Qz hF (Qz hs hpc)));clear h hF hp hs hpc
 go_in
 go_wp2;rw [<-hZ];clear hZ;go_big_quiet (first|(go_at_call 205;with_reducible exact Calls.quiet_of_same (cC _))|(go_at_call 206;with_reducible exact Calls.quiet_of_same (cS _)))
 generalize hX:Z.drewN _=X;have hY:=HE.out.2.1.after (by rw [<-hX];exact (Wr.refl Nil Z).drewN _:Wr Nil Z X);clear hX t0 t1 t2 t3 t4 t5;have hT:=hY.lk.KV (hY.lk.raw.I6 k 1 ⟨f.cl k,2,f.nd k,f.AL k,f.of k,f.wv k⟩ (λq hq=>by rw [HE.out.2.2.1] at hq;rw [show f.ab k=⟨f.cl k,2,f.nd k,f.AL k,f.of k,f.wv k⟩ from by unfold FL.ab;rw [HE.out.2.2.2]] at hq;exact hq));have hA:=Fr.call HE.out.1 hY hT (Hx (Wr.refl _ _));obtain ⟨v0,v1,v2,v3⟩:=hA.cell;obtain ⟨x0,x1,x2,x3⟩:=hA.Am;have HA:=Qw hA;clear hA hT hY;go_wp2_with (go_at_call 201;with_reducible refine (cW _).mono ?_;rintro e w' ⟨rfl,rfl⟩)
 refine bodyPost_ret (v:=Dd.val ⟨0,false,false,false⟩) (results_cell_row rfl _ _ w.heap.size 102 _ (0,0) _ rfl (AO HA.out.res rfl _ _ _ _) underlying102 rfl AB) rfl (HA.out.told HE.out.1 ⟨0,false,false,false⟩)
theorem V9 {w:World} {L:Lp} {f:FL} {σ:Nat->Int} (h:LkM w L f σ) (k:Nat) (hk:k<f.s.n) (hs:σ k=1) (hpc:f.pc k=2) (v:Int) (hv:0<=v/\v<4294967296) (hx:Ca v=f.cl k) (hy:E7 v=0) (hz:Dh v=0):
  Calls prog 200 #[.pointer (some ⟨L.tb,k*6,none⟩),.int .u32 v] w (A_ w L (f.put k ⟨f.cl k,0,f.nd k,f.AL k,f.of k,f.wv k⟩) (upd σ k 2) (Dd.val ⟨1,false,false,false⟩)):=by
 have hF:=Fr.start h;obtain ⟨Z,hZ⟩:∃ Z,Z=w.alloc (.cells #[.int .i64 0,.bool false,.bool false,.bool false] 102):=⟨_,rfl⟩
 rw [<-hZ] at hF;obtain ⟨p,hp,t0,t1,t2,t3,t4,t5⟩:=hF.lk.Ay hk;have cC:=PJ v hv;have b0:(Ca v != f.cl k)=false:=by rw [hx];simp
 have cS:=PL v hv false (by rw [hy];rfl);have cW:=PM v hv false (by rw [hz];rfl);clear hx hy hz;have HE:=Qw (Qz h (Qz hF (Qz hs hpc)));clear h hF hp hs hpc
 go_in
 go_wp2;rw [<-hZ];clear hZ;go_big_quiet (first|(go_at_call 205;with_reducible exact Calls.quiet_of_same (cC _))|(go_at_call 206;with_reducible exact Calls.quiet_of_same (cS _)))
 generalize hX:Z.drewN _=X;have hY:=HE.out.2.1.after (by rw [<-hX];exact (Wr.refl Nil Z).drewN _:Wr Nil Z X);clear hX t0 t1 t2 t3 t4 t5;have cH:=Hs hY.lk k hk HE.out.2.2.1 (by have:=HE.out.2.2.2;omega) ⟨1,false,false,false⟩;dsimp only [Dd.val] at cH;have HY:=Qw hY;clear hY
 go_wp2_with (first
  |(go_at_call 201;with_reducible refine (cW _).mono ?_;rintro e w' ⟨rfl,rfl⟩)
  |((with_reducible refine cH.mono ?_);intro e w3 hq;unfold A_ at hq;obtain ⟨rfl,hB,Ba⟩:=hq;have BX:=Fr.call HE.out.1 HY.out hB Ba;obtain ⟨v0,v1,v2,v3⟩:=BX.cell;obtain ⟨x0,x1,x2,x3⟩:=BX.Am;have HT:=Qw BX;clear hB BX Ba))
 exact zzg
theorem Pz {w:World} {L:Lp} {f:FL} {σ:Nat->Int} (h:LkM w L f σ) (k:Nat) (hk:k<f.s.n) (hs:σ k=1) (hpc:f.pc k=2) (v:Int) (hv:0<=v/\v<4294967296):
  Calls prog 200 #[.pointer (some ⟨L.tb,k*6,none⟩),.int .u32 v] w (A_ w L (f.put k ⟨f.cl k,if Ca v=f.cl k/\E7 v=0 then (if Dh v=0 then 0 else 2) else 3,f.nd k,f.AL k,f.of k,f.wv k⟩)
   (upd σ k (Ai 1 (if (Ca v=f.cl k/\E7 v=0)/\Dh v=0 then (⟨1,false,false,false⟩:Dd) else Dd.no).ev)) (Dd.val (if (Ca v=f.cl k/\E7 v=0)/\Dh v=0 then ⟨1,false,false,false⟩ else Dd.no))):=by
 by_cases hx:Ca v=f.cl k
 ·by_cases hy:E7 v=0
  ·by_cases hz:Dh v=0
   ·rw [Qj ⟨hx,hy⟩,Qj hz,Qj ⟨⟨hx,hy⟩,hz⟩];exact V9 h k hk hs hpc v hv hx hy hz
   ·rw [Qj ⟨hx,hy⟩,Qq hz,Qq (λq=>hz q.2)];exact V8 h k hk hs hpc v hv hx hy hz
  ·rw [Qq (λq=>hy q.2),Qq (λq=>hy q.1.2)];exact V7 h k hk hs hpc v hv hx hy
 ·rw [Qq (λq=>hx q.1),Qq (λq=>hx q.1.1)];exact V6 h k hk hs hpc v hv hx
end Go.Proofs.YtmnephejhkfchaaGreat.Kh
