
import Derived.Test.YtmnephejhkfchaaGreatBuVia
import Derived.Test.YtmnephejhkfchaaGreatPoolNew
namespace Go.Proofs.YtmnephejhkfchaaGreat.Ka
open _root_.Go.Proofs.Tryz
open Go.RowKit
set_option linter.unusedVariables false
set_option maxRecDepth 100000
def _root_.Go.Proofs.YtmnephejhkfchaaGreat.SS.UK (s:SS):Prop:=s.Af=false/\(∀ k,s.st k≠4)/\∀ k,s.dl k= -1\/0<=s.dl k
def _root_.Go.Proofs.YtmnephejhkfchaaGreat.SS.fB (s s':SS):Prop:=s'.n=s.n/\(s.UK->s'.UK/\∀ k,s'.st k=s.st k\/(s.st k=0/\s'.st k=1)\/(s.st k=2/\s'.st k=3))
theorem _root_.Go.Proofs.YtmnephejhkfchaaGreat.SS.Lj {s:SS} (h:s.UK) (k:Nat) (x d:Int) (hx:x≠4) (hd:d= -1\/0<=d):(s.set k x d).UK:=by
 refine ⟨h.1,λj=> ?_,λj=> ?_⟩
 ·show upd s.st k x j≠4
  by_cases e:j=k
  ·subst e;rw [upd_same];exact hx
  ·rw [A0 _ _ e];exact h.2.1 j
 ·show upd s.dl k d j= -1\/0<=upd s.dl k d j
  by_cases e:j=k
  ·subst e;rw [upd_same];exact hd
  ·rw [A0 _ _ e];exact h.2.2 j
theorem _root_.Go.Proofs.YtmnephejhkfchaaGreat.SS.PQ (s:SS) (k:Nat) (x d:Int):(s.set k x d).st=upd s.st k x:=rfl
theorem _root_.Go.Proofs.YtmnephejhkfchaaGreat.SS.Vg (s:SS) (t d:Int):s.fB (s.lock t d):=by
 refine ⟨s.Bz t d,λh=> ?_⟩;unfold SS.lock;split
 ·rename_i hE
  unfold BZ at hE;split at hE
  ·rename_i hq
   split at hE
   ·rename_i h0
    refine ⟨SS.Lj h _ _ _ (by decide) (by omega),λj=> ?_⟩;rw [SS.PQ];exact zz5c
   ·exact zz4c
  ·exact zz4c
 ·exact ⟨h,λ_=> .inl rfl⟩
theorem _root_.Go.Proofs.YtmnephejhkfchaaGreat.SS.Wc (s:SS) (t x:Int) (hx:x=3):s.fB (s.turn t x):=by
 subst hx;refine ⟨s.Bu t 3,λh=> ?_⟩;unfold SS.turn;split
 ·rename_i hE
  unfold BR at hE;split at hE
  ·split at hE
   ·exact zz4c
   ·split at hE
    ·rename_i h2
     refine ⟨SS.Lj h _ _ _ (by decide) (h.2.2 _),λj=> ?_⟩;rw [SS.PQ];exact zz5d
    ·exact zz4c
  ·exact zz4c
 ·exact ⟨h,λ_=> .inl rfl⟩
theorem _root_.Go.Proofs.YtmnephejhkfchaaGreat.SS.Ij {s:SS} (h:s.UK) (t ev:Int):(s.fin t ev).UK:=by
 unfold SS.fin;split
 ·rename_i y e
  refine SS.Lj h _ _ _ ?_ (by omega);exact zz4i
 ·exact h
def Ai (x ev:Int):Int:=(AH x ev).getD x
theorem _root_.Go.Proofs.YtmnephejhkfchaaGreat.SS.Oj (s:SS) (k:Nat) (hk:k<s.n) (ev:Int):(s.fin k ev).st=upd s.st k (Ai (s.st k) ev):=zz3g
theorem _root_.Go.Proofs.YtmnephejhkfchaaGreat.SS.MH (s:SS) (t:Int):(s.fin t 0).st=s.st:=zz3w
structure Pc where
 st:Int
 tr:Int
 nd:Int
 ot:Int
def Pc.cells (p:Pc):List Value:=[.int .i64 p.st,.int .i64 p.tr,.int .u32 p.nd,.int .u32 p.ot]
def Ct (G:Nat->Pc) (t:Nat):List Value:=(G t).cells
theorem Ah (G:Nat->Pc):∀ x,(Ct G x).length=4:=λ_=>rfl
def BS (n:Nat) (G:Nat->Pc):List Value:=(List.range n).flatMap (Ct G)
theorem BB (n:Nat) (G:Nat->Pc) {k:Nat} (hk:k<n) {j:Nat} (hj:j<4):(BS n G)[k*4+j]? =(G k).cells[j]? :=Cb (Ah G) _ (by rw [List.getElem?_range hk]) hj
theorem D3 {n i t:Nat} (ht:(List.range n)[i]? =some t):i<n/\t=i:=zz7e
theorem BD (n:Nat) (G:Nat->Pc) (k j:Nat) (v:Value) (p:Pc) (hj:j<4) (hp:p.cells=(G k).cells.set j v):(BS n G).set (k*4+j) v=BS n (upd G k p):=by
 refine Bi (Ah G) (Ah _) _ k j hj _ λi t ht l hl=> ?_;obtain ⟨_,rfl⟩:=D3 ht;unfold Ct;by_cases e:t=k
 ·subst e
  rw [upd_same,hp,List.getElem?_set];have hlen:(G t).cells.length=4:=rfl;by_cases el:l=j
  ·subst el;simp [hlen,hj]
  ·simp [el,Ne.symm el]
 ·simp [A0 _ _ e,e]
theorem IB {α:Type} (f:Nat->α) (k j:Nat):f j=upd f k (f k) j:=zz5l
theorem AA {α:Type} (g:Nat->α) (k:Nat) {x:α} (h:x=g k):upd g k x=g:=by subst h;exact funext λj=>(IB g k j).symm
theorem BF {α:Type} (g:Nat->α) (k:Nat) (x y:α):upd (upd g k x) k y=upd g k y:=zz5t
structure BJ (x pc nd A9 tr:Int) (ea:Nat) (p:Pc):Prop where
 st:p.st=pc-1
 pr:1<=pc/\pc<=8
 nr:0<=nd/\nd<4294967296
 Nu:0<=A9/\A9<4294967296
 Ya:x≠1->tr=0
 U9:0<=tr/\tr<=ea
 U_:x≠9->pc=1->tr<ea/\p.tr=tr
 n0:pc≠1->p.nd=nd
 n1:x=2\/x=3->p.nd=nd
 o1:x=1->6<=pc->p.ot=A9
 o3:x=3->pc=4\/pc=5->p.ot=A9
 idle:x≠1->x≠3->pc=1
 rel:x=3->pc<=6
 pn:0<=p.nd/\p.nd<4294967296
 po:0<=p.ot/\p.ot<4294967296
theorem BJ.turn {x y pc nd A9 tr:Int} {ea:Nat} {p:Pc} (h:BJ x pc nd A9 tr ea p) (hy:y=x\/(x=0/\y=1)\/(x=2/\y=3)):BJ y pc nd A9 tr ea p:=by
 rcases hy with rfl|⟨rfl,rfl⟩|⟨rfl,rfl⟩
 ·exact h
 ·have e:=h.idle (by decide) (by decide)
  exact ⟨h.st,h.pr,h.nr,h.Nu,λ_=>h.Ya (by decide),h.U9,λ_=>h.U_ (by decide),h.n0,λq=>by omega,λ_ q=>by omega,λq=>by omega,λq=>by omega,λq=>by omega,h.pn,h.po⟩
 ·have e:=h.idle (by decide) (by decide)
  exact ⟨h.st,h.pr,h.nr,h.Nu,λ_=>h.Ya (by decide),h.U9,λ_=>h.U_ (by decide),h.n0,λq=>h.n1 (.inl rfl),λq=>by omega,λ_ q=>by omega,λq=>by omega,λq=>by omega,h.pn,h.po⟩
structure FlRaw (w:World) (L:Lp) (pv:Value) (s:SS) (σ:Nat->Int) (ea:Nat) (pc nd A9 tr:Nat->Int):Prop where
 obj:∃ Q:Pp,w.heap[L.lb]? =some (.cells #[.pointer (some ⟨L.p,0,none⟩),pv,.pointer (some ⟨Q.p,0,none⟩),.int .i64 L.a1,.slice (some ⟨L.tb,0,none⟩) s.n s.n] 134 (0,0))/\
  PoolAt w Q (E6 s.n ea)/\∀ b,Q.F s.n b->b<L.lb/\L.p<b/\b≠L.b/\b≠L.tb
 seat:SeatAt w L.p L.b s
 tick:∃ G:Nat->Pc,w.heap[L.tb]? =some (.cells (BS s.n G).toArray 254 (0,0))/\∀ k,BJ (σ k) (pc k) (nd k) (A9 k) (tr k) ea (G k)
 np:s.UK
 ne:L.lb≠L.b/\L.lb≠L.tb/\L.p≠L.tb/\L.b≠L.tb/\L.lb≠L.p
 each:1<=ea/\ea<=8
 CM:0<=L.a1/\L.a1<=2000000/\L.a2=L.a1+1
namespace FlRaw
variable {w w':World} {L:Lp} {pv:Value} {s:SS} {σ:Nat->Int} {ea:Nat} {pc nd A9 tr:Nat->Int}
theorem wrote {S:Nat->Prop} (h:FlRaw w L pv s σ ea pc nd A9 tr) (k:Wr S w w') (h1:¬ S L.lb) (h2:¬ S L.p) (h3:¬ S L.b) (h4:¬ S L.tb) (h5:∀ b,b<L.lb->b≠L.p->b≠L.b->b≠L.tb->¬ S b):FlRaw w' L pv s σ ea pc nd A9 tr:=by
 obtain ⟨Q,q1,q2,q3⟩:=h.obj;obtain ⟨G,g1,g2⟩:=h.tick;exact ⟨⟨Q,(k.block _ (A2 q1) h1).trans q1,q2.wrote k λb hb=>h5 b (q3 b hb).1 (Nat.ne_of_gt (q3 b hb).2.1) (q3 b hb).2.2.1 (q3 b hb).2.2.2,q3⟩,h.seat.wrote k h2 h3,⟨G,(k.block _ (A2 g1) h4).trans g1,g2⟩,h.np,h.ne,h.each,h.CM⟩
theorem after (h:FlRaw w L pv s σ ea pc nd A9 tr) (k:Wr Nil w w'):FlRaw w' L pv s σ ea pc nd A9 tr:=h.wrote k id id id id λ_ _ _ _ _=>id
theorem iG (h:FlRaw w L pv s σ ea pc nd A9 tr):L.lb<w.heap.size:=by obtain ⟨Q,q1,_⟩:=h.obj;exact A2 q1
theorem Z9 (h:FlRaw w L pv s σ ea pc nd A9 tr):L.tb<w.heap.size:=by obtain ⟨G,g1,_⟩:=h.tick;exact A2 g1
theorem Ja {s':SS} (h:FlRaw w L pv s σ ea pc nd A9 tr) (hS:SeatAt w' L.p L.b s') (hn:s'.n=s.n) (hp:s'.UK) (k:Wr (One L.b) w w'):FlRaw w' L pv s' σ ea pc nd A9 tr:=by
 obtain ⟨Q,q1,q2,q3⟩:=h.obj;obtain ⟨G,g1,g2⟩:=h.tick;refine ⟨⟨Q,?_,?_,?_⟩,hS,⟨G,?_,g2⟩,hp,h.ne,h.each,h.CM⟩
 ·rw [hn];exact (k.block _ (A2 q1) h.ne.1).trans q1
 ·rw [hn];exact q2.wrote k λb hb=>(q3 b hb).2.2.1
 ·rw [hn];exact q3
 ·exact zz6q
theorem cell0 (h:FlRaw w L pv s σ ea pc nd A9 tr):w.cell? ⟨L.lb,0,none⟩=some (.pointer (some ⟨L.p,0,none⟩)):=by obtain ⟨Q,q1,_⟩:=h.obj;rw [A1 q1];rfl
theorem cell1 (h:FlRaw w L pv s σ ea pc nd A9 tr):w.cell? ⟨L.lb,1,none⟩=some pv:=by obtain ⟨Q,q1,_⟩:=h.obj;rw [A1 q1];rfl
theorem AY (h:FlRaw w L pv s σ ea pc nd A9 tr):∃ Q:Pp,w.cell? ⟨L.lb,2,none⟩=some (.pointer (some ⟨Q.p,0,none⟩))/\PoolAt w Q (E6 s.n ea):=by obtain ⟨Q,q1,q2,_⟩:=h.obj;exact ⟨Q,by rw [A1 q1];rfl,q2⟩
theorem AV (h:FlRaw w L pv s σ ea pc nd A9 tr):w.cell? ⟨L.lb,3,none⟩=some (.int .i64 L.a1):=by obtain ⟨Q,q1,_⟩:=h.obj;rw [A1 q1];rfl
theorem Av (h:FlRaw w L pv s σ ea pc nd A9 tr):w.cell? ⟨L.lb,4,none⟩=some (.slice (some ⟨L.tb,0,none⟩) s.n s.n):=by obtain ⟨Q,q1,_⟩:=h.obj;rw [A1 q1];rfl
theorem frozen (h:FlRaw w L pv s σ ea pc nd A9 tr) (k:Nat):w.frozen? ⟨L.lb,k,none⟩=false:=by obtain ⟨Q,q1,_⟩:=h.obj;exact A4 q1 k
theorem Aa (h:FlRaw w L pv s σ ea pc nd A9 tr) {k:Nat} (hk:k<s.n):∃ p:Pc,BJ (σ k) (pc k) (nd k) (A9 k) (tr k) ea p/\w.cell? ⟨L.tb,k*4,none⟩=some (.int .i64 (pc k-1))/\w.cell? ⟨L.tb,k*4+1,none⟩=some (.int .i64 p.tr)/\
  w.cell? ⟨L.tb,k*4+2,none⟩=some (.int .u32 p.nd)/\w.cell? ⟨L.tb,k*4+3,none⟩=some (.int .u32 p.ot):=by
 obtain ⟨G,g1,g2⟩:=h.tick;refine ⟨G k,g2 k,?_,?_,?_,?_⟩
 ·rw [A1 g1,List.getElem?_toArray,<-(g2 k).st];exact BB s.n G hk (j:=0) (by decide)
 ·rw [A1 g1,List.getElem?_toArray];exact BB s.n G hk (j:=1) (by decide)
 ·exact zz6p
 ·rw [A1 g1,List.getElem?_toArray];exact BB s.n G hk (j:=3) (by decide)
theorem BO (h:FlRaw w L pv s σ ea pc nd A9 tr) (k:Nat):w.frozen? ⟨L.tb,k,none⟩=false:=by obtain ⟨G,g1,_⟩:=h.tick;exact A4 g1 k
theorem bO (h:FlRaw w L pv s σ ea pc nd A9 tr) (k:Nat):∃ p:Pc,BJ (σ k) (pc k) (nd k) (A9 k) (tr k) ea p:=by obtain ⟨G,g1,g2⟩:=h.tick;exact ⟨G k,g2 k⟩
theorem Ie (h:FlRaw w L pv s σ ea pc nd A9 tr) {G:Nat->Pc} (hG:w'.heap[L.tb]? =some (.cells (BS s.n G).toArray 254 (0,0))) (hW:Wr (One L.tb) w w')
  {σ' FY LY Gu Wb:Nat->Int} (hI:∀ j,BJ (σ' j) (FY j) (LY j) (Gu j) (Wb j) ea (G j)):FlRaw w' L pv s σ' ea FY LY Gu Wb:=by
 obtain ⟨Q,q1,q2,q3⟩:=h.obj;exact ⟨⟨Q,(hW.block _ (A2 q1) h.ne.2.1).trans q1,q2.wrote hW λb hb=>(q3 b hb).2.2.2,q3⟩,h.seat.wrote hW h.ne.2.2.1 h.ne.2.2.2.1,⟨G,hG,hI⟩,h.np,h.ne,h.each,h.CM⟩
theorem D8 {G:Nat->Pc} (hI:∀ j,BJ (σ j) (pc j) (nd j) (A9 j) (tr j) ea (G j)) (k:Nat) {v x y z r:Int} {p:Pc} (hp:BJ v x y z r ea p):
  ∀ j,BJ (upd σ k v j) (upd pc k x j) (upd nd k y j) (upd A9 k z j) (upd tr k r j) ea (upd G k p j):=λj=>by
 by_cases e:j=k
 ·subst e;rw [upd_same,upd_same,upd_same,upd_same,upd_same,upd_same];exact hp
 ·rw [A0 _ _ e,A0 _ _ e,A0 _ _ e,A0 _ _ e,A0 _ _ e,A0 _ _ e];exact hI j
theorem I6 (h:FlRaw w L pv s σ ea pc nd A9 tr) (k:Nat) (v x y z r:Int) (hp:∀ p,BJ (σ k) (pc k) (nd k) (A9 k) (tr k) ea p->BJ v x y z r ea p):FlRaw w L pv s (upd σ k v) ea (upd pc k x) (upd nd k y) (upd A9 k z) (upd tr k r):=by
 obtain ⟨G,g1,g2⟩:=h.tick;have:=h.Ie (G:=upd G k (G k)) (by rw [AA G k rfl];exact g1) (Wr.refl _ w) (D8 g2 k (hp _ (g2 k)));exact this
theorem Du (h:FlRaw w L pv s σ ea pc nd A9 tr) (k:Nat) (v x y z r:Int) (hp:∀ p,BJ (σ k) (pc k) (nd k) (A9 k) (tr k) ea p->BJ v x y z r ea {p with st:=x-1}) (c:Int) (hc:c=x-1):
  FlRaw (w.setCell ⟨L.tb,k*4,none⟩ (.int .i64 c)) L pv s (upd σ k v) ea (upd pc k x) (upd nd k y) (upd A9 k z) (upd tr k r)/\Wr (One L.tb) w (w.setCell ⟨L.tb,k*4,none⟩ (.int .i64 c)):=by
 subst hc;obtain ⟨G,g1,g2⟩:=h.tick;have hW:Wr (One L.tb) w (w.setCell ⟨L.tb,k*4,none⟩ (.int .i64 (x-1))):=(Wr.refl _ w).setCell _ _ λ_=>rfl;refine ⟨h.Ie (G:=upd G k {G k with st:=x-1}) ?_ hW (D8 g2 k (hp _ (g2 k))),hW⟩;rw [A3 g1,List.setIfInBounds_toArray];rw [show (BS s.n G).set (k*4) (.int .i64 (x-1))=BS s.n (upd G k {G k with st:=x-1}) from BD s.n G k 0 _ _ (by decide) rfl]
theorem cw (h:FlRaw w L pv s σ ea pc nd A9 tr) (k:Nat) (v x y z r:Int) (c:Int) (hp:∀ p,BJ (σ k) (pc k) (nd k) (A9 k) (tr k) ea p->BJ v x y z r ea {p with tr:=c}):
  FlRaw (w.setCell ⟨L.tb,k*4+1,none⟩ (.int .i64 c)) L pv s (upd σ k v) ea (upd pc k x) (upd nd k y) (upd A9 k z) (upd tr k r)/\Wr (One L.tb) w (w.setCell ⟨L.tb,k*4+1,none⟩ (.int .i64 c)):=by
 obtain ⟨G,g1,g2⟩:=h.tick;have hW:Wr (One L.tb) w (w.setCell ⟨L.tb,k*4+1,none⟩ (.int .i64 c)):=(Wr.refl _ w).setCell _ _ λ_=>rfl;refine ⟨h.Ie (G:=upd G k {G k with tr:=c}) ?_ hW (D8 g2 k (hp _ (g2 k))),hW⟩;rw [A3 g1,List.setIfInBounds_toArray,BD s.n G k 1 (.int .i64 c) {G k with tr:=c} (by decide) rfl]
theorem KQ (h:FlRaw w L pv s σ ea pc nd A9 tr) (k:Nat) (v x y z r:Int) (a b c d:Int) (hp:BJ v x y z r ea ⟨a,b,c,d⟩):
  FlRaw ((((w.setCell ⟨L.tb,k*4,none⟩ (.int .i64 a)).setCell ⟨L.tb,k*4+1,none⟩ (.int .i64 b)).setCell ⟨L.tb,k*4+2,none⟩ (.int .u32 c)).setCell ⟨L.tb,k*4+3,none⟩ (.int .u32 d)) L pv s (upd σ k v) ea (upd pc k x) (upd nd k y) (upd A9 k z) (upd tr k r)/\
   Wr (One L.tb) w ((((w.setCell ⟨L.tb,k*4,none⟩ (.int .i64 a)).setCell ⟨L.tb,k*4+1,none⟩ (.int .i64 b)).setCell ⟨L.tb,k*4+2,none⟩ (.int .u32 c)).setCell ⟨L.tb,k*4+3,none⟩ (.int .u32 d)):=by
 obtain ⟨G,g1,g2⟩:=h.tick
 have hW:Wr (One L.tb) w ((((w.setCell ⟨L.tb,k*4,none⟩ (.int .i64 a)).setCell ⟨L.tb,k*4+1,none⟩ (.int .i64 b)).setCell ⟨L.tb,k*4+2,none⟩ (.int .u32 c)).setCell ⟨L.tb,k*4+3,none⟩ (.int .u32 d)):=
  ((((Wr.refl (One L.tb) w).setCell ⟨L.tb,k*4,none⟩ (.int .i64 a) λ_=>rfl).setCell ⟨L.tb,k*4+1,none⟩ (.int .i64 b) λ_=>rfl).setCell ⟨L.tb,k*4+2,none⟩ (.int .u32 c) λ_=>rfl).setCell ⟨L.tb,k*4+3,none⟩ (.int .u32 d) λ_=>rfl
 refine ⟨h.Ie (G:=upd G k ⟨a,b,c,d⟩) ?_ hW (D8 g2 k hp),hW⟩;have s0:(BS s.n G).set (k*4) (.int .i64 a)=BS s.n (upd G k {G k with st:=a}):=BD s.n G k 0 _ _ (by decide) rfl
 rw [A3 (A3 (A3 (A3 g1 _ _) _ _) _ _),List.setIfInBounds_toArray,List.setIfInBounds_toArray,List.setIfInBounds_toArray,List.setIfInBounds_toArray,s0,
  BD s.n (upd G k {G k with st:=a}) k 1 (.int .i64 b) {G k with st:=a,tr:=b} (by decide) (by rw [upd_same];rfl),BF,
  BD s.n (upd G k {G k with st:=a,tr:=b}) k 2 (.int .u32 c) {G k with st:=a,tr:=b,nd:=c} (by decide) (by rw [upd_same];rfl),BF,
  BD s.n (upd G k {G k with st:=a,tr:=b,nd:=c}) k 3 (.int .u32 d) ⟨a,b,c,d⟩ (by decide) (by rw [upd_same];rfl),BF]
theorem use (h:FlRaw w L pv s σ ea pc nd A9 tr) (v:Value):FlRaw (w.setCell ⟨L.lb,1,none⟩ v) L v s σ ea pc nd A9 tr:=by
 have hW:Wr (One L.lb) w (w.setCell ⟨L.lb,1,none⟩ v):=(Wr.refl _ w).setCell _ _ λ_=>rfl;obtain ⟨Q,q1,q2,q3⟩:=h.obj;obtain ⟨G,g1,g2⟩:=h.tick;refine ⟨⟨Q,?_,q2.wrote hW λb hb e=>by have:=(q3 b hb).1;cases e;omega,q3⟩,h.seat.wrote hW (λe=>h.ne.2.2.2.2 e.symm) (λe=>h.ne.1 e.symm),⟨G,(hW.block _ (A2 g1) (λe=>h.ne.2.1 e.symm)).trans g1,g2⟩,h.np,h.ne,h.each,h.CM⟩;rw [A3 q1];rfl
theorem place (h:FlRaw w L pv s σ ea pc nd A9 tr) (q:Place) (hs:List Int):FlRaw w {L with q:=q,hs:=hs} pv s σ ea pc nd A9 tr:=⟨h.obj,h.seat,h.tick,h.np,h.ne,h.each,h.CM⟩
end FlRaw
abbrev Ey (w:World) (L:Lp) (pv:Value) (f:FL):Prop:=FlRaw w L pv f.s f.s.st f.ea f.pc f.nd f.A9 f.tr
structure LkM (w:World) (L:Lp) (f:FL) (σ:Nat->Int):Prop where
 raw:FlRaw w L (.pointer (some ⟨L.q.p,0,none⟩)) f.s σ f.ea f.pc f.nd f.A9 f.tr
 port:PortAt w L.q L.hs f.ps
 far:L.lb<L.q.k0/\L.p<L.q.k0/\L.b<L.q.k0/\L.tb<L.q.k0
 top:L.q.k3<=w.heap.size
abbrev LkAt (w:World) (L:Lp) (f:FL):Prop:=LkM w L f f.s.st
def LF (L:Lp) (k:Nat):Prop:=k=L.b\/k=L.tb\/Bk L.q.k0 L.q.k3 k
namespace LkM
variable {w w':World} {L:Lp} {f:FL} {σ:Nat->Int}
theorem wrote {S:Nat->Prop} (h:LkM w L f σ) (k:Wr S w w') (h5:∀ b,b<L.q.k3->¬ S b):LkM w' L f σ:=by
 have hf:=h.far;have hl:=h.port.place.le;exact ⟨h.raw.wrote k (h5 _ (by omega)) (h5 _ (by omega)) (h5 _ (by omega)) (h5 _ (by omega)) (λb hb _ _ _=>h5 b (by omega)),h.port.wrote k (λb _ b2=>h5 b b2),h.far,Nat.le_trans h.top k.size⟩
theorem after (h:LkM w L f σ) (k:Wr Nil w w'):LkM w' L f σ:=h.wrote k λ_ _=>id
theorem seats {s':SS} (h:LkAt w L f) (hS:SeatAt w' L.p L.b s') (hn:f.s.fB s') (k:Wr (One L.b) w w'):LkAt w' L {f with s:=s'}:=by
 have hr:=h.raw.Ja hS hn.1 (hn.2 h.raw.np).1 k;obtain ⟨G,g1,g2⟩:=hr.tick;exact ⟨⟨hr.obj,hr.seat,⟨G,g1,λj=>(g2 j).turn ((hn.2 h.raw.np).2 j)⟩,hr.np,hr.ne,hr.each,hr.CM⟩,h.port.wrote k (λb b1 _ e=>by have:=h.far.2.2.1;cases e;omega),h.far,Nat.le_trans h.top k.size⟩
theorem ends {s':SS} (h:LkM w L f σ) (hS:SeatAt w' L.p L.b s') (hn:s'.n=f.s.n) (hp:s'.UK) (hs:σ=s'.st) (k:Wr (One L.b) w w'):LkAt w' L {f with s:=s'}:=zz4n
theorem Ac {ps':AK} (h:LkM w L f σ) (hP:PortAt w' L.q L.hs ps') (k:Wr (Bk L.q.k0 L.q.k3) w w'):LkM w' L {f with ps:=ps'} σ:=
 ⟨h.raw.wrote k (λe=>by have:=h.far.1;unfold Bk at e;omega) (λe=>by have:=h.far.2.1;unfold Bk at e;omega) (λe=>by have:=h.far.2.2.1;unfold Bk at e;omega) (λe=>by have:=h.far.2.2.2;unfold Bk at e;omega) (λb hb _ _ _ e=>by have:=h.far.1;unfold Bk at e;omega),hP,h.far,Nat.le_trans h.top k.size⟩
theorem turns (h:LkM w L f σ) {σ' FY LY Gu Wb:Nat->Int} (k:FlRaw w' L (.pointer (some ⟨L.q.p,0,none⟩)) f.s σ' f.ea FY LY Gu Wb/\Wr (One L.tb) w w'):
  LkM w' L {f with pc:=FY,nd:=LY,A9:=Gu,tr:=Wb} σ'/\Wr (One L.tb) w w':=
 ⟨⟨k.1,h.port.wrote k.2 (λb b1 _ e=>by have:=h.far.2.2.2;cases e;omega),h.far,Nat.le_trans h.top k.2.size⟩,k.2⟩
theorem KV (h:LkM w L f σ) {σ' FY LY Gu Wb:Nat->Int} (k:FlRaw w L (.pointer (some ⟨L.q.p,0,none⟩)) f.s σ' f.ea FY LY Gu Wb):LkM w L {f with pc:=FY,nd:=LY,A9:=Gu,tr:=Wb} σ':=⟨k,h.port,h.far,h.top⟩
theorem wf (h:LkM w L f σ) (j:Int):0<=BK f.ps.ws j/\BK f.ps.ws j<4294967296:=h.port.mem.Ea j
theorem tell (h:LkM w L f σ) (t K a:Int):0<=A6 f.ps t K a/\A6 f.ps t K a<4294967296:=zz2c
theorem Cz (h:LkM w L f σ) {k:Nat} (hk:LF L k):k<w.heap.size:=zz5i
end LkM
def A_ (w:World) (L:Lp) (f:FL) (σ:Nat->Int) (v:Value) (e:Ending) (w':World):Prop:=e= .returned v/\LkM w' L f σ/\Wr (LF L) w w'
abbrev AP (w:World) (L:Lp) (f:FL) (v:Value) (e:Ending) (w':World):Prop:=A_ w L f f.s.st v e w'
theorem CH {w w':World} {L:Lp} (k:Wr (One L.b) w w'):Wr (LF L) w w':=k.mono λ_ _ e=> .inl e
theorem BH {w w':World} {L:Lp} (k:Wr (One L.tb) w w'):Wr (LF L) w w':=k.mono λ_ _ e=> .inr (.inl e)
theorem B_ {w w':World} {L:Lp} (k:Wr (Bk L.q.k0 L.q.k3) w w'):Wr (LF L) w w':=k.mono λ_ _ e=> .inr (.inr e)
theorem Hx {w w':World} {L:Lp} (k:Wr Nil w w'):Wr (LF L) w w':=k.mono λ_ _ e=>e.elim
theorem TA {w w' w'':World} {L:Lp} (h:Wr (LF L) w w') (k:Wr (LF L) w' w''):Wr (LF L) w w'':=h.trans k λ_ _ e=>e
def Eh (d:Dd):Array Value:= #[.int .i64 d.ev,.bool d.BW,.bool d.arr,.bool d.lead]
structure Fr (w:World) (B:Nat) (Y:World) (L:Lp) (f:FL) (σ:Nat->Int):Prop where
 lk:LkM Y L f σ
 wr:Wr (LF L) w Y
 res:Y.heap[B]? =some (.cells (Eh Dd.no) 102 (0,0))
 new:w.heap.size<=B
namespace Fr
variable {w X Y:World} {L:Lp} {f f':FL} {B:Nat} {σ σ':Nat->Int}
theorem start (h:LkM w L f σ):Fr w w.heap.size (w.alloc (.cells #[.int .i64 0,.bool false,.bool false,.bool false] 102)) L f σ:=
 ⟨h.after ((Wr.refl _ w).alloc _),(Wr.refl _ w).alloc _,Go.Deep.blk_alloc_new w _,Nat.le_refl _⟩
theorem after (h:Fr w B X L f σ) (k:Wr Nil X Y):Fr w B Y L f σ:=⟨h.lk.after k,h.wr.trans k λ_ _ e=>e.elim,(k.block _ (A2 h.res) id).trans h.res,h.new⟩
theorem drew (h:Fr w B X L f σ):Fr w B X.drew L f σ:=h.after ((Wr.refl _ X).drew)
theorem call {f0:FL} {σ0:Nat->Int} (h0:LkM w L f' σ') (h:Fr w B X L f σ) (hl:LkM Y L f0 σ0) (k:Wr (LF L) X Y):Fr w B Y L f0 σ0:=
 ⟨hl,h.wr.trans k λ_ _ e=>e,(k.block _ (A2 h.res) (λe=>by have:=h0.Cz e;have:=h.new;omega)).trans h.res,h.new⟩
theorem cell (h:Fr w B X L f σ):X.cell? ⟨B,0,none⟩=some (.int .i64 0)/\X.cell? ⟨B,1,none⟩=some (.bool false)/\X.cell? ⟨B,2,none⟩=some (.bool false)/\X.cell? ⟨B,3,none⟩=some (.bool false):=zz1z
theorem Am (h:Fr w B X L f σ):X.frozen? ⟨B,0,none⟩=false/\X.frozen? ⟨B,1,none⟩=false/\X.frozen? ⟨B,2,none⟩=false/\X.frozen? ⟨B,3,none⟩=false:=
 ⟨A4 h.res 0,A4 h.res 1,A4 h.res 2,A4 h.res 3⟩
end Fr
theorem AO {Y:World} {B:Nat} {t:TypeId} {cs:Array Value} (h:Y.heap[B]? =some (.cells cs t (0,0))) (h4:cs.size=4) (x0 x1 x2 x3:Value):
  ((((Y.setCell ⟨B,0,none⟩ x0).setCell ⟨B,1,none⟩ x1).setCell ⟨B,2,none⟩ x2).setCell ⟨B,3,none⟩ x3).heap[B]? =some (.cells #[x0,x1,x2,x3] t (0,0)):=zz1b
theorem C0 (Y:World) (B:Nat) (x0 x1 x2 x3:Value):Wr (One B) Y ((((Y.setCell ⟨B,0,none⟩ x0).setCell ⟨B,1,none⟩ x1).setCell ⟨B,2,none⟩ x2).setCell ⟨B,3,none⟩ x3):=
 ((((Wr.refl (One B) Y).setCell ⟨B,0,none⟩ x0 λ_=>rfl).setCell ⟨B,1,none⟩ x1 λ_=>rfl).setCell ⟨B,2,none⟩ x2 λ_=>rfl).setCell ⟨B,3,none⟩ x3 λ_=>rfl
theorem Fr.told {w Y:World} {L:Lp} {f f0:FL} {B:Nat} {σ σ0:Nat->Int} (h0:LkM w L f0 σ0) (h:Fr w B Y L f σ) (d:Dd):
  A_ w L f σ d.val (.returned d.val) ((((Y.setCell ⟨B,0,none⟩ (.int .i64 d.ev)).setCell ⟨B,1,none⟩ (.bool d.BW)).setCell ⟨B,2,none⟩ (.bool d.arr)).setCell ⟨B,3,none⟩ (.bool d.lead)):=zz18
theorem AB:(prog.info? 102).map (·.size)=some 4:=by kernel_rfl
set_option maxHeartbeats 8000000
open Go.RowKit Go.BigFrame
theorem Cu {w:World} {L:Lp} {pv:Value} {s:SS} {σ:Nat->Int} {ea:Nat} {pc nd A9 tr:Nat->Int} (h:FlRaw w L pv s σ ea pc nd A9 tr) (a:Addr):
  Calls prog 176 #[.pointer (some ⟨L.lb,0,none⟩),.pointer (some a)] w λe w'=>e= .returned (.tuple #[])/\w'=w.setCell ⟨L.lb,1,none⟩ (.pointer (some a)):=zz1t
theorem wraps {a x:Int} (h0:0<=a) (h1:a<=2000000) (h2:0<=x) (h3:x<4294967296):IntKind.i64.wrap x=x/\IntKind.i64.wrap (3*x)=3*x/\IntKind.i64.wrap (a+3*x)=a+3*x/\IntKind.i64.wrap (a+3*x-1)=a+3*x-1/\IntKind.i64.wrap (a+3*x-2)=a+3*x-2:=by
 rw [IntKind.wrap_i64,IntKind.wrap_i64,IntKind.wrap_i64,IntKind.wrap_i64,IntKind.wrap_i64];omega
theorem DV {w:World} {L:Lp} {f:FL} {σ:Nat->Int} (h:LkM w L f σ) (x:Int) (hx:0<=x/\x<4294967296):
  Calls prog 182 #[.pointer (some ⟨L.lb,0,none⟩),.int .u32 x] w λe w'=>e= .returned (.int .i64 (L.sA x))/\w=w':=by
 have c3:=h.raw.AV;obtain ⟨a0,a1,a2⟩:=h.raw.CM;obtain ⟨w1,w2,w3,w4,w5⟩:=wraps a0 a1 hx.1 hx.2;have e:L.sA x=L.a1+3*x-2:=by unfold Lp.sA;omega
 rw [e];clear h e w4;exact zzo
theorem E0 {w:World} {L:Lp} {f:FL} {σ:Nat->Int} (h:LkM w L f σ) (x:Int) (hx:0<=x/\x<4294967296):
  Calls prog 183 #[.pointer (some ⟨L.lb,0,none⟩),.int .u32 x] w λe w'=>e= .returned (.int .i64 (L.nA x))/\w=w':=by
 have c3:=h.raw.AV;obtain ⟨a0,a1,a2⟩:=h.raw.CM;obtain ⟨w1,w2,w3,w4,w5⟩:=wraps a0 a1 hx.1 hx.2;have e:L.nA x=L.a1+3*x-1:=by unfold Lp.nA;omega
 rw [e];clear h e w5;exact zzo
theorem Hu {w:World} {L:Lp} {f:FL} {σ:Nat->Int} (h:LkM w L f σ) (x:Int) (hx:0<=x/\x<4294967296):
  Calls prog 181 #[.pointer (some ⟨L.lb,0,none⟩),.int .u32 x] w λe w'=>e= .returned (.int .i64 (L.oA x))/\w=w':=by
 have c3:=h.raw.AV;obtain ⟨a0,a1,a2⟩:=h.raw.CM;obtain ⟨w1,w2,w3,w4,w5⟩:=wraps a0 a1 hx.1 hx.2;have e:L.oA x=L.a1+3*x:=by unfold Lp.oA;omega
 rw [e];clear h e w4 w5;exact zzo
theorem BJ.next {pc FY nd A9 tr:Int} {ea:Nat} {p:Pc} (h:BJ 1 pc nd A9 tr ea p) (h1:2<=pc) (h2:2<=FY/\FY<=8) (h6:6<=FY->6<=pc):BJ 1 FY nd A9 tr ea {p with st:=FY-1}:=
 ⟨rfl,by omega,h.nr,h.Nu,λq=>absurd rfl q,h.U9,λ_ q=>by omega,λ_=>h.n0 (by omega),λq=>by omega,λ_ q=>h.o1 rfl (h6 q),λq=>by omega,λq=>absurd rfl q,λq=>by omega,h.pn,h.po⟩
theorem BJ.Gs {pc FY nd A9 tr:Int} {ea:Nat} {p:Pc} (h:BJ 3 pc nd A9 tr ea p) (h2:2<=FY/\FY<=6) (h6:FY=4\/FY=5->pc=4\/pc=5):BJ 3 FY nd A9 tr ea {p with st:=FY-1}:=
 ⟨rfl,by omega,h.nr,h.Nu,h.Ya,h.U9,λ_ q=>by omega,λ_=>h.n1 (.inr rfl),λ_=>h.n1 (.inr rfl),λq=>by omega,λ_ q=>h.o3 rfl (h6 q),λ_ q=>absurd rfl q,λ_=>by omega,h.pn,h.po⟩
theorem BJ.X6 {y z:Int} {ea:Nat} (hy:0<=y/\y<4294967296) (hz:0<=z/\z<4294967296) (he:1<=ea):BJ 0 1 y z 0 ea ⟨0,0,0,0⟩:=
 ⟨rfl,by omega,hy,hz,λ_=>rfl,by omega,λ_ _=>⟨by omega,rfl⟩,λq=>absurd rfl q,λq=>by omega,λq=>by omega,λq=>by omega,λ_ _=>rfl,λq=>by omega,(by show (0:Int)<=0/\(0:Int)<4294967296;decide),(by show (0:Int)<=0/\(0:Int)<4294967296;decide)⟩
theorem BJ.fu {y z:Int} {ea:Nat} (hy:0<=y/\y<4294967296) (hz:0<=z/\z<4294967296) (he:1<=ea):BJ 2 1 y z 0 ea ⟨0,0,y,0⟩:=
 ⟨rfl,by omega,hy,hz,λ_=>rfl,by omega,λ_ _=>⟨by omega,rfl⟩,λq=>absurd rfl q,λ_=>rfl,λq=>by omega,λq=>by omega,λ_ _=>rfl,λq=>by omega,hy,(by show (0:Int)<=0/\(0:Int)<4294967296;decide)⟩
theorem BJ.ae {y z r:Int} {ea:Nat} (hy:0<=y/\y<4294967296) (hz:0<=z/\z<4294967296) (hr:0<=r/\r<=ea):BJ 1 6 y z r ea ⟨5,0,y,z⟩:=
 ⟨rfl,by omega,hy,hz,λq=>absurd rfl q,hr,λ_ q=>by omega,λ_=>rfl,λ_=>rfl,λ_ _=>rfl,λ_ _=>rfl,λq=>absurd rfl q,λq=>by omega,hy,hz⟩
theorem BJ.Zr {y z:Int} {ea:Nat} (hy:0<=y/\y<4294967296) (hz:0<=z/\z<4294967296):BJ 3 4 y z 0 ea ⟨3,0,y,z⟩:=
 ⟨rfl,by omega,hy,hz,λ_=>rfl,by omega,λ_ q=>by omega,λ_=>rfl,λ_=>rfl,λ_ _=>rfl,λ_ _=>rfl,λ_ q=>absurd rfl q,λ_=>by omega,hy,hz⟩
theorem BJ.dS {y z r:Int} {ea:Nat} (hy:0<=y/\y<4294967296) (hz:0<=z/\z<4294967296) (hr:0<=r/\r<=ea):BJ 1 2 y z r ea ⟨1,0,y,0⟩:=
 ⟨rfl,by omega,hy,hz,λq=>absurd rfl q,hr,λ_ q=>by omega,λ_=>rfl,λ_=>rfl,λ_ q=>by omega,λq=>by omega,λq=>absurd rfl q,λq=>by omega,hy,(by show (0:Int)<=0/\(0:Int)<4294967296;decide)⟩
theorem BJ.cf {y z:Int} {ea:Nat} (hy:0<=y/\y<4294967296) (hz:0<=z/\z<4294967296) (he:1<=ea):BJ 3 1 y z 0 ea ⟨0,0,y,0⟩:=
 ⟨rfl,by omega,hy,hz,λ_=>rfl,by omega,λ_ _=>⟨by omega,rfl⟩,λq=>absurd rfl q,λ_=>rfl,λq=>by omega,λq=>by omega,λ_ q=>absurd rfl q,λ_=>by omega,hy,(by show (0:Int)<=0/\(0:Int)<4294967296;decide)⟩
theorem BJ.jF {y z r:Int} {ea:Nat} {p:Pc} (h:BJ 1 1 y z r ea p) {y':Int} (hy:0<=y'/\y'<4294967296) (hr:r+1<ea):BJ 1 1 y' z (r+1) ea {p with tr:=r+1}:=
 ⟨h.st,by omega,hy,h.Nu,λq=>absurd rfl q,(by have:=h.U9;omega),λ_ _=>⟨hr,rfl⟩,λq=>absurd rfl q,λq=>by omega,λ_ q=>by omega,λq=>by omega,λq=>absurd rfl q,λq=>by omega,h.pn,h.po⟩
theorem BJ.Zb {y z r c:Int} {ea:Nat} {p:Pc} (h:BJ 1 1 y z r ea p) {y':Int} (hy:0<=y'/\y'<4294967296):BJ 9 1 y' z 0 ea {p with tr:=c}:=
 ⟨h.st,by omega,hy,h.Nu,λ_=>rfl,by omega,λq=>absurd rfl q,λq=>absurd rfl q,λq=>by omega,λq=>by omega,λq=>by omega,λ_ _=>rfl,λq=>by omega,h.pn,h.po⟩
theorem EF {w:World} {L:Lp} {f:FL} {σ:Nat->Int} (h:LkM w L f σ) (k:Nat) (hk:k<f.s.n) (y:Int) (hy:0<=y/\y<4294967296) (ev:Int):
  Calls prog 188 #[.pointer (some ⟨L.tb,k*4,none⟩),.int .i64 ev] w (A_ w L {f with pc:=upd f.pc k 1,nd:=upd f.nd k y,A9:=upd f.A9 k (f.A9 k),tr:=upd f.tr k 0} (upd σ k 0) (Dd.val ⟨ev,false,false,false⟩)):=by
 have hF:=Fr.start h;obtain ⟨p,hp,t0,t1,t2,t3⟩:=hF.lk.raw.Aa hk;have z0:=hF.lk.raw.BO (k*4);have z1:=hF.lk.raw.BO (k*4+1);have z2:=hF.lk.raw.BO (k*4+2);have z3:=hF.lk.raw.BO (k*4+3);have hT:=hF.lk.turns (hF.lk.raw.KQ k 0 1 y (f.A9 k) 0 0 0 0 0 (BJ.X6 hy hp.Nu h.raw.each.1));have hA:=Fr.call h hF hT.1 (BH hT.2);obtain ⟨v0,v1,v2,v3⟩:=hA.cell;obtain ⟨x0,x1,x2,x3⟩:=hA.Am;have HE:=Qw (Qz h hA);clear h hF hT hA hp;exact zz2s
theorem Hs {w:World} {L:Lp} {f:FL} {σ:Nat->Int} (h:LkM w L f σ) (k:Nat) (hk:k<f.s.n) (hpc:f.pc k≠1) (z:Int) (hz:0<=z/\z<4294967296):
  Calls prog 190 #[.pointer (some ⟨L.tb,k*4,none⟩)] w (A_ w L {f with pc:=upd f.pc k 1,nd:=upd f.nd k (f.nd k),A9:=upd f.A9 k z,tr:=upd f.tr k 0} (upd σ k 2) (Dd.val ⟨1,false,false,false⟩)):=by
 have hF:=Fr.start h;obtain ⟨p,hp,t0,t1,t2,t3⟩:=hF.lk.raw.Aa hk;rw [hp.n0 hpc] at t2;have z0:=hF.lk.raw.BO (k*4);have z1:=hF.lk.raw.BO (k*4+1);have z2:=hF.lk.raw.BO (k*4+2);have z3:=hF.lk.raw.BO (k*4+3);have hT:=hF.lk.turns (hF.lk.raw.KQ k 2 1 (f.nd k) z 0 0 0 (f.nd k) 0 (BJ.fu hp.nr hz h.raw.each.1));have hA:=Fr.call h hF hT.1 (BH hT.2);obtain ⟨v0,v1,v2,v3⟩:=hA.cell;obtain ⟨x0,x1,x2,x3⟩:=hA.Am;have HE:=Qw (Qz h hA);clear h hF hT hA hp hpc
 go_in
 go_wp2;refine bodyPost_ret (v:=Dd.val ⟨1,false,false,false⟩) (results_cell_row rfl _ _ w.heap.size 102 _ (0,0) _ rfl (AO HE.out.2.res rfl _ _ _ _) underlying102 rfl AB) rfl (HE.out.2.told HE.out.1 ⟨1,false,false,false⟩)
theorem Gf {w:World} {L:Lp} {f:FL} {σ:Nat->Int} (h:LkM w L f σ) (k:Nat) (hk:k<f.s.n) (hpc:f.pc k≠1):
  Calls prog 184 #[.pointer (some ⟨L.tb,k*4,none⟩),.int .u32 0] w (A_ w L {f with pc:=upd f.pc k 1,nd:=upd f.nd k (f.nd k),A9:=upd f.A9 k 0,tr:=upd f.tr k 0} (upd σ k 2) (Dd.val ⟨1,true,false,false⟩)):=by
 have hF:=Fr.start h;obtain ⟨Z,hZ⟩:∃ Z,Z=w.alloc (.cells #[.int .i64 0,.bool false,.bool false,.bool false] 102):=⟨_,rfl⟩
 rw [<-hZ] at hF;have cH:=Hs hF.lk k hk hpc 0 (by decide);have HE:=Qw (Qz h hF);clear h hF hpc
 go_in
 go_wp2_with (first
  |(go_at_call 190;rw [<-hZ];(with_reducible refine cH.mono ?_);intro e w2 hq;unfold A_ at hq;obtain ⟨rfl,hB,hW⟩:=hq;have BX:=Fr.call HE.out.1 HE.out.2 hB hW;obtain ⟨v0,v1,v2,v3⟩:=BX.cell;obtain ⟨x0,x1,x2,x3⟩:=BX.Am;have HT:=Qw BX;clear hB BX hW))
 refine bodyPost_ret (v:=Dd.val ⟨1,true,false,false⟩) (results_cell_row rfl _ _ w.heap.size 102 _ (0,0) _ rfl (AO HT.out.res rfl _ _ _ _) underlying102 rfl AB) rfl (HT.out.told HE.out.1 ⟨1,true,false,false⟩)
theorem Gg {w:World} {L:Lp} {f:FL} {σ:Nat->Int} (h:LkM w L f σ) (k:Nat) (hk:k<f.s.n) (hpc:f.pc k≠1) (a:Int) (ha:0<=a/\a<4294967296) (hz:a≠0):
  Calls prog 184 #[.pointer (some ⟨L.tb,k*4,none⟩),.int .u32 a] w (A_ w L {f with pc:=upd f.pc k 6,nd:=upd f.nd k (f.nd k),A9:=upd f.A9 k a,tr:=upd f.tr k (f.tr k)} (upd σ k 1) (Dd.val ⟨0,true,false,false⟩)):=by
 have hF:=Fr.start h;obtain ⟨p,hp,t0,t1,t2,t3⟩:=hF.lk.raw.Aa hk;rw [hp.n0 hpc] at t2;have z0:=hF.lk.raw.BO (k*4);have z1:=hF.lk.raw.BO (k*4+1);have z2:=hF.lk.raw.BO (k*4+2);have z3:=hF.lk.raw.BO (k*4+3);have hT:=hF.lk.turns (hF.lk.raw.KQ k 1 6 (f.nd k) a (f.tr k) 5 0 (f.nd k) a (BJ.ae hp.nr ha hp.U9));have hA:=Fr.call h hF hT.1 (BH hT.2);obtain ⟨v0,v1,v2,v3⟩:=hA.cell;obtain ⟨x0,x1,x2,x3⟩:=hA.Am;have HE:=Qw (Qz h hA);have b1:(a==0)=false:=beq_false_of_ne hz;clear h hF hT hA hp hpc hz;exact zz2u
theorem Hr {w:World} {L:Lp} {f:FL} {σ:Nat->Int} (h:LkM w L f σ) (k:Nat) (hk:k<f.s.n) (hpc:f.pc k≠1) (a:Int) (ha:0<=a/\a<4294967296):
  Calls prog 184 #[.pointer (some ⟨L.tb,k*4,none⟩),.int .u32 a] w (A_ w L {f with pc:=upd f.pc k (if a=0 then 1 else 6),nd:=upd f.nd k (f.nd k),A9:=upd f.A9 k a,tr:=upd f.tr k (if a=0 then 0 else f.tr k)} (upd σ k (if a=0 then 2 else 1)) (Dd.val ⟨if a=0 then 1 else 0,true,false,false⟩)):=by
 by_cases hz:a=0
 ·subst hz;exact Gf h k hk hpc
 ·rw [Qq hz,Qq hz,Qq hz,Qq hz];exact Gg h k hk hpc a ha hz
def CD (w:World) (L:Lp) (f:FL) (σ:Nat->Int) (e:Ending) (w':World):Prop:=e= .returned (.tuple #[])/\LkM w' L f σ/\Wr (LF L) w w'
theorem LC {w:World} {L:Lp} {f:FL} {σ:Nat->Int} (h:LkM w L f σ) (k:Nat) (hk:k<f.s.n) (hs:σ k=3) (a:Int) (ha:0<=a/\a<4294967296) (hz:a≠0):
  Calls prog 187 #[.pointer (some ⟨L.tb,k*4,none⟩),.int .u32 a] w (CD w L {f with pc:=upd f.pc k 4,nd:=upd f.nd k (f.nd k),A9:=upd f.A9 k a,tr:=upd f.tr k (f.tr k)} (upd σ k 3)):=by
 obtain ⟨p,hp,t0,t1,t2,t3⟩:=h.raw.Aa hk;rw [hs] at hp;rw [hp.n1 (.inr rfl)] at t2;have z0:=h.raw.BO (k*4);have z1:=h.raw.BO (k*4+1);have z2:=h.raw.BO (k*4+2);have z3:=h.raw.BO (k*4+3);have hr:=hp.Ya (by decide);have hT:=h.turns (h.raw.KQ k 3 4 (f.nd k) a (f.tr k) 3 0 (f.nd k) a (by rw [hr];exact BJ.Zr hp.nr ha));have HE:=Qw hT;have b1:(a != 0)=true:=by simpa [bne,BEq.beq] using hz
 clear h hT hz hp hs hr;exact zz2r
theorem LD {w:World} {L:Lp} {f:FL} {σ:Nat->Int} (h:LkM w L f σ) (k:Nat) (hk:k<f.s.n) (hs:σ k=3) (hpc:f.pc k=1):
  Calls prog 187 #[.pointer (some ⟨L.tb,k*4,none⟩),.int .u32 0] w (CD w L {f with pc:=upd f.pc k 2,nd:=upd f.nd k (f.nd k),A9:=upd f.A9 k 0,tr:=upd f.tr k (f.tr k)} (upd σ k 3)):=by
 obtain ⟨p,hp,t0,t1,t2,t3⟩:=h.raw.Aa hk;rw [hpc] at t0;have z0:=h.raw.BO (k*4);have hT:=h.turns (h.raw.Du k 3 2 (f.nd k) 0 (f.tr k) (λp hp=>by rw [hs] at hp;have:=hp.Gs (FY:=2) (by decide) (by omega);exact ⟨this.st,this.pr,this.nr,by omega,this.Ya,this.U9,this.U_,this.n0,this.n1,λq=>by omega,λ_ q=>by omega,this.idle,this.rel,this.pn,this.po⟩) 1 rfl);have HE:=Qw hT;clear h hT hp hs hpc;exact zz2r
theorem LG {w:World} {L:Lp} {f:FL} {σ:Nat->Int} (h:LkM w L f σ) (k:Nat) (hk:k<f.s.n) (hs:σ k=3) (hpc:f.pc k=3):
  Calls prog 187 #[.pointer (some ⟨L.tb,k*4,none⟩),.int .u32 0] w (CD w L {f with pc:=upd f.pc k 3,nd:=upd f.nd k (f.nd k),A9:=upd f.A9 k 0,tr:=upd f.tr k (f.tr k)} (upd σ k 3)):=by
 obtain ⟨p,hp,t0,t1,t2,t3⟩:=h.raw.Aa hk;rw [hpc] at t0;have hT:=h.KV (h.raw.I6 k 3 3 (f.nd k) 0 (f.tr k) (λp hp=>by rw [hs,hpc] at hp;exact ⟨hp.st,hp.pr,hp.nr,by omega,hp.Ya,hp.U9,hp.U_,hp.n0,hp.n1,λq=>by omega,λ_ q=>by omega,hp.idle,hp.rel,hp.pn,hp.po⟩));have HE:=Qw hT;clear h hT hp hs hpc
 go_in
 go_wp2
 go_end0
 exact ⟨rfl,HE.out,Wr.refl _ _⟩
theorem Fj {w:World} {L:Lp} {f:FL} {σ:Nat->Int} (h:LkM w L f σ) (k:Nat) (hk:k<f.s.n) (hs:σ k=3) (x:Int) (hp:(f.pc k=1/\x=2)\/(f.pc k=3/\x=3)) (a:Int) (ha:0<=a/\a<4294967296):
  Calls prog 187 #[.pointer (some ⟨L.tb,k*4,none⟩),.int .u32 a] w (CD w L {f with pc:=upd f.pc k (if a=0 then x else 4),nd:=upd f.nd k (f.nd k),A9:=upd f.A9 k a,tr:=upd f.tr k (f.tr k)} (upd σ k 3)):=by
 by_cases hz:a=0
 ·subst hz
  rw [Qj rfl];rcases hp with ⟨hp,rfl⟩|⟨hp,rfl⟩
  ·exact LD h k hk hs hp
  ·exact LG h k hk hs hp
 ·rw [Qq hz];exact LC h k hk hs a ha hz
theorem EE {w:World} {L:Lp} {f:FL} (h:LkAt w L f) (k:Nat) (hk:k<f.s.n) (u x:Int) (hs:f.s.st k=1) (hd:f.pc k=2) (hD:f.ps.D.length<4611686018427387904):
  Calls prog 178 #[.pointer (some ⟨L.lb,0,none⟩),.int .i64 (k:Int),.int .i64 u,.int .i64 x] w (A_ w L (f.acq L k u x) (upd f.s.st k (Ai 1 (f.A7 L k u x).ev)) (f.A7 L k u x).val):=by
 have e1:f.acq L k u x={f with pc:=upd f.pc k 3,nd:=upd f.nd k (f.nd k),A9:=upd f.A9 k (f.A9 k),tr:=upd f.tr k (f.tr k),ps:=A5 f.ps u 2 (L.oA (f.nd k)) 0 1}:=by unfold FL.acq;rw [Qq (by omega),Qj hd,AA f.nd k rfl,AA f.A9 k rfl,AA f.tr k rfl]
 have e2:f.A7 L k u x=Dd.no:=by unfold FL.A7;rw [Qq (by omega),Qj hd]
 rw [e1,e2];rw [show Ai 1 (Dd.ev Dd.no)=1 from by decide];clear e1 e2;have hF:=Fr.start h;obtain ⟨Z,hZ⟩:∃ Z,Z=w.alloc (.cells #[.int .i64 0,.bool false,.bool false,.bool false] 102):=⟨_,rfl⟩
 rw [<-hZ] at hF;have Cy:(k:Int)<f.s.n:=by omega
 have c4:=hF.lk.raw.Av;obtain ⟨p,hp,t0,t1,t2,t3⟩:=hF.lk.raw.Aa hk;rw [hs,hd] at hp;rw [hd] at t0;have n2:Z.drew.cell? ⟨L.tb,k*4+2,none⟩=some (.int .u32 (f.nd k)):=by rw [<-hp.n0 (by decide)];exact t2
 have c1:=hF.drew.lk.raw.cell1;have c3:=hF.drew.lk.raw.AV;rw [hZ] at c4 t0;have cG:=Hu hF.drew.lk (f.nd k) hp.nr;have cA:=B0 hF.drew.lk.port u (L.oA (f.nd k)) 1 (by decide) (by decide) hD;have EK:=Qw (λ(W:World) (g:LkM W L {f with ps:=A5 f.ps u 2 (L.oA (f.nd k)) 0 1} f.s.st)=>g.turns (g.raw.Du k 1 3 (f.nd k) (f.A9 k) (f.tr k) (λp hp=>by rw [hs,hd] at hp;exact hp.next (by decide) (by decide) (by decide)) 2 rfl));exact zz74
theorem LA {w:World} {L:Lp} {f:FL} (h:LkAt w L f) (k:Nat) (hk:k<f.s.n) (u x:Int) (hs:f.s.st k=1) (hd:f.pc k=3) (hD:f.ps.D.length<4611686018427387904):
  Calls prog 178 #[.pointer (some ⟨L.lb,0,none⟩),.int .i64 (k:Int),.int .i64 u,.int .i64 x] w (A_ w L (f.acq L k u x) (upd f.s.st k (Ai 1 (f.A7 L k u x).ev)) (f.A7 L k u x).val):=by
 have e1:f.acq L k u x={f with pc:=upd f.pc k 4,nd:=upd f.nd k (f.nd k),A9:=upd f.A9 k (f.A9 k),tr:=upd f.tr k (f.tr k),ps:=A5 f.ps u 2 (L.sA (f.nd k)) 0 0}:=by unfold FL.acq;rw [Qq (by omega),Qq (by omega),Qj hd,AA f.nd k rfl,AA f.A9 k rfl,AA f.tr k rfl]
 have e2:f.A7 L k u x=Dd.no:=by unfold FL.A7;rw [Qq (by omega),Qq (by omega),Qj hd]
 rw [e1,e2];rw [show Ai 1 (Dd.ev Dd.no)=1 from by decide];clear e1 e2;have hF:=Fr.start h;obtain ⟨Z,hZ⟩:∃ Z,Z=w.alloc (.cells #[.int .i64 0,.bool false,.bool false,.bool false] 102):=⟨_,rfl⟩
 rw [<-hZ] at hF;have Cy:(k:Int)<f.s.n:=by omega
 have c4:=hF.lk.raw.Av;obtain ⟨p,hp,t0,t1,t2,t3⟩:=hF.lk.raw.Aa hk;rw [hs,hd] at hp;rw [hd] at t0;have n2:Z.drew.cell? ⟨L.tb,k*4+2,none⟩=some (.int .u32 (f.nd k)):=by rw [<-hp.n0 (by decide)];exact t2
 have c1:=hF.drew.lk.raw.cell1;have c3:=hF.drew.lk.raw.AV;rw [hZ] at c4 t0;have cG:=DV hF.drew.lk (f.nd k) hp.nr;have cA:=B0 hF.drew.lk.port u (L.sA (f.nd k)) 0 (by decide) (by decide) hD;have EK:=Qw (λ(W:World) (g:LkM W L {f with ps:=A5 f.ps u 2 (L.sA (f.nd k)) 0 0} f.s.st)=>g.turns (g.raw.Du k 1 4 (f.nd k) (f.A9 k) (f.tr k) (λp hp=>by rw [hs,hd] at hp;exact hp.next (by decide) (by decide) (by decide)) 3 rfl));exact zz74
theorem LB {w:World} {L:Lp} {f:FL} (h:LkAt w L f) (k:Nat) (hk:k<f.s.n) (u x:Int) (hs:f.s.st k=1) (hd:f.pc k=4) (hD:f.ps.D.length<4611686018427387904):
  Calls prog 178 #[.pointer (some ⟨L.lb,0,none⟩),.int .i64 (k:Int),.int .i64 u,.int .i64 x] w (A_ w L (f.acq L k u x) (upd f.s.st k (Ai 1 (f.A7 L k u x).ev)) (f.A7 L k u x).val):=by
 have e1:f.acq L k u x={f with pc:=upd f.pc k 5,nd:=upd f.nd k (f.nd k),A9:=upd f.A9 k (f.A9 k),tr:=upd f.tr k (f.tr k),ps:=A5 f.ps u 2 (L.nA (f.nd k)) 0 0}:=by unfold FL.acq;rw [Qq (by omega),Qq (by omega),Qq (by omega),Qj hd,AA f.nd k rfl,AA f.A9 k rfl,AA f.tr k rfl]
 have e2:f.A7 L k u x=Dd.no:=by unfold FL.A7;rw [Qq (by omega),Qq (by omega),Qq (by omega),Qj hd]
 rw [e1,e2];rw [show Ai 1 (Dd.ev Dd.no)=1 from by decide];clear e1 e2;have hF:=Fr.start h;obtain ⟨Z,hZ⟩:∃ Z,Z=w.alloc (.cells #[.int .i64 0,.bool false,.bool false,.bool false] 102):=⟨_,rfl⟩
 rw [<-hZ] at hF;have Cy:(k:Int)<f.s.n:=by omega
 have c4:=hF.lk.raw.Av;obtain ⟨p,hp,t0,t1,t2,t3⟩:=hF.lk.raw.Aa hk;rw [hs,hd] at hp;rw [hd] at t0;have n2:Z.drew.cell? ⟨L.tb,k*4+2,none⟩=some (.int .u32 (f.nd k)):=by rw [<-hp.n0 (by decide)];exact t2
 have c1:=hF.drew.lk.raw.cell1;have c3:=hF.drew.lk.raw.AV;rw [hZ] at c4 t0;have cG:=E0 hF.drew.lk (f.nd k) hp.nr;have cA:=B0 hF.drew.lk.port u (L.nA (f.nd k)) 0 (by decide) (by decide) hD;have EK:=Qw (λ(W:World) (g:LkM W L {f with ps:=A5 f.ps u 2 (L.nA (f.nd k)) 0 0} f.s.st)=>g.turns (g.raw.Du k 1 5 (f.nd k) (f.A9 k) (f.tr k) (λp hp=>by rw [hs,hd] at hp;exact hp.next (by decide) (by decide) (by decide)) 4 rfl));exact zz74
theorem Ux {w:World} {L:Lp} {f:FL} (h:LkAt w L f) (k:Nat) (hk:k<f.s.n) (u x:Int) (hs:f.s.st k=1) (hd:f.pc k=6) (hD:f.ps.D.length<4611686018427387904):
  Calls prog 178 #[.pointer (some ⟨L.lb,0,none⟩),.int .i64 (k:Int),.int .i64 u,.int .i64 x] w (A_ w L (f.acq L k u x) (upd f.s.st k (Ai 1 (f.A7 L k u x).ev)) (f.A7 L k u x).val):=by
 have e1:f.acq L k u x={f with pc:=upd f.pc k 7,nd:=upd f.nd k (f.nd k),A9:=upd f.A9 k (f.A9 k),tr:=upd f.tr k (f.tr k),ps:=A5 f.ps u 2 (L.nA (f.A9 k)) 0 (f.nd k)}:=by unfold FL.acq;rw [Qq (by omega),Qq (by omega),Qq (by omega),Qq (by omega),Qq (by omega),Qj hd,AA f.nd k rfl,AA f.A9 k rfl,AA f.tr k rfl]
 have e2:f.A7 L k u x=Dd.no:=by unfold FL.A7;rw [Qq (by omega),Qq (by omega),Qq (by omega),Qq (by omega),Qq (by omega),Qj hd]
 rw [e1,e2];rw [show Ai 1 (Dd.ev Dd.no)=1 from by decide];clear e1 e2;have hF:=Fr.start h;obtain ⟨Z,hZ⟩:∃ Z,Z=w.alloc (.cells #[.int .i64 0,.bool false,.bool false,.bool false] 102):=⟨_,rfl⟩
 rw [<-hZ] at hF;have Cy:(k:Int)<f.s.n:=by omega
 have c4:=hF.lk.raw.Av;obtain ⟨p,hp,t0,t1,t2,t3⟩:=hF.lk.raw.Aa hk;rw [hs,hd] at hp;rw [hd] at t0;have n2:Z.drew.cell? ⟨L.tb,k*4+2,none⟩=some (.int .u32 (f.nd k)):=by rw [<-hp.n0 (by decide)];exact t2
 have c1:=hF.drew.lk.raw.cell1;have c3:=hF.drew.lk.raw.AV;rw [hZ] at c4 t0;have n3:Z.drew.cell? ⟨L.tb,k*4+3,none⟩=some (.int .u32 (f.A9 k)):=by rw [<-hp.o1 rfl (by decide)];exact t3
 have cG:=E0 hF.drew.lk (f.A9 k) hp.Nu;have cA:=B0 hF.drew.lk.port u (L.nA (f.A9 k)) (f.nd k) hp.nr.1 hp.nr.2 hD;have EK:=Qw (λ(W:World) (g:LkM W L {f with ps:=A5 f.ps u 2 (L.nA (f.A9 k)) 0 (f.nd k)} f.s.st)=>g.turns (g.raw.Du k 1 7 (f.nd k) (f.A9 k) (f.tr k) (λp hp=>by rw [hs,hd] at hp;exact hp.next (by decide) (by decide) (by decide)) 6 rfl));have HN:=Qw (λ(q:Pc) (hq:BJ (f.s.st k) (f.pc k) (f.nd k) (f.A9 k) (f.tr k) f.ea q)=>hq.n0 (by omega));have HO:=Qw (λ(q:Pc) (hq:BJ (f.s.st k) (f.pc k) (f.nd k) (f.A9 k) (f.tr k) f.ea q) (h6:6<=f.pc k)=>hq.o1 hs h6);have H6:=Qw hd;have HE:=Qw (Qz h (Qz hk hF));clear h hF hs hd hp t1 t2 t3
 go_in
 go_wp2;rw [<-hZ];clear hZ;go_region_held3 (λw'=>w'.cell? ⟨L.lb,1,none⟩=some (.pointer (some ⟨L.q.p,0,none⟩))/\w'.cell? ⟨L.tb,k*4+2,none⟩=some (.int .u32 (f.nd k))/\w'.cell? ⟨L.tb,k*4+3,none⟩=some (.int .u32 (f.A9 k))) (first|exact ⟨c1,n2,n3⟩|exact ⟨d1,y2,y3⟩) (first|((with_reducible refine cG.mono ?_);rintro e w' ⟨rfl,rfl⟩)|((with_reducible refine cA.mono ?_);intro e w2 hq;unfold AE at hq;obtain ⟨rfl,hP,hW⟩:=hq;have hA:=HE.out.2.2.drew.lk.Ac hP hW;have AJ:=Fr.call HE.out.1 HE.out.2.2.drew hA (B_ hW);have d1:=hA.raw.cell1;have d3:=hA.raw.AV;obtain ⟨p',hp',y0,y1,y2,y3⟩:=hA.raw.Aa HE.out.2.1;rw [(show p'.nd=f.nd k from HN.out _ hp')] at y2;rw [(show p'.ot=f.A9 k from HO.out _ hp' (by rw [H6.out];decide))] at y3;have z0:=hA.raw.BO (k*4);have hT:=EK.out _ hA;have Az:=Fr.call HE.out.1 AJ hT.1 (BH hT.2);obtain ⟨v0,v1,v2,v3⟩:=Az.cell;obtain ⟨x0,x1,x2,x3⟩:=Az.Am;have HT:=Qw Az;clear Az hT;clear hA AJ hP hW hp'))
 go_wp2;exact zz0
theorem Uw {w:World} {L:Lp} {f:FL} (h:LkAt w L f) (k:Nat) (hk:k<f.s.n) (u x:Int) (hs:f.s.st k=1) (hd:f.pc k=5) (hD:f.ps.D.length<4611686018427387904):
  Calls prog 178 #[.pointer (some ⟨L.lb,0,none⟩),.int .i64 (k:Int),.int .i64 u,.int .i64 x] w (A_ w L (f.acq L k u x) (upd f.s.st k (Ai 1 (f.A7 L k u x).ev)) (f.A7 L k u x).val):=by
 have e1:f.acq L k u x={f with pc:=upd f.pc k (if A6 f.ps u 3 L.a1=0 then 1 else 6),nd:=upd f.nd k (f.nd k),A9:=upd f.A9 k (A6 f.ps u 3 L.a1),tr:=upd f.tr k (if A6 f.ps u 3 L.a1=0 then 0 else f.tr k),ps:=A5 f.ps u 3 L.a1 0 (f.nd k)}:=by unfold FL.acq;rw [Qq (by omega),Qq (by omega),Qq (by omega),Qq (by omega),Qj hd,AA f.nd k rfl]
 have e2:f.A7 L k u x=⟨if A6 f.ps u 3 L.a1=0 then 1 else 0,true,false,false⟩:=by unfold FL.A7;rw [Qq (by omega),Qq (by omega),Qq (by omega),Qq (by omega),Qj hd]
 rw [e1,e2];rw [show Ai 1 (Dd.ev ⟨if A6 f.ps u 3 L.a1=0 then 1 else 0,true,false,false⟩)=(if A6 f.ps u 3 L.a1=0 then 2 else 1) from by dsimp only;split<;>decide];clear e1 e2;have hF:=Fr.start h;obtain ⟨Z,hZ⟩:∃ Z,Z=w.alloc (.cells #[.int .i64 0,.bool false,.bool false,.bool false] 102):=⟨_,rfl⟩
 rw [<-hZ] at hF;have Cy:(k:Int)<f.s.n:=by omega
 have c4:=hF.lk.raw.Av;obtain ⟨p,hp,t0,t1,t2,t3⟩:=hF.lk.raw.Aa hk;rw [hs,hd] at hp;rw [hd] at t0;have n2:Z.drew.cell? ⟨L.tb,k*4+2,none⟩=some (.int .u32 (f.nd k)):=by rw [<-hp.n0 (by decide)];exact t2
 have c1:=hF.drew.lk.raw.cell1;have c3:=hF.drew.lk.raw.AV;rw [hZ] at c4 t0;have cA:=FA hF.drew.lk.port u L.a1 (f.nd k) hp.nr.1 hp.nr.2 hD;have hT0:=h.tell u 3 L.a1;generalize A6 f.ps u 3 L.a1=v at*;obtain ⟨ev,hev⟩:∃ ev:Int,ev=if v=0 then 1 else 0:=⟨_,rfl⟩
 obtain ⟨g,hg⟩:∃ g:FL,g={f with pc:=upd f.pc k (if v=0 then 1 else 6),nd:=upd f.nd k (f.nd k),A9:=upd f.A9 k v,tr:=upd f.tr k (if v=0 then 0 else f.tr k),ps:=A5 f.ps u 3 L.a1 0 (f.nd k)}:=⟨_,rfl⟩
 obtain ⟨σ',hσ⟩:∃ σ':Nat->Int,σ'=upd f.s.st k (if v=0 then 2 else 1):=⟨_,rfl⟩
 rw [<-hg,<-hσ,<-hev];have HC:RowKit.Hid (∀ W:World,LkM W L {f with ps:=A5 f.ps u 3 L.a1 0 (f.nd k)} f.s.st->Calls prog 184 #[.pointer (some ⟨L.tb,k*4,none⟩),.int .u32 v] W (A_ W L g σ' (Dd.val ⟨ev,true,false,false⟩))):=Qw (λW q=>by
  rw [hg,hσ,hev];exact Hr q k hk (show f.pc k≠1 by omega) v hT0)
 have HN:=Qw (λ(q:Pc) (hq:BJ (f.s.st k) (f.pc k) (f.nd k) (f.A9 k) (f.tr k) f.ea q)=>hq.n0 (by omega));have HQ:RowKit.Hid (k<g.s.n/\∀ q:Pc,BJ (σ' k) (g.pc k) (g.nd k) (g.A9 k) (g.tr k) g.ea q->q.nd=f.nd k):=Qw (by
  rw [hg,hσ];refine ⟨hk,λq hq=> ?_⟩;dsimp only at hq;rw [upd_same,upd_same,upd_same] at hq;by_cases hv:v=0
  ·rw [Qj hv,Qj hv] at hq;exact hq.n1 (.inl rfl)
  ·rw [Qq hv,Qq hv] at hq;exact hq.n0 (by decide))
 have HE:=Qw (Qz h (Qz hk hF));have HV:=Qw hev;clear h hF hs hd hp t1 t2 t3 hT0 hev hg hσ
 go_in
 go_wp2;rw [<-hZ];clear hZ;go_region_held3 (λw'=>w'.cell? ⟨L.lb,1,none⟩=some (.pointer (some ⟨L.q.p,0,none⟩))/\w'.cell? ⟨L.lb,3,none⟩=some (.int .i64 L.a1)/\w'.cell? ⟨L.tb,k*4+2,none⟩=some (.int .u32 (f.nd k))) (first|with_reducible exact ⟨d1,d3,y2⟩|with_reducible exact ⟨q1,q3,q2⟩|with_reducible exact ⟨r1,r3,r2⟩|exact ⟨c1,c3,n2⟩) (first|((with_reducible refine cA.mono ?_);intro e w2 hq;unfold AE at hq;obtain ⟨rfl,hP,hW⟩:=hq;have hA:=HE.out.2.2.drew.lk.Ac hP hW;have AJ:=Fr.call HE.out.1 HE.out.2.2.drew hA (B_ hW);have d1:=hA.raw.cell1;have d3:=hA.raw.AV;obtain ⟨p',hp',y0,y1,y2,y3⟩:=hA.raw.Aa HE.out.2.1;rw [(show p'.nd=f.nd k from HN.out _ hp')] at y2;have HA:=Qw AJ;have cE:=HC.out _ hA;clear hA AJ hP hW hp')|((with_reducible refine cE.mono ?_);intro e w3 hq;unfold A_ at hq;obtain ⟨rfl,hB,Ba⟩:=hq;dsimp only [Dd.val];have BX:=Fr.call HE.out.1 HA.out hB Ba;obtain ⟨v0,v1,v2,v3⟩:=BX.cell;obtain ⟨x0,x1,x2,x3⟩:=BX.Am;have q1:=hB.raw.cell1;have q3:=hB.raw.AV;obtain ⟨pB,UO,_,_,q2,_⟩:=hB.raw.Aa HQ.out.1;rw [HQ.out.2 pB UO] at q2;have hC:=(BX.told HE.out.1 ⟨ev,true,false,false⟩).2.1;have r1:=hC.raw.cell1;have r3:=hC.raw.AV;obtain ⟨pC,kD,_,_,r2,_⟩:=hC.raw.Aa HQ.out.1;rw [HQ.out.2 pC kD] at r2;have HT:=Qw BX;clear hB BX Ba hC UO kD))
 go_wp2;refine bodyPost_ret (v:=Dd.val ⟨ev,true,false,false⟩) (results_cell_row rfl _ _ w.heap.size 102 _ (0,0) _ rfl (AO HT.out.res rfl _ _ _ _) underlying102 rfl AB) rfl (HT.out.told HE.out.1 ⟨ev,true,false,false⟩)
end Go.Proofs.YtmnephejhkfchaaGreat.Ka
