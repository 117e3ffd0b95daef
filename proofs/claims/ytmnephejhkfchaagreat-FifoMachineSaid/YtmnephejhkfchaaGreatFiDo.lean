import Derived.Test.YtmnephejhkfchaaGreatFi
namespace Go.Proofs.YtmnephejhkfchaaGreat.Fi
set_option maxHeartbeats 8000000
open _root_.Go.Proofs.Tryz Go.Deep
open Go.RowKit Go.BigFrame
set_option linter.unusedVariables false
set_option maxRecDepth 100000
def stc (n:Nat) (s:Nat→Nat):Array Value:=((List.range n).map λi=>nv (s i)).toArray
theorem stc_at {n k:Nat} (s:Nat→Nat) (h:k<n):(stc n s)[k]? =some (nv (s k)):=by
 unfold stc
 rw [List.getElem?_toArray,List.getElem?_map,List.getElem?_range h]
 rfl
theorem stc_upd (n:Nat) (s:Nat→Nat) (t c:Nat):(stc n s).setIfInBounds t (nv c)=stc n (upd s t c):=by
 apply Array.ext_getElem?
 intro k
 rw [Array.getElem?_setIfInBounds]
 by_cases hk:k<n
 ·by_cases e:t=k
  ·subst e
   rw [if_pos rfl,if_pos (by simp [stc];exact hk),stc_at _ hk,upd_same]
  ·rw [if_neg e,stc_at _ hk,stc_at _ hk,upd_other _ _ (Ne.symm e)]
 ·have h1:∀ s:Nat→Nat,(stc n s)[k]? =none:=λs=>Array.getElem?_eq_none (by simp [stc];omega)
  rw [h1,h1]
  split
  ·rw [if_neg (by simp [stc];omega)]
  ·rfl
structure FaM (base:Nat) (w:World) (p sb n:Nat) (x:FA) (v:Value):Prop where
 box:w.heap[p]? =some (.cells #[.slice (some ⟨sb,0,none⟩) n n,v] 71 (0,0))
 row:w.heap[sb]? =some (.cells (stc n x.st) 3 (0,0))
 que:w.ownsRow base 3 1 v x.q.length (x.q.map nv)
 n64:n≤64
 low:p<base∧sb<base∧p≠sb
 top:base≤w.heap.size
structure FaAt (base:Nat) (w:World) (p sb n:Nat) (x:FA) (v:Value):Prop where
 m:FaM base w p sb n x v
 ok:x.Ok n
def FT (p sb base k:Nat):Prop:=k=p∨k=sb∨base≤k
section
variable {base p sb n:Nat} {w w':World} {x:FA} {v:Value}
namespace FaM
theorem lt (h:FaM base w p sb n x v):∀ k,v.ownBlock=some k→base≤k∧k<w.heap.size:=λk hk=>h.que.lt k hk
theorem wrote {S:Nat→Prop} (h:FaM base w p sb n x v) (k:Wr S w w') (hS:∀ b,S b→w.heap.size≤b):FaM base w' p sb n x v:=by
 have h1:=h.low
 have h2:=h.top
 have h3:=k.size
 exact ⟨(k.block _ (blk_lt h.box) λe=>by have:=hS _ e;omega).trans h.box,(k.block _ (blk_lt h.row) λe=>by have:=hS _ e;omega).trans h.row,
  ownsRow_keep h.que λj hj=>k.block j (h.lt j hj).2 λe=>by have:=hS _ e;have:=h.lt j hj;omega,h.n64,h1,by omega⟩
theorem after (h:FaM base w p sb n x v) (k:Wr Nil w w'):FaM base w' p sb n x v:=h.wrote k λ_ e=>e.elim
theorem c0 (h:FaM base w p sb n x v):w.cell? ⟨p,0,none⟩=some (.slice (some ⟨sb,0,none⟩) n n):=(blk_cell h.box 0).trans rfl
theorem c1 (h:FaM base w p sb n x v):w.cell? ⟨p,1,none⟩=some v:=(blk_cell h.box 1).trans rfl
theorem fz (h:FaM base w p sb n x v) (j:Nat):w.frozen? ⟨p,j,none⟩=false:=blk_frozen h.box j
theorem sc (h:FaM base w p sb n x v) {i:Nat} (hi:i<n):w.cell? ⟨sb,i,none⟩=some (.int .i64 (x.st i:Int)):=by rw [blk_cell h.row,stc_at _ hi];rfl
theorem sf (h:FaM base w p sb n x v) (j:Nat):w.frozen? ⟨sb,j,none⟩=false:=blk_frozen h.row j
theorem put {q:List Nat} {v':Value} {S:Nat→Prop} (h:FaM base w p sb n x v) (k:Wr S w w') (hS:∀ b,S b→base≤b) (ho:w'.ownsRow base 3 1 v' q.length (q.map nv)):FaM base (w'.setCell ⟨p,1,none⟩ v') p sb n ⟨x.st,q⟩ v':=by
 have h1:=h.low
 have h2:=h.top
 have h3:=k.size
 have hb:w'.heap[p]? =_:=(k.block _ (blk_lt h.box) λe=>by have:=hS _ e;omega).trans h.box
 have hr:w'.heap[sb]? =_:=(k.block _ (blk_lt h.row) λe=>by have:=hS _ e;omega).trans h.row
 have kk:Wr (One p) w' (w'.setCell ⟨p,1,none⟩ v'):=(Wr.refl _ w').setCell _ _ λ_=>rfl
 refine ⟨?_,(kk.block _ (blk_lt hr) λe=>h1.2.2 e.symm).trans hr,ownsRow_keep ho λj hj=>kk.block j (ho.lt j hj).2 λe=>by have:=ho.lt j hj;unfold One at e;omega,h.n64,h1,by rw [nblk_setCell];omega⟩
 have h4:=blk_setCell hb 1 v'
 exact h4
theorem setS (h:FaM base w p sb n x v) (t c:Nat):FaM base (w.setCell ⟨sb,t,none⟩ (.int .i64 (c:Int))) p sb n ⟨upd x.st t c,x.q⟩ v:=by
 have h1:=h.low
 have kk:Wr (One sb) w (w.setCell ⟨sb,t,none⟩ (.int .i64 (c:Int))):=(Wr.refl _ w).setCell _ _ λ_=>rfl
 refine ⟨(kk.block _ (blk_lt h.box) λe=>h1.2.2 e).trans h.box,?_,ownsRow_keep h.que λj hj=>kk.block j (h.lt j hj).2 λe=>by have:=h.lt j hj;unfold One at e;omega,h.n64,h1,by rw [nblk_setCell];exact h.top⟩
 have h2:=blk_setCell h.row t (.int .i64 (c:Int))
 rw [show (Value.int .i64 (c:Int))=nv c from rfl,stc_upd] at h2
 exact h2
end FaM
theorem FaAt.after (h:FaAt base w p sb n x v) (k:Wr Nil w w'):FaAt base w' p sb n x v:=⟨h.m.after k,h.ok⟩
def FindPost (n:Nat) (s:Nat→Nat) (w:World) (e:Ending) (w':World):Prop:=w=w'∧((e= .returned (.int .i64 (-1))∧∀ u,u<n→s u≠3)∨∃ k,k<n∧s k=3∧e= .returned (.int .i64 (k:Int)))
theorem fi_find {s:Nat→Nat} (h:w.heap[sb]? =some (.cells (stc n s) 3 (0,0))) (hn:n≤64):
  Calls prog 70 #[.slice (some ⟨sb,0,none⟩) n n,.int .i64 3] w (FindPost n s w):=by
 have hc:∀ k,k<n→w.cell? ⟨sb,k,none⟩=some (.int .i64 (s k:Int)):=λk hk=>by rw [blk_cell h,stc_at _ hk];rfl
 have HC:=Lib.hid hc
 clear h hc
 go_enter func70,ntmps70
 go_wp2
 go_loop [5,8] (λ_ i=>∃ k:Nat,k≤n∧i= .int .i64 k∧Hid (∀ u,u<k→s u≠3)) (λ_ i=>n-(intOf i).toNat)
 case atStart=>exact ⟨0,Nat.zero_le _,rfl,Lib.hid λu hu=>by omega⟩
 case round=>
  obtain ⟨k,hk,rfl,hf⟩:=hrel
  by_cases hlt:k<n
  ·have c0:=HC.out k hlt
   obtain ⟨y,hy⟩:∃ y,y=s k:=⟨_,rfl⟩
   rw [←hy] at c0
   have HY:=Lib.hid hy
   clear hy
   by_cases h3:y=3
   ·subst h3
    go_wp2
    go_ret
    exact ⟨rfl,.inr ⟨k,hlt,HY.out.symm,rfl⟩⟩
   ·have h3':((3:Int)==(y:Int))=false:=beq_false_of_ne (by omega)
    have H3:=Lib.hid h3
    clear h3
    go_wp2
    go_round
    case rel=>
     refine ⟨k+1,by omega,by go_num,Lib.hid λu hu=> ?_⟩
     by_cases e:u=k
     ·subst e;rw [←HY.out];exact H3.out
     ·exact hf.out u (by omega)
    case measure=>simp [intOf];omega
  ·obtain rfl:k=n:=by omega
   go_wp2
   go_ret
   exact ⟨rfl,.inl ⟨rfl,hf.out⟩⟩
def HoldPost (n:Nat) (s:Nat→Nat) (w:World) (e:Ending) (w':World):Prop:=w=w'∧((e= .returned (.tuple #[.int .i64 0,.bool false])∧∀ u,u<n→s u≠3)∨∃ k,k<n∧s k=3∧e= .returned (.tuple #[.int .i64 (k:Int),.bool true]))
theorem fi_holder (h:FaM base w p sb n x v):Calls prog 65 #[.pointer (some ⟨p,0,none⟩)] w (HoldPost n x.st w):=by
 have c0:=h.c0
 have cF:=fi_find h.row h.n64
 clear h
 go_enter func65,ntmps65
 go_upto_region 2 with (go_at_call 70;(with_reducible refine cF.mono ?_);intro e w' hq;unfold FindPost at hq;obtain ⟨rfl,hq⟩:=hq;rcases hq with ⟨rfl,hq⟩|⟨k,hk,h3,rfl⟩)
 ·have HQ:=Lib.hid hq
  clear hq
  go_wp2
  go_returns
  exact ⟨rfl,.inl ⟨rfl,HQ.out⟩⟩
 ·have HQ:=Lib.hid (And.intro hk h3)
  have hk':((k:Int)== -1)=false:=beq_false_of_ne (by omega)
  clear h3
  go_wp2
  go_returns
  exact ⟨rfl,.inr ⟨k,HQ.out.1,HQ.out.2,rfl⟩⟩
def NextB (n:Nat) (x:FA) (t:Nat):Prop:=x.q.head? =some t∧∀ u,u<n→x.st u≠3
def IsPost (n:Nat) (x:FA) (t:Nat) (w:World) (e:Ending) (w':World):Prop:=w=w'∧∃ b,e= .returned (.bool b)∧(b=true↔NextB n x t)
theorem fi_isNext (h:FaAt base w p sb n x v) (t:Nat):Calls prog 45 #[.pointer (some ⟨p,0,none⟩),.int .i64 (t:Int)] w (IsPost n x t w):=by
 have c1:=h.m.c1
 have cH:=fi_holder h.m
 have hfew:=h.ok.few
 have h64:=h.m.n64
 obtain ⟨so,cap,rfl,_⟩:=own_slice h.m.que
 have hcell:=row_cell h.m.que
 clear h
 go_enter func45,ntmps45
 go_upto_region 2 with (go_at_call 65;(with_reducible refine cH.mono ?_);intro e w' hq;unfold HoldPost at hq;obtain ⟨rfl,hq⟩:=hq;rcases hq with ⟨rfl,hq⟩|⟨k,hk,h3,rfl⟩)
 ·cases hl:x.q with
  |nil=>
   rw [hl] at c1
   have HQ:=Lib.hid hl
   clear hl hq hcell
   go_wp2
   go_ret
   exact ⟨rfl,false,rfl,by unfold NextB;rw [HQ.out];simp⟩
  |cons a r=>
   rw [hl] at c1 hcell hfew
   rcases hcell with h0|⟨g,rfl,hcell⟩
   ·cases h0
   have e0:=hcell 0 a rfl
   have HQ:=Lib.hid (And.intro hl hq)
   have hlen:(a::r).length≤64:=by omega
   have hlen0:0<(a::r).length:=Nat.zero_lt_succ _
   clear hl hq hcell
   generalize (a::r).length=m at*
   have g1:decide (((0:Nat):Int)<(m:Int))=true:=decide_eq_true (by omega)
   have g2:decide ((0:Int)<(m:Int))=true:=decide_eq_true (by omega)
   go_wp2
   go_ret
   refine ⟨rfl,_,rfl,?_⟩
   unfold NextB
   rw [HQ.out.1,beq_iff_eq]
   exact ⟨λe=>⟨congrArg some (by omega),HQ.out.2⟩,λe=>by have:=e.1;simp at this;omega⟩
 ·have HQ:=Lib.hid (And.intro hk h3)
  clear h3 hcell
  go_wp2
  go_ret
  exact ⟨rfl,false,rfl,by unfold NextB;exact ⟨λe=>(by cases e),λe=>absurd HQ.out.2 (e.2 _ HQ.out.1)⟩⟩
def NxPost (n:Nat) (x:FA) (e0:Ent) (w:World) (e:Ending) (w':World):Prop:=Wr Nil w w'∧∃ (c:Int) (b:Bool),e= .returned (.tuple #[.int .i64 c,.bool b])∧(b=true↔x.fits n e0)∧(b=true→c=(FA.nx e0.k:Nat))
theorem nx_no {e0:Ent} {w:World} {c:Int} (h:¬ x.fits n e0) (k:Wr Nil w w'):NxPost n x e0 w (.returned (.tuple #[.int .i64 c,.bool false])) w':=⟨k,c,false,rfl,⟨λe=>(by cases e),λe=>absurd e h⟩,λe=>by cases e⟩
theorem nx_at {e0:Ent} {w:World} {c:Int} {b:Bool} (hb:b=true↔x.fits n e0) (hc:c=(FA.nx e0.k:Nat)) (k:Wr Nil w w'):NxPost n x e0 w (.returned (.tuple #[.int .i64 c,.bool b])) w':=⟨k,c,b,rfl,hb,λ_=>hc⟩
theorem fits_lead {e0:Ent} (h:e0.lead=true):¬ x.fits n e0:=λq=>q.1 (.inl h)
theorem fits_out {e0:Ent} (h:¬ (0≤e0.t∧e0.t<n)):¬ x.fits n e0:=λq=>q.1 (.inr h)
theorem fits_in {t:Nat} {k z:Int} (ht:t<n):x.fits n ⟨k,t,z,false⟩↔((k=1∧x.st t=0)∨(k=2∧x.st t=1)∨(k=4∧NextB n x t)∨(k=5∧(x.st t=1∨x.st t=2))∨(k=6∧x.st t=3)∨(k=7∧x.st t=4)∨(k=8∧x.st t=1)):=by
 unfold FA.fits NextB
 simp only [Int.toNat_natCast]
 exact ⟨λh=>h.2,λh=>⟨by simp;omega,h⟩⟩
theorem fi_next (h:FaAt base w p sb n x v) (k t z:Int) (ld:Bool):Calls prog 31 #[.pointer (some ⟨p,0,none⟩),.agg #[.int .i64 k,.int .i64 t,.int .i64 z,.bool ld]] w (NxPost n x ⟨k,t,z,ld⟩ w):=by
 obtain ⟨X,hX⟩:∃ X,X=w.alloc (.cells #[.int .i64 k,.int .i64 t,.int .i64 z,.bool ld] 48):=⟨_,rfl⟩
 have hWX:Wr Nil w X:=by rw [hX];exact (Wr.refl _ w).alloc _
 have hM:=h.after hWX
 obtain ⟨B,hBe⟩:∃ B,B=w.heap.size:=⟨_,rfl⟩
 have hB:X.heap[B]? =some (.cells #[.int .i64 k,.int .i64 t,.int .i64 z,.bool ld] 48 (0,0)):=by rw [hX,hBe];exact blk_alloc_new _ _
 have e0:X.cell? ⟨B,0,none⟩=some (.int .i64 k):=(blk_cell hB 0).trans rfl
 have e1:X.cell? ⟨B,1,none⟩=some (.int .i64 t):=(blk_cell hB 1).trans rfl
 have e3:X.cell? ⟨B,3,none⟩=some (.bool ld):=(blk_cell hB 3).trans rfl
 have c0:=hM.m.c0
 have h64:=h.m.n64
 have HX:=Lib.hid (And.intro hX (And.intro hBe hWX))
 have HM:=Lib.hid hM
 clear h hX hBe hWX hB hM
 go_enter func31,ntmps31
 go_upto_region 1 with fail
 rw [←HX.out.1,←HX.out.2.1]
 cases ld with
 |true=>
  go_big_quiet (fail)
  go_wp2
  go_returns
  exact nx_no (fits_lead rfl) (HX.out.2.2.drewN _)
 |false=>
 by_cases t0:t<0
 ·have g0:decide (t<0)=true:=decide_eq_true t0
  go_big_quiet (fail)
  go_wp2
  go_returns
  exact nx_no (fits_out λq=>by have:=q.1;dsimp only at this;omega) (HX.out.2.2.drewN _)
 have g0:decide (t<0)=false:=decide_eq_false t0
 by_cases t1:(n:Int)≤t
 ·have g1:decide ((n:Int)≤t)=true:=decide_eq_true t1
  go_big_quiet (fail)
  go_wp2
  go_returns
  exact nx_no (fits_out λq=>by have:=q.2;dsimp only at this;omega) (HX.out.2.2.drewN _)
 have g1:decide ((n:Int)≤t)=false:=decide_eq_false t1
 obtain ⟨tt,rfl⟩:∃ tt:Nat,t=tt:=⟨t.toNat,by omega⟩
 have htn:tt<n:=by omega
 have hs:=HM.out.m.sc htn
 obtain ⟨y,hy⟩:∃ y,y=x.st tt:=⟨_,rfl⟩
 rw [←hy] at hs
 have hF:=fits_in (x:=x) (n:=n) (k:=k) (z:=z) htn
 rw [←hy] at hF
 have HF:=Lib.hid hF
 clear hF hy
 go_big_quiet (fail)
 generalize hY:X.drewN nq=Y
 have hWY:Wr Nil X Y:=by rw [←hY];exact (Wr.refl _ X).drewN _
 replace e0:=hWY.old e0
 replace e1:=hWY.old e1
 replace c0:=hWY.old c0
 replace hs:=hWY.old hs
 have HW:=Lib.hid (And.intro (HM.out.after hWY) (HX.out.2.2.nil hWY))
 clear hY hWY e3 HM HX
 go_upto_region 3 with fail
 go_big_quiet (fail)
 generalize hY:Y.drewN _=Z
 have hWZ:Wr Nil Y Z:=by rw [←hY];exact (Wr.refl _ Y).drewN _
 replace e0:=hWZ.old e0
 replace e1:=hWZ.old e1
 have HZ:=Lib.hid (HW.out.2.nil hWZ)
 have HM:=Lib.hid (HW.out.1.after hWZ)
 clear hY hWZ c0 hs HW g0 g1
 by_cases q1:k=1
 ·subst q1
  go_wp2
  go_returns
  exact nx_at (by rw [HF.out,beq_iff_eq];constructor;(intro h;exact .inl ⟨by first|rfl|trivial,by omega⟩);(intro h;omega)) rfl HZ.out
 have n1:((k:Int)==1)=false:=beq_false_of_ne q1
 by_cases q2:k=2
 ·subst q2
  clear n1
  go_wp2
  go_returns
  exact nx_at (by rw [HF.out,beq_iff_eq];constructor;(intro h;exact .inr (.inl ⟨by first|rfl|trivial,by omega⟩));(intro h;omega)) rfl HZ.out
 have n2:((k:Int)==2)=false:=beq_false_of_ne q2
 by_cases q4:k=4
 ·subst q4
  clear n1 n2
  have cN:=fi_isNext HM.out tt
  go_wp2_with (go_at_call 45;(with_reducible refine cN.mono ?_);intro e w' hq;unfold IsPost at hq;obtain ⟨rfl,b,rfl,hb⟩:=hq;have HB:=Lib.hid hb;clear hb)
  go_returns
  exact nx_at (by rw [HF.out,HB.out];exact ⟨λh=> .inr (.inr (.inl ⟨by first|rfl|trivial,h⟩)),λh=>by rcases h with h|h|h|h|h|h|h;all_goals first|exact h.2|(have:=h.1;omega)⟩) rfl HZ.out
 have n4:((k:Int)==4)=false:=beq_false_of_ne q4
 by_cases q5:k=5
 ·subst q5
  clear n1 n2 n4
  by_cases y1:y=1
  ·subst y1
   go_wp2
   go_returns
   exact nx_at (by rw [HF.out];exact ⟨λ_=> .inr (.inr (.inr (.inl ⟨by first|rfl|trivial,.inl (by first|rfl|trivial)⟩))),λ_=>rfl⟩) rfl HZ.out
  ·have m1:((y:Int)==1)=false:=beq_false_of_ne (by omega)
   have H1:=Lib.hid y1
   clear y1
   go_wp2
   go_returns
   exact nx_at (by have y1:=H1.out;rw [HF.out,beq_iff_eq];constructor;(intro h;exact .inr (.inr (.inr (.inl ⟨by first|rfl|trivial,.inr (by omega)⟩))));(intro h;omega)) rfl HZ.out
 have n5:((k:Int)==5)=false:=beq_false_of_ne q5
 by_cases q8:k=8
 ·subst q8
  clear n1 n2 n4 n5
  go_wp2
  go_returns
  exact nx_at (by rw [HF.out,beq_iff_eq];constructor;(intro h;exact .inr (.inr (.inr (.inr (.inr (.inr ⟨by first|rfl|trivial,by omega⟩))))));(intro h;omega)) rfl HZ.out
 have n8:((k:Int)==8)=false:=beq_false_of_ne q8
 by_cases q6:k=6
 ·subst q6
  clear n1 n2 n4 n5 n8
  go_wp2
  go_returns
  exact nx_at (by rw [HF.out,beq_iff_eq];constructor;(intro h;exact .inr (.inr (.inr (.inr (.inl ⟨by first|rfl|trivial,by omega⟩)))));(intro h;omega)) rfl HZ.out
 have n6:((k:Int)==6)=false:=beq_false_of_ne q6
 by_cases q7:k=7
 ·subst q7
  clear n1 n2 n4 n5 n8 n6
  go_wp2
  go_returns
  exact nx_at (by rw [HF.out,beq_iff_eq];constructor;(intro h;exact .inr (.inr (.inr (.inr (.inr (.inl ⟨by first|rfl|trivial,by omega⟩))))));(intro h;omega)) rfl HZ.out
 have n7:((k:Int)==7)=false:=beq_false_of_ne q7
 have HQ:=Lib.hid (And.intro q1 (And.intro q2 (And.intro q4 (And.intro q5 (And.intro q6 (And.intro q7 q8))))))
 clear q1 q2 q4 q5 q6 q7 q8
 go_wp2
 go_returns
 exact nx_no (λh=>by have h:=HF.out.1 h;obtain ⟨q1,q2,q4,q5,q6,q7,q8⟩:=HQ.out;omega) HZ.out
end
end Go.Proofs.YtmnephejhkfchaaGreat.Fi
