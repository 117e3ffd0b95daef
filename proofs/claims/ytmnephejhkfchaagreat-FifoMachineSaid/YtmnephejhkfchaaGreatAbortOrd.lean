import Derived.Test.YtmnephejhkfchaaGreatAbortCor
namespace Go.Proofs.YtmnephejhkfchaaGreat.Ka
set_option linter.unusedVariables false
set_option maxRecDepth 100000
theorem do_load {ps:PSta} {k i:Nat} {a:Int} (hk:k<ps.ac.length) (ha:a=((i:Nat):Int)) (hi:i<ps.ws.length):
  tellS ps k 1 a=ps.ws.getD i 0∧(doS ps k 1 a 0 0).ws=ps.ws∧(doS ps k 1 a 0 0).ac.length=ps.ac.length∧(doS ps k 1 a 0 0).D.length=ps.D.length+1:=by
 subst ha
 have ho:okS ps k 1 (i:Int)=true:=by simp [okS,okT];omega
 refine ⟨?_,?_,?_,?_⟩
 ·unfold tellS;rw [ho];simp [tellI,loadI]
 ·unfold doS;rw [ho];simp [doL]
 ·unfold doS;rw [ho];simp [touchS,bump_len]
 ·unfold doS;rw [ho];simp [touchS]
theorem do_store {ps:PSta} {k i:Nat} {a v:Int} (hk:k<ps.ac.length) (ha:a=((i:Nat):Int)) (hi:i<ps.ws.length):
  (doS ps k 2 a 0 v).ws=ps.ws.set i v∧(doS ps k 2 a 0 v).ac.length=ps.ac.length∧(doS ps k 2 a 0 v).D.length=ps.D.length+1:=by
 subst ha
 have ho:okS ps k 2 (i:Int)=true:=by simp [okS,okT];omega
 refine ⟨?_,?_,?_⟩
 ·unfold doS;rw [ho];simp [doL,storeL]
 ·unfold doS;rw [ho];simp [touchS,bump_len]
 ·unfold doS;rw [ho];simp [touchS]
theorem do_swap {ps:PSta} {k i:Nat} {a v:Int} (hk:k<ps.ac.length) (ha:a=((i:Nat):Int)) (hi:i<ps.ws.length):
  tellS ps k 3 a=ps.ws.getD i 0∧(doS ps k 3 a 0 v).ws=ps.ws.set i v∧(doS ps k 3 a 0 v).ac.length=ps.ac.length∧(doS ps k 3 a 0 v).D.length=ps.D.length+1:=by
 subst ha
 have ho:okS ps k 3 (i:Int)=true:=by simp [okS,okT];omega
 refine ⟨?_,?_,?_,?_⟩
 ·unfold tellS;rw [ho];simp [tellI,loadI]
 ·unfold doS;rw [ho];simp [doL,storeL]
 ·unfold doS;rw [ho];simp [touchS,bump_len]
 ·unfold doS;rw [ho];simp [touchS]
theorem do_cas {ps:PSta} {k i:Nat} {a old v:Int} (hk:k<ps.ac.length) (ha:a=((i:Nat):Int)) (hi:i<ps.ws.length):
  (casT ps k a old=true↔ps.ws.getD i 0=old)∧(doS ps k 4 a old v).ws=(if ps.ws.getD i 0=old then ps.ws.set i v else ps.ws)∧(doS ps k 4 a old v).ac.length=ps.ac.length∧(doS ps k 4 a old v).D.length=ps.D.length+1:=by
 subst ha
 have ho:okS ps k 4 (i:Int)=true:=by simp [okS,okT];omega
 have hb:casB ps.ws (i:Int) old=decide (ps.ws.getD i 0=old):=by unfold casB;rw [has_at hi,load_at];simp
 refine ⟨?_,?_,?_,?_⟩
 ·unfold casT;rw [hb,okT_at hk hi];simp
 ·unfold doS;rw [ho]
  show casL ps.ws (i:Int) old v=_
  unfold casL
  rw [hb]
  by_cases e:ps.ws.getD i 0=old
  ·rw [decide_eq_true e,if_pos rfl,if_pos e];simp [storeL]
  ·rw [decide_eq_false e,if_neg (by decide),if_neg e]
 ·unfold doS;rw [ho];simp [touchS,bump_len]
 ·unfold doS;rw [ho];simp [touchS]
theorem fin_none {s:SS} {k:Nat} {ev:Int} (h:behindI (s.st k) ev=none):s.fin k ev=s:=by
 unfold SS.fin endO
 split
 ·rename_i y hy
  split at hy
  ·rw [Int.toNat_natCast,h] at hy;cases hy
  ·cases hy
 ·rfl
theorem fin_some {s:SS} {k:Nat} {ev y:Int} (hk:k<s.n) (h:behindI (s.st k) ev=some y):s.fin k ev=s.set k y 0:=by
 have e:endO s k ev=some y:=by unfold endO;rw [if_pos (by omega),Int.toNat_natCast,h]
 unfold SS.fin
 rw [e,Int.toNat_natCast]
theorem fin_no (s:SS) (t:Nat):s.fin t Dd.no.ev=s:=fin_none (by
 unfold behindI
 rw [if_neg (λq=>absurd q.2 (by decide)),if_neg (λq=>q.2.elim (λq=>absurd q (by decide)) λq=>absurd q (by decide)),if_neg (λq=>absurd q.2 (by decide)),if_neg (λq=>q.2.elim (λq=>absurd q (by decide)) λq=>absurd q (by decide))])
def wT (ps:PSta):Int:=ps.ws.getD 0 0
def wS (ps:PSta):Nat→Int
 |0=>0
 |i+1=>ps.ws.getD (3*i+1) 0
def wN (ps:PSta):Nat→Int
 |0=>0
 |i+1=>ps.ws.getD (3*i+2) 0
def wO (ps:PSta):Nat→Int
 |0=>0
 |i+1=>ps.ws.getD (3*i+3) 0
theorem getD_set_same {l:List Int} {i:Nat} (v:Int) (h:i<l.length):(l.set i v).getD i 0=v:=by simp [h]
theorem getD_set_other {l:List Int} {i j:Nat} (v:Int) (h:i≠j):(l.set i v).getD j 0=l.getD j 0:=by
 rw [List.getD_eq_getElem?_getD,List.getElem?_set,if_neg h,←List.getD_eq_getElem?_getD]
theorem ws_same {ps ps':PSta} (h:ps'.ws=ps.ws):wT ps'=wT ps∧wS ps'=wS ps∧wN ps'=wN ps∧wO ps'=wO ps:=by
 refine ⟨by unfold wT;rw [h],funext λi=> ?_,funext λi=> ?_,funext λi=> ?_⟩<;>cases i<;>simp [wS,wN,wO,h]
theorem ws_tail {ps ps':PSta} {v:Int} (hl:0<ps.ws.length) (h:ps'.ws=ps.ws.set 0 v):wT ps'=v∧wS ps'=wS ps∧wN ps'=wN ps∧wO ps'=wO ps:=by
 refine ⟨by unfold wT;rw [h];exact getD_set_same v hl,funext λi=> ?_,funext λi=> ?_,funext λi=> ?_⟩
 ·cases i with
  |zero=>rfl
  |succ i=>show ps'.ws.getD _ 0=ps.ws.getD _ 0;rw [h];exact getD_set_other _ (by omega)
 ·cases i with
  |zero=>rfl
  |succ i=>show ps'.ws.getD _ 0=ps.ws.getD _ 0;rw [h];exact getD_set_other _ (by omega)
 ·cases i with
  |zero=>rfl
  |succ i=>show ps'.ws.getD _ 0=ps.ws.getD _ 0;rw [h];exact getD_set_other _ (by omega)
theorem ws_S {ps ps':PSta} {v:Int} {i:Nat} (hl:3*i+1<ps.ws.length) (h:ps'.ws=ps.ws.set (3*i+1) v):wT ps'=wT ps∧(wS ps' (i+1)=v∧∀ j,j≠i+1→wS ps' j=wS ps j)∧wN ps'=wN ps∧wO ps'=wO ps:=by
 refine ⟨by unfold wT;rw [h];exact getD_set_other _ (by omega),⟨?_,λj hj=> ?_⟩,funext λj=> ?_,funext λj=> ?_⟩
 ·show ps'.ws.getD (3*i+1) 0=v
  rw [h];exact getD_set_same v hl
 ·cases j with
  |zero=>rfl
  |succ j=>show ps'.ws.getD _ 0=ps.ws.getD _ 0;rw [h];exact getD_set_other _ (by omega)
 ·cases j with
  |zero=>rfl
  |succ j=>show ps'.ws.getD _ 0=ps.ws.getD _ 0;rw [h];exact getD_set_other _ (by omega)
 ·cases j with
  |zero=>rfl
  |succ j=>show ps'.ws.getD _ 0=ps.ws.getD _ 0;rw [h];exact getD_set_other _ (by omega)
theorem ws_N {ps ps':PSta} {v:Int} {i:Nat} (hl:3*i+2<ps.ws.length) (h:ps'.ws=ps.ws.set (3*i+2) v):wT ps'=wT ps∧wS ps'=wS ps∧(wN ps' (i+1)=v∧∀ j,j≠i+1→wN ps' j=wN ps j)∧wO ps'=wO ps:=by
 refine ⟨by unfold wT;rw [h];exact getD_set_other _ (by omega),funext λj=> ?_,⟨?_,λj hj=> ?_⟩,funext λj=> ?_⟩
 ·cases j with
  |zero=>rfl
  |succ j=>show ps'.ws.getD _ 0=ps.ws.getD _ 0;rw [h];exact getD_set_other _ (by omega)
 ·show ps'.ws.getD (3*i+2) 0=v
  rw [h];exact getD_set_same v hl
 ·cases j with
  |zero=>rfl
  |succ j=>show ps'.ws.getD _ 0=ps.ws.getD _ 0;rw [h];exact getD_set_other _ (by omega)
 ·cases j with
  |zero=>rfl
  |succ j=>show ps'.ws.getD _ 0=ps.ws.getD _ 0;rw [h];exact getD_set_other _ (by omega)
theorem ws_O {ps ps':PSta} {v:Int} {i:Nat} (hl:3*i+3<ps.ws.length) (h:ps'.ws=ps.ws.set (3*i+3) v):wT ps'=wT ps∧wS ps'=wS ps∧wN ps'=wN ps∧(wO ps' (i+1)=v∧∀ j,j≠i+1→wO ps' j=wO ps j):=by
 refine ⟨by unfold wT;rw [h];exact getD_set_other _ (by omega),funext λj=> ?_,funext λj=> ?_,⟨?_,λj hj=> ?_⟩⟩
 ·cases j with
  |zero=>rfl
  |succ j=>show ps'.ws.getD _ 0=ps.ws.getD _ 0;rw [h];exact getD_set_other _ (by omega)
 ·cases j with
  |zero=>rfl
  |succ j=>show ps'.ws.getD _ 0=ps.ws.getD _ 0;rw [h];exact getD_set_other _ (by omega)
 ·show ps'.ws.getD (3*i+3) 0=v
  rw [h];exact getD_set_same v hl
 ·cases j with
  |zero=>rfl
  |succ j=>show ps'.ws.getD _ 0=ps.ws.getD _ 0;rw [h];exact getD_set_other _ (by omega)
def FL.ro (f:FL) (t:Nat):Ro:=
 if f.s.st t=1 then (if f.pc t=1 then .look else if f.pc t≤5 then .fresh (f.nd t).toNat (f.pc t).toNat else .wait (f.nd t).toNat (f.pc t).toNat (f.oth t).toNat)
 else if f.s.st t=2 then .hold (f.nd t).toNat 0 (f.oth t).toNat
 else if f.s.st t=3 then (if f.pc t=6 then .det (f.nd t).toNat else .hold (f.nd t).toNat (f.pc t).toNat (f.oth t).toNat)
 else .idle
section
variable {f:FL} {t i:Nat}
theorem ro_look (h:f.s.st t=1) (p:f.pc t=1):f.ro t= .look:=by unfold FL.ro;rw [if_pos h,if_pos p]
theorem ro_fresh {p:Nat} (h:f.s.st t=1) (e:f.pc t=(p:Int)) (h2:2≤p) (h5:p≤5) (hn:f.nd t=(i:Int)):f.ro t= .fresh i p:=by
 unfold FL.ro;rw [if_pos h,if_neg (by omega),if_pos (by omega),e,hn];rfl
theorem ro_wait {p a:Nat} (h:f.s.st t=1) (e:f.pc t=(p:Int)) (h6:6≤p) (hn:f.nd t=(i:Int)) (ho:f.oth t=(a:Int)):f.ro t= .wait i p a:=by
 unfold FL.ro;rw [if_pos h,if_neg (by omega),if_neg (by omega),e,hn,ho];rfl
theorem ro_has {a:Nat} (h:f.s.st t=2) (hn:f.nd t=(i:Int)) (ho:f.oth t=(a:Int)):f.ro t= .hold i 0 a:=by
 unfold FL.ro;rw [if_neg (by omega),if_pos h,hn,ho];rfl
theorem ro_un {p a:Nat} (h:f.s.st t=3) (e:f.pc t=(p:Int)) (h5:p≠6) (hn:f.nd t=(i:Int)) (ho:f.oth t=(a:Int)):f.ro t= .hold i p a:=by
 unfold FL.ro;rw [if_neg (by omega),if_neg (by omega),if_pos h,if_neg (by omega),e,hn,ho];rfl
theorem ro_det (h:f.s.st t=3) (e:f.pc t=6) (hn:f.nd t=(i:Int)):f.ro t= .det i:=by
 unfold FL.ro;rw [if_neg (by omega),if_neg (by omega),if_pos h,if_pos e,hn];rfl
theorem ro_idle (h:f.s.st t=0):f.ro t= .idle:=by unfold FL.ro;rw [if_neg (by omega),if_neg (by omega),if_neg (by omega)]
end
def ownN (ea i:Nat):Nat:=(i-1)/ea
structure OrdJ (f:FL) (g:Option Nat) (Q:List Nat):Prop where
 n8:f.s.n≤8
 e8:1≤f.ea∧f.ea≤8
 np:f.s.probed=false
 len:f.ps.ws.length=3*(f.s.n*f.ea)+1
 ac:f.ps.ac.length=f.s.n
 cor:Cor f.s.n (f.s.n*f.ea) (ownN f.ea) f.ro (wT f.ps) (wS f.ps) (wN f.ps) (wO f.ps) g Q
 prg:∀ t,1≤f.pc t∧f.pc t≤8
 sts:∀ t,t<f.s.n→0≤f.s.st t∧f.s.st t≤3
 pc3:∀ t,t<f.s.n→f.s.st t=3→f.pc t≤6
 pcI:∀ t,t<f.s.n→f.s.st t≠1→f.s.st t≠3→f.pc t=1
 trg:∀ t,t<f.s.n→(0≤f.tr t∧f.tr t≤f.ea)∧(f.s.st t=1→f.pc t=1→f.tr t<f.ea)∧(f.s.st t≠1→f.tr t=0)
 nds:∀ t,0≤f.nd t
 ots:∀ t,0≤f.oth t
def wqF (f:FL) (g:Option Nat) (Q:List Nat):List Nat:=wqL (ownN f.ea) (wS f.ps) (rest g Q)
def sumN (w:Nat→Nat):Nat→Nat
 |0=>0
 |n+1=>sumN w n+w n
theorem sumN_same {w w':Nat→Nat} {n:Nat} (h:∀ k,k<n→w' k=w k):sumN w' n=sumN w n:=by
 induction n with
 |zero=>rfl
 |succ n ih=>show sumN w' n+w' n=sumN w n+w n;rw [ih λk hk=>h k (by omega),h n (by omega)]
theorem sumN_upd {w w':Nat→Nat} {n k:Nat} (hk:k<n) (h:∀ j,j≠k→w' j=w j):sumN w' n+w k=sumN w n+w' k:=by
 induction n with
 |zero=>omega
 |succ n ih=>
  show sumN w' n+w' n+w k=sumN w n+w n+w' k
  by_cases e:k=n
  ·subst e
   rw [sumN_same λj hj=>h j (by omega)]
   omega
  ·have:=ih (by omega)
   have:=h n (λx=>e x.symm)
   omega
def cO (ps:PSta) (m:Nat):Nat:=sumN (λi=>(wO ps (i+1)).toNat) m
theorem cO_same {ps ps':PSta} (h:wO ps'=wO ps) (m:Nat):cO ps' m=cO ps m:=by unfold cO;rw [h]
theorem cO_set {ps ps':PSta} {i m:Nat} (hi:i<m) (h:∀ j,j≠i+1→wO ps' j=wO ps j):cO ps' m+(wO ps (i+1)).toNat=cO ps m+(wO ps' (i+1)).toNat:=by
 unfold cO
 exact sumN_upd (w:=λi=>(wO ps (i+1)).toNat) (w':=λi=>(wO ps' (i+1)).toNat) (k:=i) hi λj hj=>by show (wO ps' (j+1)).toNat=(wO ps (j+1)).toNat;rw [h (j+1) (by omega)]
def phs (ea:Nat) (x p tr:Int):Nat:=
 if x=1 then (if p=1 then (21+ea-tr).toNat else if p=2 then 20 else (16-p).toNat)
 else if x=2 then 7
 else if x=3 then (if p=6 then 1 else (7-p).toNat) else 0
inductive OrdJ.StepQ (W:List Nat) (t:Int) (d:Dd) (W':List Nat):Prop where
 |same (h0:d.enq=false) (h1:d.ev≠1) (h2:d.ev≠2) (e:W'=W):StepQ W t d W'
 |enq (hd:d=⟨0,true,false,false⟩) (k:Nat) (ht:t=k) (e:W'=W++[k]):StepQ W t d W'
 |grant (hd:d=⟨1,false,false,false⟩) (k:Nat) (ht:t=k) (e:W=k::W') (hn:k∉W'):StepQ W t d W'
 |both (hd:d=⟨1,true,false,false⟩) (k:Nat) (ht:t=k) (e:W=[]) (e':W'=[]):StepQ W t d W'
 |gone (hd:d=⟨2,false,false,false⟩) (k:Nat) (ht:t=k) (e:W'=W.filter λt=>decide (t≠k)):StepQ W t d W'
def Halt (f:FL) (x:Int) (k:Nat):Prop:=f.s.st k=0∨f.s.st k=2∨(f.s.st k=1∧f.pc k=7∧wS f.ps (f.nd k).toNat=0∧¬ f.due k x)∨(f.s.st k=3∧f.pc k=3∧wN f.ps (f.nd k).toNat=0)
structure Loc (f:FL) (Q:List Nat):Prop where
 up:∀ j∈Q,wS f.ps j≠2
 ho:∀ t,t<f.s.n→∀ i p b,f.ro t= .hold i p b→ownN f.ea i=t
 de:∀ t,t<f.s.n→∀ i,f.ro t= .det i→ownN f.ea i=t
 dl:∀ t,t<f.s.n→f.s.st t=1→f.s.dl t<0
 tr:∀ t,t<f.s.n→f.s.st t=1→f.pc t=1→f.tr t=0
 p8:∀ t,t<f.s.n→f.s.st t=1→f.pc t≠8
structure Stp (f f':FL) (g:Option Nat) (Q:List Nat) (k:Nat) (x:Int) (d:Dd) (g':Option Nat) (Q':List Nat) (y:Int):Prop where
 ord:OrdJ f' g' Q'
 q:OrdJ.StepQ (wqF f g Q) k d (wqF f' g' Q')
 st:∀ j,f'.s.st j=upd f.s.st k y j
 n:f'.s.n=f.s.n
 ea:f'.ea=f.ea
 oth:∀ j,j≠k→f'.pc j=f.pc j∧f'.nd j=f.nd j∧f'.tr j=f.tr j∧f'.s.dl j=f.s.dl j
 D:f'.ps.D.length≤f.ps.D.length+1
 on:phs f.ea y (f'.pc k) (f'.tr k)+6*cO f'.ps (f.s.n*f.ea)+1≤phs f.ea (f.s.st k) (f.pc k) (f.tr k)+6*cO f.ps (f.s.n*f.ea)∨(Halt f x k∧Q'=Q∧f'.s=f.s∧f'.pc k=f.pc k∧f'.nd k=f.nd k∧f'.tr k=f.tr k∧f'.ps.ws=f.ps.ws)
 ev:d.ev=1→f.s.st k=1∧y=2∧∃ b,d=⟨1,b,false,false⟩
 ev2:d.ev≠1→y≠2∨f.s.st k=2
 loc:Loc f Q→Loc f' Q'∧d.ev≠2∧d.ev≠6
namespace OrdJ
variable {f:FL} {g:Option Nat} {Q:List Nat} {L:Lp}
theorem ro_other {f f':FL} {k:Nat} {y:Int} (st:∀ j,f'.s.st j=upd f.s.st k y j) (hp:∀ j,j≠k→f'.pc j=f.pc j) (hn:∀ j,j≠k→f'.nd j=f.nd j) (ho:∀ j,j≠k→f'.oth j=f.oth j):∀ u,u≠k→f'.ro u=f.ro u:=λu hu=>by
 unfold FL.ro
 rw [st u,upd_other _ _ hu,hp u hu,hn u hu,ho u hu]
theorem put (h:OrdJ f g Q) {f':FL} {g':Option Nat} {Q':List Nat} {k:Nat} {y:Int} (hk:k<f.s.n) (hn:f'.s.n=f.s.n) (hb:f'.s.probed=f.s.probed) (he:f'.ea=f.ea) (hl:f'.ps.ws.length=f.ps.ws.length) (ha:f'.ps.ac.length=f.ps.ac.length)
  (st:∀ j,f'.s.st j=upd f.s.st k y j) (hp:∀ j,j≠k→f'.pc j=f.pc j) (hnd:∀ j,j≠k→f'.nd j=f.nd j) (ho:∀ j,j≠k→f'.oth j=f.oth j) (ht:∀ j,j≠k→f'.tr j=f.tr j)
  (k1:1≤f'.pc k∧f'.pc k≤8) (k2:0≤y∧y≤3) (k3:y=3→f'.pc k≤6) (k4:y≠1→y≠3→f'.pc k=1) (k5:(0≤f'.tr k∧f'.tr k≤f.ea)∧(y=1→f'.pc k=1→f'.tr k<f.ea)∧(y≠1→f'.tr k=0)) (k6:0≤f'.nd k) (k7:0≤f'.oth k)
  (hc:Cor f.s.n (f.s.n*f.ea) (ownN f.ea) f'.ro (wT f'.ps) (wS f'.ps) (wN f'.ps) (wO f'.ps) g' Q'):OrdJ f' g' Q':=by
 refine ⟨by rw [hn];exact h.n8,by rw [he];exact h.e8,by rw [hb];exact h.np,by rw [hl,hn,he];exact h.len,by rw [ha,hn];exact h.ac,by rw [hn,he];exact hc,λt=> ?_,λt ht'=> ?_,λt ht' hs=> ?_,λt ht' h1 h3=> ?_,λt ht'=> ?_,λt=> ?_,λt=> ?_⟩
 ·by_cases q:t=k
  ·subst q;exact k1
  ·rw [hp t q];exact h.prg t
 ·rw [st t]
  by_cases q:t=k
  ·subst q;rw [upd_same];exact k2
  ·rw [upd_other _ _ q];exact h.sts t (by omega)
 ·rw [st t] at hs
  by_cases q:t=k
  ·subst q;rw [upd_same] at hs;exact k3 hs
  ·rw [upd_other _ _ q] at hs;rw [hp t q];exact h.pc3 t (by omega) hs
 ·rw [st t] at h1 h3
  by_cases q:t=k
  ·subst q;rw [upd_same] at h1 h3;exact k4 h1 h3
  ·rw [upd_other _ _ q] at h1 h3;rw [hp t q];exact h.pcI t (by omega) h1 h3
 ·rw [st t,he]
  by_cases q:t=k
  ·subst q;rw [upd_same];exact k5
  ·rw [upd_other _ _ q,hp t q,ht t q];exact h.trg t (by omega)
 ·by_cases q:t=k
  ·subst q;exact k6
  ·rw [hnd t q];exact h.nds t
 ·by_cases q:t=k
  ·subst q;exact k7
  ·rw [ho t q];exact h.ots t
theorem lock (h:OrdJ f g Q) (t d:Int):OrdJ (f.lock t d) g Q:=by
 unfold FL.lock SS.lock
 split
 ·rename_i he
  unfold lockE at he
  split at he
  ·rename_i hc
   split at he
   ·rename_i hs
    have hk:t.toNat<f.s.n:=by omega
    refine h.put (k:=t.toNat) (y:=1) hk rfl rfl rfl rfl rfl (λ_=>rfl) (λ_ _=>rfl) (λ_ _=>rfl) (λ_ _=>rfl) (λ_ _=>rfl) (h.prg _) (by omega) (by omega) (λq=>absurd rfl q) ?_ (h.nds _) (h.ots _) ?_
    ·have:=(h.trg _ hk).2.2 (by rw [hs];decide)
     have:=h.e8
     exact ⟨by show 0≤f.tr _∧f.tr _≤_;omega,λ_ _=>by show f.tr _<_;omega,λq=>absurd rfl q⟩
    ·exact h.cor.s_plain hk (.inl (ro_idle hs)) (.inr (ro_look (upd_same _ _ _) (h.pcI _ hk (by omega) (by omega)))) (ro_other (y:=1) (λ_=>rfl) (λ_ _=>rfl) (λ_ _=>rfl) (λ_ _=>rfl))
   ·omega
  ·omega
 ·exact h
theorem turn (h:OrdJ f g Q) (t:Int):OrdJ (f.turn t 3) g Q:=by
 unfold FL.turn SS.turn
 split
 ·rename_i he
  unfold turnE at he
  split at he
  ·rename_i hc
   split at he
   ·omega
   ·split at he
    ·rename_i hs
     have hk:t.toNat<f.s.n:=by omega
     obtain ⟨i,hi⟩:=Int.eq_ofNat_of_zero_le (h.nds t.toNat)
     obtain ⟨a,ha⟩:=Int.eq_ofNat_of_zero_le (h.ots t.toNat)
     have p1:=h.pcI _ hk (by omega) (by omega)
     refine h.put (k:=t.toNat) (y:=3) hk rfl rfl rfl rfl rfl (λ_=>rfl) (λ_ _=>rfl) (λ_ _=>rfl) (λ_ _=>rfl) (λ_ _=>rfl) (h.prg _) (by omega) (λ_=>by show f.pc _≤6;omega) (λ_ q=>absurd rfl q) ?_ (h.nds _) (h.ots _) ?_
     ·have:=(h.trg _ hk).2.2 (by rw [hs];decide)
      exact ⟨(h.trg _ hk).1,λq=>absurd q (by decide),λ_=>this⟩
     ·have hr:=ro_has hs hi ha
      have hg:=h.cor.ho _ hk _ _ _ hr
      have hc:=h.cor
      rw [hg] at hc ⊢
      exact hc.s_un hk hr (ro_un (p:=1) (upd_same _ _ _) p1 (by omega) hi ha) (ro_other (y:=3) (λ_=>rfl) (λ_ _=>rfl) (λ_ _=>rfl) (λ_ _=>rfl)) (by omega) (λq=>by omega) (λq=>by omega)
    ·omega
  ·omega
 ·exact h
theorem at_none {t x:Int} (hk:¬ ((0:Int)≤t∧t<f.s.n)):f.did L t t x=Dd.no∧f.step L t t x=f:=by
 have e:f.did L t t x=Dd.no:=by unfold FL.did;rw [if_neg hk]
 have em:f.mid L t t x=f:=by unfold FL.mid;rw [if_neg hk]
 refine ⟨e,?_⟩
 have e0:f.s.fin t Dd.no.ev=f.s:=by
  have e0:endO f.s t Dd.no.ev=none:=by unfold endO;rw [if_neg hk]
  unfold SS.fin
  rw [e0]
 unfold FL.step
 rw [e,em,e0]
theorem at_idle {k:Nat} {x:Int} (hk:k<f.s.n) (s1:f.s.st k≠1) (s3:f.s.st k≠3):f.did L k k x=Dd.no∧f.step L k k x=f:=by
 have ht:(0:Int)≤(k:Int)∧(k:Int)<f.s.n:=by omega
 have e:f.did L k k x=Dd.no:=by unfold FL.did;rw [if_pos ht,Int.toNat_natCast,if_neg s1,if_neg s3]
 have em:f.mid L k k x=f:=by unfold FL.mid;rw [if_pos ht,Int.toNat_natCast,if_neg s1,if_neg s3]
 refine ⟨e,?_⟩
 unfold FL.step
 rw [e,em,fin_no]
theorem at_one {k:Nat} {x:Int} (hk:k<f.s.n) (s1:f.s.st k=1):f.did L k k x=f.acqD L k k x∧f.step L k k x={f.acq L k k x with s:=f.s.fin k (f.acqD L k k x).ev}:=by
 have ht:(0:Int)≤(k:Int)∧(k:Int)<f.s.n:=by omega
 have e:f.did L k k x=f.acqD L k k x:=by unfold FL.did;rw [if_pos ht,Int.toNat_natCast,if_pos s1]
 have em:f.mid L k k x=f.acq L k k x:=by unfold FL.mid;rw [if_pos ht,Int.toNat_natCast,if_pos s1]
 refine ⟨e,?_⟩
 unfold FL.step
 rw [e,em]
theorem at_three {k:Nat} {x:Int} (hk:k<f.s.n) (s3:f.s.st k=3):f.did L k k x=f.relD k∧f.step L k k x={f.rel L k k with s:=f.s.fin k (f.relD k).ev}:=by
 have ht:(0:Int)≤(k:Int)∧(k:Int)<f.s.n:=by omega
 have e:f.did L k k x=f.relD k:=by unfold FL.did;rw [if_pos ht,Int.toNat_natCast,if_neg (by omega),if_pos s3]
 have em:f.mid L k k x=f.rel L k k:=by unfold FL.mid;rw [if_pos ht,Int.toNat_natCast,if_neg (by omega),if_pos s3]
 refine ⟨e,?_⟩
 unfold FL.step
 rw [e,em]
theorem sAt (h2:L.a2=1) (i:Nat):L.sA ((i+1:Nat):Int)=((3*i+1:Nat):Int):=by unfold Lp.sA;rw [h2];omega
theorem nAt (h2:L.a2=1) (i:Nat):L.nA ((i+1:Nat):Int)=((3*i+2:Nat):Int):=by unfold Lp.nA;rw [h2];omega
theorem oAt (h2:L.a2=1) (i:Nat):L.oA ((i+1:Nat):Int)=((3*i+3:Nat):Int):=by unfold Lp.oA;rw [h2];omega
theorem upd_self {α:Type} (f:Nat→α) (k:Nat):∀ j,f j=upd f k (f k) j:=λj=>by
 unfold upd;split
 ·rename_i e;rw [e]
 ·rfl
theorem stpM (h:OrdJ f g Q) {f':FL} {k:Nat} {x:Int} {d:Dd} {g':Option Nat} {Q':List Nat} {y:Int} (hk:k<f.s.n) (hs:(f'.s=f.s∧y=f.s.st k)∨f'.s=f.s.set k y 0) (he:f'.ea=f.ea) (hl:f'.ps.ws.length=f.ps.ws.length) (ha:f'.ps.ac.length=f.ps.ac.length) (hD:f'.ps.D.length=f.ps.D.length+1)
  (ho4:∀ j,j≠k→f'.pc j=f.pc j∧f'.nd j=f.nd j∧f'.oth j=f.oth j∧f'.tr j=f.tr j)
  (k1:1≤f'.pc k∧f'.pc k≤8) (k2:0≤y∧y≤3) (k3:y=3→f'.pc k≤6) (k4:y≠1→y≠3→f'.pc k=1) (k5:(0≤f'.tr k∧f'.tr k≤f.ea)∧(y=1→f'.pc k=1→f'.tr k<f.ea)∧(y≠1→f'.tr k=0)) (k6:0≤f'.nd k) (k7:0≤f'.oth k)
  (hc:f'.s.st k=y→(∀ u,u≠k→f'.ro u=f.ro u)→Cor f.s.n (f.s.n*f.ea) (ownN f.ea) f'.ro (wT f'.ps) (wS f'.ps) (wN f'.ps) (wO f'.ps) g' Q')
  (hq:StepQ (wqF f g Q) k d (wqF f' g' Q'))
  (on:phs f.ea y (f'.pc k) (f'.tr k)+6*cO f'.ps (f.s.n*f.ea)+1≤phs f.ea (f.s.st k) (f.pc k) (f.tr k)+6*cO f.ps (f.s.n*f.ea)∨(Halt f x k∧Q'=Q∧f'.s=f.s∧f'.pc k=f.pc k∧f'.nd k=f.nd k∧f'.tr k=f.tr k∧f'.ps.ws=f.ps.ws))
  (ev:d.ev=1→f.s.st k=1∧y=2∧∃ b,d=⟨1,b,false,false⟩) (ev2:d.ev≠1→y≠2∨f.s.st k=2)
  (loc:Loc f Q→f'.s.st k=y→(∀ j∈Q',wS f'.ps j≠2)∧(∀ i p b,f'.ro k= .hold i p b→ownN f.ea i=k)∧(∀ i,f'.ro k= .det i→ownN f.ea i=k)∧(y=1→f'.s=f.s∧f.s.st k=1∧f'.pc k≠1∧f'.pc k≠8)∧d.ev≠2∧d.ev≠6):Stp f f' g Q k x d g' Q' y:=by
 have st:∀ j,f'.s.st j=upd f.s.st k y j:=λj=>by
  rcases hs with ⟨e,e'⟩|e
  ·rw [e,e'];exact upd_self _ _ j
  ·rw [e];rfl
 have hn:f'.s.n=f.s.n:=by rcases hs with ⟨e,_⟩|e<;>rw [e];rfl
 have hb:f'.s.probed=f.s.probed:=by rcases hs with ⟨e,_⟩|e<;>rw [e];rfl
 have hdl:∀ j,j≠k→f'.s.dl j=f.s.dl j:=λj hj=>by
  rcases hs with ⟨e,_⟩|e<;>rw [e]
  exact upd_other _ _ hj
 have hro:=ro_other st (λj e=>(ho4 j e).1) (λj e=>(ho4 j e).2.1) λj e=>(ho4 j e).2.2.1
 have hk':f'.s.st k=y:=(st k).trans (upd_same _ _ _)
 refine ⟨h.put hk hn hb he hl ha st (λj e=>(ho4 j e).1) (λj e=>(ho4 j e).2.1) (λj e=>(ho4 j e).2.2.1) (λj e=>(ho4 j e).2.2.2) k1 k2 k3 k4 k5 k6 k7 (hc hk' hro),hq,st,hn,he,λj e=>⟨(ho4 j e).1,(ho4 j e).2.1,(ho4 j e).2.2.2,hdl j e⟩,Nat.le_of_eq hD,on,ev,ev2,λhL=> ?_⟩
 obtain ⟨l1,l2,l3,l4,l5,l6⟩:=loc hL hk'
 refine ⟨⟨l1,λt ht i p b hr=> ?_,λt ht i hr=> ?_,λt ht h1=> ?_,λt ht h1 hp=> ?_,λt ht h1=> ?_⟩,l5,l6⟩
 ·rw [he]
  by_cases q:t=k
  ·subst q;exact l2 i p b hr
  ·exact hL.ho t (by omega) i p b (by rw [←hro t q];exact hr)
 ·rw [he]
  by_cases q:t=k
  ·subst q;exact l3 i hr
  ·exact hL.de t (by omega) i (by rw [←hro t q];exact hr)
 ·by_cases q:t=k
  ·subst q
   obtain ⟨q1,q2,q3,q4⟩:=l4 (by rw [←hk'];exact h1)
   rw [q1];exact hL.dl t (by omega) q2
  ·rw [hdl t q];exact hL.dl t (by omega) (by rw [st t,upd_other _ _ q] at h1;exact h1)
 ·by_cases q:t=k
  ·subst q
   obtain ⟨q1,q2,q3,q4⟩:=l4 (by rw [←hk'];exact h1)
   exact absurd hp q3
  ·rw [(ho4 t q).2.2.2]
   exact hL.tr t (by omega) (by rw [st t,upd_other _ _ q] at h1;exact h1) (by rw [←(ho4 t q).1];exact hp)
 ·by_cases q:t=k
  ·subst q
   obtain ⟨q1,q2,q3,q4⟩:=l4 (by rw [←hk'];exact h1)
   exact q4
  ·rw [(ho4 t q).1]
   exact hL.p8 t (by omega) (by rw [st t,upd_other _ _ q] at h1;exact h1)
theorem noMiss (h:OrdJ f g Q) (hL:Loc f Q) {k i:Nat} (hk:k<f.s.n) (hr:f.ro k= .look) (h1:1≤i) (h2:i≤f.s.n*f.ea) (ho:ownN f.ea i=k):wO f.ps i=0:=by
 rcases h.cor.ob i h1 h2 with q|⟨_,q|⟨u,hu,p,_,q⟩|⟨u,hu,q⟩⟩
 ·exact q
 ·exfalso
  have key:i∈rest g Q→False:=λhm=>by
   obtain ⟨p,a,e⟩:=h.cor.waits (j:=i) hm (hL.up i q)
   rw [ho,hr] at e
   cases e
  cases hg:g with
  |none=>exact key (by rw [hg];exact q)
  |some t=>
   obtain ⟨ht,i0,r,p,b,hQ,hrt,_⟩:=h.cor.gs t hg
   rw [hQ] at q
   rcases List.mem_cons.1 q with q|q
   ·subst q
    have:=hL.ho t ht _ _ _ hrt
    have e:t=k:=by omega
    subst e
    rw [hr] at hrt
    cases hrt
   ·exact key (by rw [hg,hQ];exact q)
 ·exfalso
  have:=(h.cor.fr u hu i p q).1
  have e:u=k:=by omega
  subst e
  rw [hr] at q
  cases q
 ·exfalso
  have:=hL.de u hu i q
  have e:u=k:=by omega
  subst e
  rw [hr] at q
  cases q
theorem rest_more {i:Nat} (h:Q≠[]):rest g (Q++[i])=rest g Q++[i]:=by
 cases g with
 |none=>rfl
 |some t=>
  cases Q with
  |nil=>exact absurd rfl h
  |cons a r=>rfl
theorem rest_mem {j:Nat} (h:j∈rest g Q):j∈Q:=by
 cases g with
 |none=>exact h
 |some t=>exact List.mem_of_mem_tail h
theorem cor_same {n m:Nat} {own:Nat→Nat} {ro ro':Nat→Ro} {T:Int} {S N O:Nat→Int} (h:Cor n m own ro T S N O g Q) (e:∀ u,ro' u=ro u):Cor n m own ro' T S N O g Q:=by
 rw [show ro'=ro from funext e];exact h
theorem stp11 (h:OrdJ f g Q) (h1:L.a1=0) (h2:L.a2=1) {k:Nat} (x:Int) (hk:k<f.s.n) (s1:f.s.st k=1) (p1:f.pc k=1):∃ g' Q' y,Stp f (f.step L k k x) g Q k x (f.did L k k x) g' Q' y:=by
 obtain ⟨ed,es⟩:=at_one (L:=L) (x:=x) hk s1
 rw [ed,es]
 have hac:k<f.ps.ac.length:=by rw [h.ac];exact hk
 obtain ⟨⟨t0,t1⟩,t2,_⟩:=h.trg k hk
 have t2:=t2 s1 p1
 obtain ⟨c,hc⟩:=Int.eq_ofNat_of_zero_le t0
 have hm:k*f.ea+c+1≤f.s.n*f.ea:=by
  have:(k+1)*f.ea≤f.s.n*f.ea:=Nat.mul_le_mul_right _ hk
  rw [Nat.add_mul] at this
  omega
 have hid:f.id k=((k*f.ea+c+1:Nat):Int):=by unfold FL.id;rw [hc];simp
 have how:ownN f.ea (k*f.ea+c+1)=k:=by
  unfold ownN
  rw [Nat.add_sub_cancel,Nat.add_comm,Nat.add_mul_div_right _ _ (by omega),Nat.div_eq_of_lt (by omega),Nat.zero_add]
 obtain ⟨a,b,cc,dd⟩:=do_load hac ((congrArg L.oA hid).trans (oAt h2 (k*f.ea+c))) (show 3*(k*f.ea+c)+3<f.ps.ws.length by rw [h.len];omega)
 obtain ⟨wt,ws,wn,wo⟩:=ws_same b
 have hv:tellS f.ps k 1 (L.oA (f.id k))=wO f.ps (k*f.ea+c+1):=a
 have hr:=ro_look s1 p1
 have hwq:∀ f':FL,f'.ea=f.ea→f'.ps.ws=f.ps.ws→wqF f' g Q=wqF f g Q:=λf' e1 e2=>by unfold wqF;rw [e1,(ws_same e2).2.1]
 by_cases q:wO f.ps (k*f.ea+c+1)=0
 ·have e1:f.acq L k k x={f with pc:=upd f.pc k 2,nd:=upd f.nd k (f.id k),tr:=upd f.tr k (f.tr k+1),ps:=doS f.ps k 1 (L.oA (f.id k)) 0 0}:=by
   unfold FL.acq;rw [if_pos p1,hv,if_pos q,if_neg (λw=>w.1 q)]
  have e2:f.acqD L k k x=Dd.no:=by unfold FL.acqD;rw [if_pos p1,hv,if_neg (λw=>w.1 q)]
  rw [e1,e2,fin_no]
  refine ⟨g,Q,1,h.stpM hk (.inl ⟨rfl,s1.symm⟩) rfl (by show (doS _ _ _ _ _ _).ws.length=_;rw [b]) cc dd (λj e=>⟨upd_other _ _ e,upd_other _ _ e,rfl,upd_other _ _ e⟩) (by simp only [upd_same];omega) (by omega) (λw=>by omega) (λw=>absurd rfl w) (by simp only [upd_same];refine ⟨by omega,?_,?_⟩<;>intros<;>first|trivial|omega) (by simp only [upd_same];omega) (h.ots k) (λhy hro=> ?_) (.same rfl (by decide) (by decide) (hwq _ rfl b)) (.inl (by simp only [upd_same];rw [s1,p1,cO_same wo];simp [phs]<;>omega)) (λw=>absurd w (by decide)) (λ_=> .inl (by decide)) (λhL hy=> ?_)⟩
  ·show Cor _ _ _ _ (wT (doS _ _ _ _ _ _)) (wS (doS _ _ _ _ _ _)) (wN (doS _ _ _ _ _ _)) (wO (doS _ _ _ _ _ _)) g Q
   rw [wt,ws,wn,wo]
   exact h.cor.s_pick hk hr ⟨⟨by omega,hm⟩,how⟩ q (ro_fresh (p:=2) hy (upd_same _ _ _) (by omega) (by omega) ((upd_same _ _ _).trans hid)) hro
  ·have hrk:=ro_fresh (f:={f with pc:=upd f.pc k 2,nd:=upd f.nd k (f.id k),tr:=upd f.tr k (f.tr k+1),ps:=doS f.ps k 1 (L.oA (f.id k)) 0 0}) (p:=2) hy (upd_same _ _ _) (by omega) (by omega) ((upd_same _ _ _).trans hid)
   refine ⟨λj hj=>by show wS (doS _ _ _ _ _ _) j≠2;rw [ws];exact hL.up j hj,λi p b w=> ?_,λi w=> ?_,λ_=>⟨rfl,s1,by simp only [upd_same];omega,by simp only [upd_same];omega⟩,by decide,by decide⟩
   ·rw [hrk] at w;cases w
   ·rw [hrk] at w;cases w
 ·by_cases q2:f.tr k+1=f.ea
  ·have e1:f.acq L k k x={f with pc:=upd f.pc k 1,nd:=upd f.nd k (f.id k),tr:=upd f.tr k 0,ps:=doS f.ps k 1 (L.oA (f.id k)) 0 0}:=by
    unfold FL.acq;rw [if_pos p1,hv,if_neg q,if_pos ⟨q,q2⟩]
   have e2:f.acqD L k k x=⟨6,false,false,false⟩:=by unfold FL.acqD;rw [if_pos p1,hv,if_pos ⟨q,q2⟩]
   rw [e1,e2,fin_some hk (by rw [s1];rfl:behindI (f.s.st k) 6=some 0)]
   refine ⟨g,Q,0,h.stpM hk (.inr rfl) rfl (by show (doS _ _ _ _ _ _).ws.length=_;rw [b]) cc dd (λj e=>⟨upd_other _ _ e,upd_other _ _ e,rfl,upd_other _ _ e⟩) (by simp only [upd_same];omega) (by omega) (λw=>by omega) (λ_ _=>upd_same _ _ _) (by simp only [upd_same];refine ⟨by omega,?_,?_⟩<;>intros<;>first|trivial|omega) (by simp only [upd_same];omega) (h.ots k) (λhy hro=> ?_) (.same rfl (by decide) (by decide) (hwq _ rfl b)) (.inl (by simp only [upd_same];rw [s1,p1,cO_same wo];simp [phs]<;>omega)) (λw=>absurd w (by decide)) (λ_=> .inl (by decide)) (λhL hy=>absurd (h.noMiss hL hk hr (by omega) hm how) q)⟩
   show Cor _ _ _ _ (wT (doS _ _ _ _ _ _)) (wS (doS _ _ _ _ _ _)) (wN (doS _ _ _ _ _ _)) (wO (doS _ _ _ _ _ _)) g Q
   rw [wt,ws,wn,wo]
   exact h.cor.s_plain hk (.inr hr) (.inl (ro_idle hy)) hro
  ·have e1:f.acq L k k x={f with pc:=upd f.pc k 1,nd:=upd f.nd k (f.id k),tr:=upd f.tr k (f.tr k+1),ps:=doS f.ps k 1 (L.oA (f.id k)) 0 0}:=by
    unfold FL.acq;rw [if_pos p1,hv,if_neg q,if_neg (λw=>q2 w.2)]
   have e2:f.acqD L k k x=Dd.no:=by unfold FL.acqD;rw [if_pos p1,hv,if_neg (λw=>q2 w.2)]
   rw [e1,e2,fin_no]
   refine ⟨g,Q,1,h.stpM hk (.inl ⟨rfl,s1.symm⟩) rfl (by show (doS _ _ _ _ _ _).ws.length=_;rw [b]) cc dd (λj e=>⟨upd_other _ _ e,upd_other _ _ e,rfl,upd_other _ _ e⟩) (by simp only [upd_same];omega) (by omega) (λw=>by omega) (λw=>absurd rfl w) (by simp only [upd_same];refine ⟨by omega,?_,?_⟩<;>intros<;>first|trivial|omega) (by simp only [upd_same];omega) (h.ots k) (λhy hro=> ?_) (.same rfl (by decide) (by decide) (hwq _ rfl b)) (.inl (by simp only [upd_same];rw [s1,p1,cO_same wo];simp [phs]<;>omega)) (λw=>absurd w (by decide)) (λ_=> .inl (by decide)) (λhL hy=>absurd (h.noMiss hL hk hr (by omega) hm how) q)⟩
   show Cor _ _ _ _ (wT (doS _ _ _ _ _ _)) (wS (doS _ _ _ _ _ _)) (wN (doS _ _ _ _ _ _)) (wO (doS _ _ _ _ _ _)) g Q
   rw [wt,ws,wn,wo]
   exact h.cor.s_plain hk (.inr hr) (.inr (ro_look hy (upd_same _ _ _))) hro
theorem stp12 (h:OrdJ f g Q) (h1:L.a1=0) (h2:L.a2=1) {k:Nat} (x:Int) (hk:k<f.s.n) (sk:f.s.st k=1) (pk:f.pc k=2):∃ g' Q' y,Stp f (f.step L k k x) g Q k x (f.did L k k x) g' Q' y:=by
 obtain ⟨ed,es⟩:=at_one (L:=L) (x:=x) hk sk
 rw [ed,es]
 have hac:k<f.ps.ac.length:=by rw [h.ac];exact hk
 have hlen:=h.len
 obtain ⟨⟨t0,t1⟩,t2,t3⟩:=h.trg k hk
 obtain ⟨i,hi⟩:=Int.eq_ofNat_of_zero_le (h.nds k)
 obtain ⟨a,ha⟩:=Int.eq_ofNat_of_zero_le (h.ots k)
 have hr:=ro_fresh (p:=2) sk pk (by omega) (by omega) hi
 obtain ⟨o1,⟨o2,o3⟩,hq,_,_,o6,o7,_⟩:=h.cor.fr k hk i 2 hr
 obtain ⟨i,rfl⟩:∃ j,i=j+1:=⟨i-1,by omega⟩
 obtain ⟨b,cc,dd⟩:=do_store (v:=1) hac ((congrArg L.oA hi).trans (oAt h2 i)) (show 3*i+3<f.ps.ws.length by omega)
 obtain ⟨wt,ws,wn,⟨f0,ff⟩⟩:=ws_O (by omega) b
 have e1:f.acq L k k x={f with pc:=upd f.pc k 3,ps:=doS f.ps k 2 (L.oA (f.nd k)) 0 1}:=by unfold FL.acq;rw [if_neg (by omega),if_pos pk]
 have e2:f.acqD L k k x=Dd.no:=by unfold FL.acqD;rw [if_neg (by omega),if_pos pk]
 rw [e1,e2,fin_no]
 have hcO:=cO_set (m:=f.s.n*f.ea) (i:=i) (by omega) ff
 rw [f0,(h.cor.fr k hk (i+1) 2 hr).2.2.2.2.1 rfl] at hcO
 refine ⟨g,Q,1,h.stpM hk (.inl ⟨rfl,sk.symm⟩) rfl (by show (doS _ _ _ _ _ _).ws.length=_;rw [b,List.length_set]) cc dd (λj e=>⟨upd_other _ _ e,rfl,rfl,rfl⟩) (by simp only [upd_same];omega) (by omega) (λ_=>by simp only [upd_same];omega) (λ_ _=>by first|exact upd_same _ _ _|omega) (by simp only [upd_same];refine ⟨by omega,?_,?_⟩<;>intros<;>first|trivial|omega) (h.nds k) (h.ots k) (λhy hro=> ?_) (.same rfl (by decide) (by decide) ?_) (.inl (by simp only [upd_same];rw [sk,pk];simp [phs]<;>omega)) (λw=>absurd w (by decide)) (λ_=> .inl (by decide)) (λhL hy=> ?_)⟩
 ·show Cor _ _ _ _ (wT (doS _ _ _ _ _ _)) (wS (doS _ _ _ _ _ _)) (wN (doS _ _ _ _ _ _)) (wO (doS _ _ _ _ _ _)) g Q
  rw [wt,ws,wn]
  exact h.cor.s_out hk hr (ro_fresh (p:=3) hy (upd_same _ _ _) (by omega) (by omega) hi) hro f0 ff
 ·unfold wqF;show wqL _ (wS (doS _ _ _ _ _ _)) _=_;rw [ws]
 ·have hrk:=ro_fresh (f:={f with pc:=upd f.pc k 3,ps:=doS f.ps k 2 (L.oA (f.nd k)) 0 1}) (p:=3) hy (upd_same _ _ _) (by omega) (by omega) hi
  refine ⟨λj hj=>by show wS (doS _ _ _ _ _ _) j≠2;rw [ws];exact hL.up j hj,λi p b w=> ?_,λi w=> ?_,λ_=>⟨rfl,sk,by simp only [upd_same];omega,by simp only [upd_same];omega⟩,by decide,by decide⟩
  ·rw [hrk] at w;cases w
  ·rw [hrk] at w;cases w
theorem stp13 (h:OrdJ f g Q) (h1:L.a1=0) (h2:L.a2=1) {k:Nat} (x:Int) (hk:k<f.s.n) (sk:f.s.st k=1) (pk:f.pc k=3):∃ g' Q' y,Stp f (f.step L k k x) g Q k x (f.did L k k x) g' Q' y:=by
 obtain ⟨ed,es⟩:=at_one (L:=L) (x:=x) hk sk
 rw [ed,es]
 have hac:k<f.ps.ac.length:=by rw [h.ac];exact hk
 have hlen:=h.len
 obtain ⟨⟨t0,t1⟩,t2,t3⟩:=h.trg k hk
 obtain ⟨i,hi⟩:=Int.eq_ofNat_of_zero_le (h.nds k)
 obtain ⟨a,ha⟩:=Int.eq_ofNat_of_zero_le (h.ots k)
 have hr:=ro_fresh (p:=3) sk pk (by omega) (by omega) hi
 obtain ⟨o1,⟨o2,o3⟩,hq,_,_,o6,o7,_⟩:=h.cor.fr k hk i 3 hr
 obtain ⟨i,rfl⟩:∃ j,i=j+1:=⟨i-1,by omega⟩
 obtain ⟨b,cc,dd⟩:=do_store (v:=0) hac ((congrArg L.sA hi).trans (sAt h2 i)) (show 3*i+1<f.ps.ws.length by omega)
 obtain ⟨wt,⟨f0,ff⟩,wn,wo⟩:=ws_S (by omega) b
 have e1:f.acq L k k x={f with pc:=upd f.pc k 4,ps:=doS f.ps k 2 (L.sA (f.nd k)) 0 0}:=by unfold FL.acq;rw [if_neg (by omega),if_neg (by omega),if_pos pk]
 have e2:f.acqD L k k x=Dd.no:=by unfold FL.acqD;rw [if_neg (by omega),if_neg (by omega),if_pos pk]
 rw [e1,e2,fin_no]
 refine ⟨g,Q,1,h.stpM hk (.inl ⟨rfl,sk.symm⟩) rfl (by show (doS _ _ _ _ _ _).ws.length=_;rw [b,List.length_set]) cc dd (λj e=>⟨upd_other _ _ e,rfl,rfl,rfl⟩) (by simp only [upd_same];omega) (by omega) (λ_=>by simp only [upd_same];omega) (λ_ _=>by first|exact upd_same _ _ _|omega) (by simp only [upd_same];refine ⟨by omega,?_,?_⟩<;>intros<;>first|trivial|omega) (h.nds k) (h.ots k) (λhy hro=> ?_) (.same rfl (by decide) (by decide) ?_) (.inl (by simp only [upd_same];rw [sk,pk,cO_same wo];simp [phs]<;>omega)) (λw=>absurd w (by decide)) (λ_=> .inl (by decide)) (λhL hy=> ?_)⟩
 ·show Cor _ _ _ _ (wT (doS _ _ _ _ _ _)) (wS (doS _ _ _ _ _ _)) (wN (doS _ _ _ _ _ _)) (wO (doS _ _ _ _ _ _)) g Q
  rw [wt,wn,wo]
  exact h.cor.s_st hk hr (ro_fresh (p:=4) hy (upd_same _ _ _) (by omega) (by omega) hi) hro f0 ff
 ·unfold wqF
  exact wq_same λj hj=>by
   have:j≠i+1:=λq=>hq (by rw [←q];exact rest_mem hj)
   show wS (doS _ _ _ _ _ _) j=2↔_
   rw [ff j this]
 ·have hrk:=ro_fresh (f:={f with pc:=upd f.pc k 4,ps:=doS f.ps k 2 (L.sA (f.nd k)) 0 0}) (p:=4) hy (upd_same _ _ _) (by omega) (by omega) hi
  refine ⟨λj hj=>by show wS (doS _ _ _ _ _ _) j≠2;rw [ff j (λq=>hq (by rw [←q];exact hj))];exact hL.up j hj,λi p b w=> ?_,λi w=> ?_,λ_=>⟨rfl,sk,by simp only [upd_same];omega,by simp only [upd_same];omega⟩,by decide,by decide⟩
  ·rw [hrk] at w;cases w
  ·rw [hrk] at w;cases w
theorem stp14 (h:OrdJ f g Q) (h1:L.a1=0) (h2:L.a2=1) {k:Nat} (x:Int) (hk:k<f.s.n) (sk:f.s.st k=1) (pk:f.pc k=4):∃ g' Q' y,Stp f (f.step L k k x) g Q k x (f.did L k k x) g' Q' y:=by
 obtain ⟨ed,es⟩:=at_one (L:=L) (x:=x) hk sk
 rw [ed,es]
 have hac:k<f.ps.ac.length:=by rw [h.ac];exact hk
 have hlen:=h.len
 obtain ⟨⟨t0,t1⟩,t2,t3⟩:=h.trg k hk
 obtain ⟨i,hi⟩:=Int.eq_ofNat_of_zero_le (h.nds k)
 obtain ⟨a,ha⟩:=Int.eq_ofNat_of_zero_le (h.ots k)
 have hr:=ro_fresh (p:=4) sk pk (by omega) (by omega) hi
 obtain ⟨o1,⟨o2,o3⟩,hq,_,_,o6,o7,_⟩:=h.cor.fr k hk i 4 hr
 obtain ⟨i,rfl⟩:∃ j,i=j+1:=⟨i-1,by omega⟩
 obtain ⟨b,cc,dd⟩:=do_store (v:=0) hac ((congrArg L.nA hi).trans (nAt h2 i)) (show 3*i+2<f.ps.ws.length by omega)
 obtain ⟨wt,ws,⟨f0,ff⟩,wo⟩:=ws_N (by omega) b
 have e1:f.acq L k k x={f with pc:=upd f.pc k 5,ps:=doS f.ps k 2 (L.nA (f.nd k)) 0 0}:=by unfold FL.acq;rw [if_neg (by omega),if_neg (by omega),if_neg (by omega),if_pos pk]
 have e2:f.acqD L k k x=Dd.no:=by unfold FL.acqD;rw [if_neg (by omega),if_neg (by omega),if_neg (by omega),if_pos pk]
 rw [e1,e2,fin_no]
 refine ⟨g,Q,1,h.stpM hk (.inl ⟨rfl,sk.symm⟩) rfl (by show (doS _ _ _ _ _ _).ws.length=_;rw [b,List.length_set]) cc dd (λj e=>⟨upd_other _ _ e,rfl,rfl,rfl⟩) (by simp only [upd_same];omega) (by omega) (λ_=>by simp only [upd_same];omega) (λ_ _=>by first|exact upd_same _ _ _|omega) (by simp only [upd_same];refine ⟨by omega,?_,?_⟩<;>intros<;>first|trivial|omega) (h.nds k) (h.ots k) (λhy hro=> ?_) (.same rfl (by decide) (by decide) ?_) (.inl (by simp only [upd_same];rw [sk,pk,cO_same wo];simp [phs]<;>omega)) (λw=>absurd w (by decide)) (λ_=> .inl (by decide)) (λhL hy=> ?_)⟩
 ·show Cor _ _ _ _ (wT (doS _ _ _ _ _ _)) (wS (doS _ _ _ _ _ _)) (wN (doS _ _ _ _ _ _)) (wO (doS _ _ _ _ _ _)) g Q
  rw [wt,ws,wo]
  exact h.cor.s_nx hk hr (ro_fresh (p:=5) hy (upd_same _ _ _) (by omega) (by omega) hi) hro f0 ff
 ·unfold wqF;show wqL _ (wS (doS _ _ _ _ _ _)) _=_;rw [ws]
 ·have hrk:=ro_fresh (f:={f with pc:=upd f.pc k 5,ps:=doS f.ps k 2 (L.nA (f.nd k)) 0 0}) (p:=5) hy (upd_same _ _ _) (by omega) (by omega) hi
  refine ⟨λj hj=>by show wS (doS _ _ _ _ _ _) j≠2;rw [ws];exact hL.up j hj,λi p b w=> ?_,λi w=> ?_,λ_=>⟨rfl,sk,by simp only [upd_same];omega,by simp only [upd_same];omega⟩,by decide,by decide⟩
  ·rw [hrk] at w;cases w
  ·rw [hrk] at w;cases w
theorem stp15 (h:OrdJ f g Q) (h1:L.a1=0) (h2:L.a2=1) {k:Nat} (x:Int) (hk:k<f.s.n) (sk:f.s.st k=1) (pk:f.pc k=5):∃ g' Q' y,Stp f (f.step L k k x) g Q k x (f.did L k k x) g' Q' y:=by
 obtain ⟨ed,es⟩:=at_one (L:=L) (x:=x) hk sk
 rw [ed,es]
 have hac:k<f.ps.ac.length:=by rw [h.ac];exact hk
 have hlen:=h.len
 obtain ⟨⟨t0,t1⟩,t2,t3⟩:=h.trg k hk
 obtain ⟨i,hi⟩:=Int.eq_ofNat_of_zero_le (h.nds k)
 obtain ⟨a,ha⟩:=Int.eq_ofNat_of_zero_le (h.ots k)
 have hr:=ro_fresh (p:=5) sk pk (by omega) (by omega) hi
 obtain ⟨o1,⟨o2,o3⟩,hq,_,_,o6,o7,_⟩:=h.cor.fr k hk i 5 hr
 obtain ⟨a1,b,cc,dd⟩:=do_swap (v:=f.nd k) hac (show L.a1=((0:Nat):Int) from h1) (show 0<f.ps.ws.length by omega)
 obtain ⟨wt,ws,wn,wo⟩:=ws_tail (by omega) b
 have hv:tellS f.ps k 3 L.a1=wT f.ps:=a1
 by_cases q0:Q=[]
 ·subst q0
  have hg:g=none:=by
   cases hg:g with
   |none=>rfl
   |some t=>obtain ⟨_,i0,r,p,b,hQ,_⟩:=h.cor.gs t hg;cases hQ
  subst hg
  have q:=h.cor.t0 rfl
  have e1:f.acq L k k x={f with pc:=upd f.pc k 1,oth:=upd f.oth k (wT f.ps),tr:=upd f.tr k 0,ps:=doS f.ps k 3 L.a1 0 (f.nd k)}:=by unfold FL.acq;rw [if_neg (by omega),if_neg (by omega),if_neg (by omega),if_neg (by omega),if_pos pk];rw [hv,if_pos q,if_pos q]
  have e2:f.acqD L k k x=⟨1,true,false,false⟩:=by unfold FL.acqD;rw [if_neg (by omega),if_neg (by omega),if_neg (by omega),if_neg (by omega),if_pos pk];rw [hv,if_pos q]
  rw [e1,e2,fin_some hk (by rw [sk];rfl:behindI (f.s.st k) 1=some 2)]
  refine ⟨some k,[i],2,h.stpM hk (.inr rfl) rfl (by show (doS _ _ _ _ _ _).ws.length=_;rw [b,List.length_set]) cc dd (λj e=>⟨upd_other _ _ e,rfl,upd_other _ _ e,upd_other _ _ e⟩) (by simp only [upd_same];omega) (by omega) (λ_=>by simp only [upd_same];omega) (λ_ _=>by first|exact upd_same _ _ _|omega) (by simp only [upd_same];refine ⟨by omega,?_,?_⟩<;>intros<;>first|trivial|omega) (h.nds k) (by simp only [upd_same];rw [q];omega) (λhy hro=> ?_) (.both rfl k rfl rfl rfl) (.inl (by simp only [upd_same];rw [sk,pk,cO_same wo];simp [phs]<;>omega)) (λ_=>⟨sk,rfl,true,rfl⟩) (λw=>absurd rfl w) (λhL hy=> ?_)⟩
  ·show Cor _ _ _ _ (wT (doS _ _ _ _ _ _)) (wS (doS _ _ _ _ _ _)) (wN (doS _ _ _ _ _ _)) (wO (doS _ _ _ _ _ _)) (some k) [i]
   rw [wt,ws,wn,wo,hi]
   exact h.cor.s_enq0 hk hr (c:=0) (ro_has hy hi ((upd_same _ _ _).trans q)) hro
  ·have hrk:FL.ro {f with pc:=upd f.pc k 1,oth:=upd f.oth k (wT f.ps),tr:=upd f.tr k 0,ps:=doS f.ps k 3 L.a1 0 (f.nd k),s:=f.s.set k 2 0} k= .hold i 0 0:=ro_has hy hi ((upd_same _ _ _).trans q)
   refine ⟨λj hj=> ?_,λi0 p b w=> ?_,λi w=> ?_,λw=>absurd w (by decide),by decide,by decide⟩
   ·obtain rfl:j=i:=by simpa using hj
    show wS (doS _ _ _ _ _ _) j≠2
    rw [ws,o7 (by omega)]
    decide
   ·rw [hrk] at w
    obtain ⟨rfl,_⟩:i=i0∧_:=by simpa using w
    exact o1
   ·rw [hrk] at w;cases w
 ·obtain ⟨a,ha⟩:=last_ex q0
  have hta:=(h.cor.tl a ha).1
  have ham:=(h.cor.rng a (last_mem ha)).1.1
  have q:¬ wT f.ps=0:=by omega
  have e1:f.acq L k k x={f with pc:=upd f.pc k 6,oth:=upd f.oth k (wT f.ps),tr:=upd f.tr k (f.tr k),ps:=doS f.ps k 3 L.a1 0 (f.nd k)}:=by unfold FL.acq;rw [if_neg (by omega),if_neg (by omega),if_neg (by omega),if_neg (by omega),if_pos pk];rw [hv,if_neg q,if_neg q]
  have e2:f.acqD L k k x=⟨0,true,false,false⟩:=by unfold FL.acqD;rw [if_neg (by omega),if_neg (by omega),if_neg (by omega),if_neg (by omega),if_pos pk];rw [hv,if_neg q]
  rw [e1,e2,show f.s.fin k (⟨0,true,false,false⟩:Dd).ev=f.s from fin_no f.s k]
  refine ⟨g,Q++[i],1,h.stpM hk (.inl ⟨rfl,sk.symm⟩) rfl (by show (doS _ _ _ _ _ _).ws.length=_;rw [b,List.length_set]) cc dd (λj e=>⟨upd_other _ _ e,rfl,upd_other _ _ e,upd_other _ _ e⟩) (by simp only [upd_same];omega) (by omega) (λ_=>by simp only [upd_same];omega) (λ_ _=>by first|exact upd_same _ _ _|omega) (by simp only [upd_same];refine ⟨by omega,?_,?_⟩<;>intros<;>first|trivial|omega) (h.nds k) (by simp only [upd_same];omega) (λhy hro=> ?_) (.enq rfl k rfl ?_) (.inl (by simp only [upd_same];rw [sk,pk,cO_same wo];simp [phs]<;>omega)) (λw=>absurd w (by decide)) (λ_=> .inl (by decide)) (λhL hy=> ?_)⟩
  ·show Cor _ _ _ _ (wT (doS _ _ _ _ _ _)) (wS (doS _ _ _ _ _ _)) (wN (doS _ _ _ _ _ _)) (wO (doS _ _ _ _ _ _)) g (Q++[i])
   rw [wt,ws,wn,wo,hi]
   exact h.cor.s_enq q0 hk hr ha (ro_wait (p:=6) hy (upd_same _ _ _) (by omega) hi ((upd_same _ _ _).trans hta)) hro
  ·unfold wqF
   show wqL _ (wS (doS _ _ _ _ _ _)) _=_
   rw [ws,rest_more q0,wq_more (by rw [o7 (by omega)];decide),o1]
  ·have hrk:=ro_wait (f:={f with pc:=upd f.pc k 6,oth:=upd f.oth k (wT f.ps),tr:=upd f.tr k (f.tr k),ps:=doS f.ps k 3 L.a1 0 (f.nd k)}) (p:=6) hy (upd_same _ _ _) (by omega) hi ((upd_same _ _ _).trans hta)
   refine ⟨λj hj=> ?_,λi p b w=> ?_,λi w=> ?_,λ_=>⟨rfl,sk,by simp only [upd_same];omega,by simp only [upd_same];omega⟩,by decide,by decide⟩
   ·show wS (doS _ _ _ _ _ _) j≠2
    rw [ws]
    rcases List.mem_append.1 hj with hj|hj
    ·exact hL.up j hj
    ·obtain rfl:j=i:=by simpa using hj
     rw [o7 (by omega)]
     decide
   ·rw [hrk] at w;cases w
   ·rw [hrk] at w;cases w
theorem stp16 (h:OrdJ f g Q) (h1:L.a1=0) (h2:L.a2=1) {k:Nat} (x:Int) (hk:k<f.s.n) (sk:f.s.st k=1) (pk:f.pc k=6):∃ g' Q' y,Stp f (f.step L k k x) g Q k x (f.did L k k x) g' Q' y:=by
 obtain ⟨ed,es⟩:=at_one (L:=L) (x:=x) hk sk
 rw [ed,es]
 have hac:k<f.ps.ac.length:=by rw [h.ac];exact hk
 have hlen:=h.len
 obtain ⟨⟨t0,t1⟩,t2,t3⟩:=h.trg k hk
 obtain ⟨i,hi⟩:=Int.eq_ofNat_of_zero_le (h.nds k)
 obtain ⟨a,ha⟩:=Int.eq_ofNat_of_zero_le (h.ots k)
 have hr:=ro_wait (p:=6) sk pk (by omega) hi ha
 obtain ⟨o1,o2,o3,o4,o5⟩:=h.cor.wt k hk i 6 a hr
 have hadj:=(h.cor.s_nxt (ro':=λu=>if u=k then .wait i 7 a else f.ro u) (N':=λj=>if j=a then (i:Int) else wN f.ps j) hk hr (if_pos rfl) (λu hu=>if_neg hu) (if_pos rfl) (λj hj=>if_neg hj)).1
 have har:=(h.cor.rng a (adj_mem hadj).1).1
 obtain ⟨a,rfl⟩:∃ j,a=j+1:=⟨a-1,by omega⟩
 obtain ⟨b,cc,dd⟩:=do_store (v:=f.nd k) hac ((congrArg L.nA ha).trans (nAt h2 a)) (show 3*a+2<f.ps.ws.length by omega)
 obtain ⟨wt,ws,⟨f0,ff⟩,wo⟩:=ws_N (by omega) b
 have e1:f.acq L k k x={f with pc:=upd f.pc k 7,ps:=doS f.ps k 2 (L.nA (f.oth k)) 0 (f.nd k)}:=by unfold FL.acq;rw [if_neg (by omega),if_neg (by omega),if_neg (by omega),if_neg (by omega),if_neg (by omega),if_pos pk]
 have e2:f.acqD L k k x=Dd.no:=by unfold FL.acqD;rw [if_neg (by omega),if_neg (by omega),if_neg (by omega),if_neg (by omega),if_neg (by omega),if_pos pk]
 rw [e1,e2,fin_no]
 refine ⟨g,Q,1,h.stpM hk (.inl ⟨rfl,sk.symm⟩) rfl (by show (doS _ _ _ _ _ _).ws.length=_;rw [b,List.length_set]) cc dd (λj e=>⟨upd_other _ _ e,rfl,rfl,rfl⟩) (by simp only [upd_same];omega) (by omega) (λ_=>by simp only [upd_same];omega) (λ_ _=>by first|exact upd_same _ _ _|omega) (by simp only [upd_same];refine ⟨by omega,?_,?_⟩<;>intros<;>first|trivial|omega) (h.nds k) (h.ots k) (λhy hro=> ?_) (.same rfl (by decide) (by decide) ?_) (.inl (by simp only [upd_same];rw [sk,pk,cO_same wo];simp [phs]<;>omega)) (λw=>absurd w (by decide)) (λ_=> .inl (by decide)) (λhL hy=> ?_)⟩
 ·show Cor _ _ _ _ (wT (doS _ _ _ _ _ _)) (wS (doS _ _ _ _ _ _)) (wN (doS _ _ _ _ _ _)) (wO (doS _ _ _ _ _ _)) g Q
  rw [wt,ws,wo]
  exact (h.cor.s_nxt hk hr (ro_wait (p:=7) hy (upd_same _ _ _) (by omega) hi ha) hro (f0.trans hi) ff).2
 ·unfold wqF;show wqL _ (wS (doS _ _ _ _ _ _)) _=_;rw [ws]
 ·have hrk:=ro_wait (f:={f with pc:=upd f.pc k 7,ps:=doS f.ps k 2 (L.nA (f.oth k)) 0 (f.nd k)}) (p:=7) hy (upd_same _ _ _) (by omega) hi ha
  refine ⟨λj hj=>by show wS (doS _ _ _ _ _ _) j≠2;rw [ws];exact hL.up j hj,λi p b w=> ?_,λi w=> ?_,λ_=>⟨rfl,sk,by simp only [upd_same];omega,by simp only [upd_same];omega⟩,by decide,by decide⟩
  ·rw [hrk] at w;cases w
  ·rw [hrk] at w;cases w
theorem stp17 (h:OrdJ f g Q) (h1:L.a1=0) (h2:L.a2=1) {k:Nat} (x:Int) (hk:k<f.s.n) (sk:f.s.st k=1) (pk:f.pc k=7):∃ g' Q' y,Stp f (f.step L k k x) g Q k x (f.did L k k x) g' Q' y:=by
 obtain ⟨ed,es⟩:=at_one (L:=L) (x:=x) hk sk
 rw [ed,es]
 have hac:k<f.ps.ac.length:=by rw [h.ac];exact hk
 have hlen:=h.len
 obtain ⟨⟨t0,t1⟩,t2,t3⟩:=h.trg k hk
 obtain ⟨i,hi⟩:=Int.eq_ofNat_of_zero_le (h.nds k)
 obtain ⟨a,ha⟩:=Int.eq_ofNat_of_zero_le (h.ots k)
 have hr:=ro_wait (p:=7) sk pk (by omega) hi ha
 obtain ⟨o1,o2,o3,o4,o5⟩:=h.cor.wt k hk i 7 a hr
 have hir:=(h.cor.rng i o3).1
 obtain ⟨i,rfl⟩:∃ j,i=j+1:=⟨i-1,by omega⟩
 obtain ⟨a1,b,cc,dd⟩:=do_load hac ((congrArg L.sA hi).trans (sAt h2 i)) (show 3*i+1<f.ps.ws.length by omega)
 obtain ⟨wt,ws,wn,wo⟩:=ws_same b
 have hv:tellS f.ps k 1 (L.sA (f.nd k))=wS f.ps (i+1):=a1
 have hst:=h.cor.state hk hr (.inl rfl)
 generalize hI:i+1=i at*
 rcases hst with ⟨rfl,⟨r,rfl⟩,q3⟩|⟨q3,q4⟩
 ·have q:wS f.ps i≠0:=by rw [q3];decide
  have e1:f.acq L k k x={f with pc:=upd f.pc k 1,tr:=upd f.tr k 0,ps:=doS f.ps k 1 (L.sA (f.nd k)) 0 0}:=by unfold FL.acq;rw [if_neg (by omega),if_neg (by omega),if_neg (by omega),if_neg (by omega),if_neg (by omega),if_neg (by omega),if_pos pk];rw [hv,if_pos q,if_pos q]
  have e2:f.acqD L k k x=⟨1,false,false,false⟩:=by unfold FL.acqD;rw [if_neg (by omega),if_neg (by omega),if_neg (by omega),if_neg (by omega),if_neg (by omega),if_neg (by omega),if_pos pk];rw [hv,if_pos q]
  rw [e1,e2,fin_some hk (by rw [sk];rfl:behindI (f.s.st k) 1=some 2)]
  refine ⟨some k,i::r,2,h.stpM hk (.inr rfl) rfl (by show (doS _ _ _ _ _ _).ws.length=_;rw [b]) cc dd (λj e=>⟨upd_other _ _ e,rfl,rfl,upd_other _ _ e⟩) (by simp only [upd_same];omega) (by omega) (λ_=>by simp only [upd_same];omega) (λ_ _=>by first|exact upd_same _ _ _|omega) (by simp only [upd_same];refine ⟨by omega,?_,?_⟩<;>intros<;>first|trivial|omega) (h.nds k) (h.ots k) (λhy hro=> ?_) (.grant rfl k rfl ?_ ?_) (.inl (by simp only [upd_same];rw [sk,pk,cO_same wo];simp [phs]<;>omega)) (λ_=>⟨sk,rfl,false,rfl⟩) (λw=>absurd rfl w) (λhL hy=> ?_)⟩
  ·show Cor _ _ _ _ (wT (doS _ _ _ _ _ _)) (wS (doS _ _ _ _ _ _)) (wN (doS _ _ _ _ _ _)) (wO (doS _ _ _ _ _ _)) (some k) (i::r)
   rw [wt,ws,wn,wo]
   exact h.cor.s_grant hk hr (ro_has hy hi ha) hro
  ·unfold wqF
   show wqL _ _ (i::r)=k::wqL _ (wS (doS _ _ _ _ _ _)) r
   rw [ws,wq_yes (by rw [q3];decide),o1]
  ·have hn:=wq_nodup (R:=i::r) (λj hj=>h.cor.waits (j:=j) hj) h.cor.nodup
   rw [wq_yes (by rw [q3];decide),o1] at hn
   show ¬ k∈wqL _ (wS (doS _ _ _ _ _ _)) r
   rw [ws]
   exact (List.nodup_cons.1 hn).1
  ·have hrk:FL.ro {f with pc:=upd f.pc k 1,tr:=upd f.tr k 0,ps:=doS f.ps k 1 (L.sA (f.nd k)) 0 0,s:=f.s.set k 2 0} k= .hold i 0 a:=ro_has hy hi ha
   refine ⟨λj hj=>by show wS (doS _ _ _ _ _ _) j≠2;rw [ws];exact hL.up j hj,λi0 p b w=> ?_,λi w=> ?_,λw=>absurd w (by decide),by decide,by decide⟩
   ·rw [hrk] at w
    obtain ⟨rfl,_⟩:i=i0∧_:=by simpa using w
    exact o1
   ·rw [hrk] at w;cases w
 ·have q:¬ wS f.ps i≠0:=λw=>w q3
  have e2:f.acqD L k k x=Dd.no:=by unfold FL.acqD;rw [if_neg (by omega),if_neg (by omega),if_neg (by omega),if_neg (by omega),if_neg (by omega),if_neg (by omega),if_pos pk];rw [hv,if_neg q]
  have hwq:∀ f':FL,f'.ea=f.ea→wS f'.ps=wS f.ps→wqF f' g Q=wqF f g Q:=λf' w1 w2=>by unfold wqF;rw [w1,w2]
  by_cases hdu:f.due k x
  ·have e1:f.acq L k k x={f with pc:=upd f.pc k 8,tr:=upd f.tr k (f.tr k),ps:=doS f.ps k 1 (L.sA (f.nd k)) 0 0}:=by unfold FL.acq;rw [if_neg (by omega),if_neg (by omega),if_neg (by omega),if_neg (by omega),if_neg (by omega),if_neg (by omega),if_pos pk];rw [hv,if_neg q,if_neg q,if_pos hdu]
   rw [e1,e2,fin_no]
   refine ⟨g,Q,1,h.stpM hk (.inl ⟨rfl,sk.symm⟩) rfl (by show (doS _ _ _ _ _ _).ws.length=_;rw [b]) cc dd (λj e=>⟨upd_other _ _ e,rfl,rfl,upd_other _ _ e⟩) (by simp only [upd_same];omega) (by omega) (λ_=>by simp only [upd_same];omega) (λ_ _=>by first|exact upd_same _ _ _|omega) (by simp only [upd_same];refine ⟨by omega,?_,?_⟩<;>intros<;>first|trivial|omega) (h.nds k) (h.ots k) (λhy hro=> ?_) (.same rfl (by decide) (by decide) (hwq _ rfl ws)) (.inl (by simp only [upd_same];rw [sk,pk,cO_same wo];simp [phs]<;>omega)) (λw=>absurd w (by decide)) (λ_=> .inl (by decide)) (λhL hy=> ?_)⟩
   ·show Cor _ _ _ _ (wT (doS _ _ _ _ _ _)) (wS (doS _ _ _ _ _ _)) (wN (doS _ _ _ _ _ _)) (wO (doS _ _ _ _ _ _)) g Q
    rw [wt,ws,wn,wo]
    exact h.cor.s_late hk hr (ro_wait (p:=8) hy (upd_same _ _ _) (by omega) hi ha) hro
   ·have w1:=hL.dl k hk sk
    have w2:=hdu.1
    omega
  ·have e1:f.acq L k k x={f with pc:=upd f.pc k 7,tr:=upd f.tr k (f.tr k),ps:=doS f.ps k 1 (L.sA (f.nd k)) 0 0}:=by unfold FL.acq;rw [if_neg (by omega),if_neg (by omega),if_neg (by omega),if_neg (by omega),if_neg (by omega),if_neg (by omega),if_pos pk];rw [hv,if_neg q,if_neg q,if_neg hdu]
   rw [e1,e2,fin_no]
   refine ⟨g,Q,1,h.stpM hk (.inl ⟨rfl,sk.symm⟩) rfl (by show (doS _ _ _ _ _ _).ws.length=_;rw [b]) cc dd (λj e=>⟨upd_other _ _ e,rfl,rfl,upd_other _ _ e⟩) (by simp only [upd_same];omega) (by omega) (λ_=>by simp only [upd_same];omega) (λ_ _=>by first|exact upd_same _ _ _|omega) (by simp only [upd_same];refine ⟨by omega,?_,?_⟩<;>intros<;>first|trivial|omega) (h.nds k) (h.ots k) (λhy hro=> ?_) (.same rfl (by decide) (by decide) (hwq _ rfl ws)) (.inr ⟨.inr (.inr (.inl ⟨sk,pk,by rw [hi];exact q3,hdu⟩)),rfl,rfl,(upd_same _ _ _).trans pk.symm,rfl,upd_same _ _ _,b⟩) (λw=>absurd w (by decide)) (λ_=> .inl (by decide)) (λhL hy=> ?_)⟩
   ·show Cor _ _ _ _ (wT (doS _ _ _ _ _ _)) (wS (doS _ _ _ _ _ _)) (wN (doS _ _ _ _ _ _)) (wO (doS _ _ _ _ _ _)) g Q
    rw [wt,ws,wn,wo]
    refine cor_same h.cor λu=> ?_
    by_cases w:u=k
    ·subst w;exact (ro_wait (p:=7) hy (upd_same _ _ _) (by omega) hi ha).trans hr.symm
    ·exact hro u w
   ·have hrk:=ro_wait (f:={f with pc:=upd f.pc k 7,tr:=upd f.tr k (f.tr k),ps:=doS f.ps k 1 (L.sA (f.nd k)) 0 0}) (p:=7) hy (upd_same _ _ _) (by omega) hi ha
    refine ⟨λj hj=>by show wS (doS _ _ _ _ _ _) j≠2;rw [ws];exact hL.up j hj,λi p b w=> ?_,λi w=> ?_,λ_=>⟨rfl,sk,by simp only [upd_same];omega,by simp only [upd_same];omega⟩,by decide,by decide⟩
    ·rw [hrk] at w;cases w
    ·rw [hrk] at w;cases w
theorem stp18 (h:OrdJ f g Q) (h1:L.a1=0) (h2:L.a2=1) {k:Nat} (x:Int) (hk:k<f.s.n) (sk:f.s.st k=1) (pk:f.pc k=8):∃ g' Q' y,Stp f (f.step L k k x) g Q k x (f.did L k k x) g' Q' y:=by
 obtain ⟨ed,es⟩:=at_one (L:=L) (x:=x) hk sk
 rw [ed,es]
 have hac:k<f.ps.ac.length:=by rw [h.ac];exact hk
 have hlen:=h.len
 obtain ⟨⟨t0,t1⟩,t2,t3⟩:=h.trg k hk
 obtain ⟨i,hi⟩:=Int.eq_ofNat_of_zero_le (h.nds k)
 obtain ⟨a,ha⟩:=Int.eq_ofNat_of_zero_le (h.ots k)
 have hr:=ro_wait (p:=8) sk pk (by omega) hi ha
 obtain ⟨o1,o2,o3,o4,o5⟩:=h.cor.wt k hk i 8 a hr
 have hir:=(h.cor.rng i o3).1
 obtain ⟨i,rfl⟩:∃ j,i=j+1:=⟨i-1,by omega⟩
 obtain ⟨a1,b,cc,dd⟩:=do_cas (old:=0) (v:=2) hac ((congrArg L.sA hi).trans (sAt h2 i)) (show 3*i+1<f.ps.ws.length by omega)
 have hv:casT f.ps k (L.sA (f.nd k)) 0=true↔wS f.ps (i+1)=0:=a1
 have e1:f.acq L k k x={f with pc:=upd f.pc k 1,tr:=upd f.tr k 0,ps:=doS f.ps k 4 (L.sA (f.nd k)) 0 2}:=by unfold FL.acq;rw [if_neg (by omega),if_neg (by omega),if_neg (by omega),if_neg (by omega),if_neg (by omega),if_neg (by omega),if_neg (by omega)]
 rcases h.cor.state hk hr (.inr rfl) with ⟨rfl,⟨r,hQr⟩,q3⟩|⟨q3,q4⟩
 ·have hne:¬ f.ps.ws.getD (3*i+1) 0=0:=by
   have:wS f.ps (i+1)=f.ps.ws.getD (3*i+1) 0:=rfl
   omega
  rw [if_neg hne] at b
  obtain ⟨wt,ws,wn,wo⟩:=ws_same b
  have e2:f.acqD L k k x=⟨1,false,false,false⟩:=by unfold FL.acqD;rw [if_neg (by omega),if_neg (by omega),if_neg (by omega),if_neg (by omega),if_neg (by omega),if_neg (by omega),if_neg (by omega)];rw [if_neg (by rw [hv];omega)]
  clear hne hv a1
  subst hQr
  generalize hI:i+1=i at*
  rw [e1,e2,fin_some hk (by rw [sk];rfl:behindI (f.s.st k) 1=some 2)]
  refine ⟨some k,i::r,2,h.stpM hk (.inr rfl) rfl (by show (doS _ _ _ _ _ _).ws.length=_;rw [b]) cc dd (λj e=>⟨upd_other _ _ e,rfl,rfl,upd_other _ _ e⟩) (by simp only [upd_same];omega) (by omega) (λ_=>by simp only [upd_same];omega) (λ_ _=>by first|exact upd_same _ _ _|omega) (by simp only [upd_same];refine ⟨by omega,?_,?_⟩<;>intros<;>first|trivial|omega) (h.nds k) (h.ots k) (λhy hro=> ?_) (.grant rfl k rfl ?_ ?_) (.inl (by simp only [upd_same];rw [sk,pk,cO_same wo];simp [phs]<;>omega)) (λ_=>⟨sk,rfl,false,rfl⟩) (λw=>absurd rfl w) (λhL hy=> ?_)⟩
  ·show Cor _ _ _ _ (wT (doS _ _ _ _ _ _)) (wS (doS _ _ _ _ _ _)) (wN (doS _ _ _ _ _ _)) (wO (doS _ _ _ _ _ _)) (some k) (i::r)
   rw [wt,ws,wn,wo]
   exact h.cor.s_grant hk hr (ro_has hy hi ha) hro
  ·unfold wqF
   show wqL _ _ (i::r)=k::wqL _ (wS (doS _ _ _ _ _ _)) r
   rw [ws,wq_yes (by rw [q3];decide),o1]
  ·have hn:=wq_nodup (R:=i::r) (λj hj=>h.cor.waits (j:=j) hj) h.cor.nodup
   rw [wq_yes (by rw [q3];decide),o1] at hn
   show ¬ k∈wqL _ (wS (doS _ _ _ _ _ _)) r
   rw [ws]
   exact (List.nodup_cons.1 hn).1
  ·have hrk:FL.ro {f with pc:=upd f.pc k 1,tr:=upd f.tr k 0,ps:=doS f.ps k 4 (L.sA (f.nd k)) 0 2,s:=f.s.set k 2 0} k= .hold i 0 a:=ro_has hy hi ha
   refine ⟨λj hj=>by show wS (doS _ _ _ _ _ _) j≠2;rw [ws];exact hL.up j hj,λi0 p b w=> ?_,λi w=> ?_,λw=>absurd w (by decide),by decide,by decide⟩
   ·rw [hrk] at w
    obtain ⟨rfl,_⟩:i=i0∧_:=by simpa using w
    exact o1
   ·rw [hrk] at w;cases w
 ·have he:f.ps.ws.getD (3*i+1) 0=0:=q3
  rw [if_pos he] at b
  obtain ⟨wt,⟨f0,ff⟩,wn,wo⟩:=ws_S (by omega) b
  have e2:f.acqD L k k x=⟨2,false,false,false⟩:=by unfold FL.acqD;rw [if_neg (by omega),if_neg (by omega),if_neg (by omega),if_neg (by omega),if_neg (by omega),if_neg (by omega),if_neg (by omega)];rw [if_pos (hv.2 q3)]
  clear he hv a1
  generalize hI:i+1=i at*
  have hin:i∈rest g Q:=by
   cases hg:g with
   |none=>exact o3
   |some t=>
    obtain ⟨_,i0,r,p,b,hQ,_⟩:=h.cor.gs t hg
    rw [hQ] at o3 ⊢
    rcases List.mem_cons.1 o3 with w|w
    ·exact absurd (by rw [w];exact hQ) (q4 r)
    ·exact w
  rw [e1,e2,fin_some hk (by rw [sk];rfl:behindI (f.s.st k) 2=some 0)]
  refine ⟨g,Q,0,h.stpM hk (.inr rfl) rfl (by show (doS _ _ _ _ _ _).ws.length=_;rw [b,List.length_set]) cc dd (λj e=>⟨upd_other _ _ e,rfl,rfl,upd_other _ _ e⟩) (by simp only [upd_same];omega) (by omega) (λ_=>by simp only [upd_same];omega) (λ_ _=>by first|exact upd_same _ _ _|omega) (by simp only [upd_same];refine ⟨by omega,?_,?_⟩<;>intros<;>first|trivial|omega) (h.nds k) (h.ots k) (λhy hro=> ?_) (.gone rfl k rfl ?_) (.inl (by simp only [upd_same];rw [sk,pk,cO_same wo];simp [phs]<;>omega)) (λw=>absurd w (by decide)) (λ_=> .inl (by decide)) (λhL hy=> ?_)⟩
  ·show Cor _ _ _ _ (wT (doS _ _ _ _ _ _)) (wS (doS _ _ _ _ _ _)) (wN (doS _ _ _ _ _ _)) (wO (doS _ _ _ _ _ _)) g Q
   rw [wt,wn,wo]
   exact h.cor.s_up hk hr q3 (ro_idle hy) hro f0 ff
  ·unfold wqF
   have hu:=wq_up (λj hj=>h.cor.waits (j:=j) hj) (by rw [q3];decide) hin f0 ff
   rw [o1] at hu
   exact hu
  ·exact absurd pk (hL.p8 k hk sk)
theorem stp31 (h:OrdJ f g Q) (h1:L.a1=0) (h2:L.a2=1) {k:Nat} (x:Int) (hk:k<f.s.n) (sk:f.s.st k=3) (pk:f.pc k=1):∃ g' Q' y,Stp f (f.step L k k x) g Q k x (f.did L k k x) g' Q' y:=by
 obtain ⟨ed,es⟩:=at_three (L:=L) (x:=x) hk sk
 rw [ed,es]
 have hac:k<f.ps.ac.length:=by rw [h.ac];exact hk
 have hlen:=h.len
 obtain ⟨⟨t0,t1⟩,t2,t3⟩:=h.trg k hk
 have t3:=t3 (by rw [sk];decide)
 obtain ⟨i,hi⟩:=Int.eq_ofNat_of_zero_le (h.nds k)
 obtain ⟨a,ha⟩:=Int.eq_ofNat_of_zero_le (h.ots k)
 have hr:=ro_un (p:=1) sk pk (by omega) hi ha
 have hg:=h.cor.ho _ hk _ _ _ hr
 subst hg
 have hcor:=h.cor
 obtain ⟨r,rfl⟩:∃ r,Q=i::r:=by
  obtain ⟨_,i0,r,p,b,hQ,hr2,_⟩:=h.cor.gs k rfl
  rw [hr] at hr2
  obtain ⟨rfl,_⟩:i=i0∧_:=by simpa using hr2
  exact ⟨r,hQ⟩
 have hir:=(h.cor.rng i (by simp)).1
 obtain ⟨i,rfl⟩:∃ j,i=j+1:=⟨i-1,by omega⟩
 obtain ⟨a1,b,cc,dd⟩:=do_load hac ((congrArg L.nA hi).trans (nAt h2 i)) (show 3*i+2<f.ps.ws.length by omega)
 obtain ⟨wt,ws,wn,wo⟩:=ws_same b
 have hv:tellS f.ps k 1 (L.nA (f.nd k))=wN f.ps (i+1):=a1
 clear a1
 generalize hI:i+1=i at*
 have e2:f.relD k=Dd.no:=by unfold FL.relD;rw [if_pos (by omega)]
 have hwq:∀ f':FL,f'.ea=f.ea→wS f'.ps=wS f.ps→wqF f' (some k) (i::r)=wqF f (some k) (i::r):=λf' w1 w2=>by unfold wqF;rw [w1,w2]
 have hno:=h.cor.nextOf
 by_cases q:wN f.ps i=0
 ·have e1:f.rel L k k={f with pc:=upd f.pc k 2,oth:=upd f.oth k (wN f.ps i),ps:=doS f.ps k 1 (L.nA (f.nd k)) 0 0}:=by unfold FL.rel;rw [if_pos pk];rw [hv,if_pos q]
  rw [e1,e2,fin_no]
  refine ⟨some k,i::r,3,h.stpM hk (.inl ⟨rfl,sk.symm⟩) rfl (by show (doS _ _ _ _ _ _).ws.length=_;rw [b]) cc dd (λj e=>⟨upd_other _ _ e,rfl,upd_other _ _ e,rfl⟩) (by simp only [upd_same];omega) (by omega) (λ_=>by simp only [upd_same];omega) (λ_ _=>by first|exact upd_same _ _ _|omega) (by simp only [upd_same];refine ⟨by omega,?_,?_⟩<;>intros<;>first|trivial|omega) (h.nds k) (by simp only [upd_same];rw [q];omega) (λhy hro=> ?_) (.same rfl (by decide) (by decide) (hwq _ rfl ws)) (.inl (by simp only [upd_same];rw [sk,pk,cO_same wo];simp [phs]<;>omega)) (λw=>absurd w (by decide)) (λ_=> .inl (by decide)) (λhL hy=> ?_)⟩
  ·show Cor _ _ _ _ (wT (doS _ _ _ _ _ _)) (wS (doS _ _ _ _ _ _)) (wN (doS _ _ _ _ _ _)) (wO (doS _ _ _ _ _ _)) (some k) (i::r)
   rw [wt,ws,wn,wo]
   exact h.cor.s_un hk hr (ro_un (p:=2) hy (upd_same _ _ _) (by omega) hi ((upd_same _ _ _).trans q:_=((0:Nat):Int))) hro (by omega) (λw=>by omega) (λw=>by omega)
  ·have hrk:FL.ro {f with pc:=upd f.pc k 2,oth:=upd f.oth k (wN f.ps i),ps:=doS f.ps k 1 (L.nA (f.nd k)) 0 0} k=_:=ro_un (p:=2) hy (upd_same _ _ _) (by omega) hi ((upd_same _ _ _).trans q:_=((0:Nat):Int))
   refine ⟨λj hj=>by show wS (doS _ _ _ _ _ _) j≠2;rw [ws];exact hL.up j hj,λi0 p b w=> ?_,λi w=> ?_,λw=>absurd w (by decide),by decide,by decide⟩
   ·rw [hrk] at w
    obtain ⟨rfl,_⟩:i=i0∧_:=by simpa using w
    exact hL.ho k hk _ _ _ hr
   ·rw [hrk] at w;cases w
 ·obtain ⟨j,r',rfl,hj,hN⟩:∃ j r',r=j::r'∧(1≤j∧j≤f.s.n*f.ea)∧wN f.ps i=(j:Int):=by
   rcases hno with ⟨_,w⟩|⟨j,r',w1,w2,w3|w3⟩
   ·exact absurd w q
   ·exact absurd w3.1 q
   ·exact ⟨j,r',w1,w2,w3.1⟩
  have e1:f.rel L k k={f with pc:=upd f.pc k 4,oth:=upd f.oth k (wN f.ps i),ps:=doS f.ps k 1 (L.nA (f.nd k)) 0 0}:=by unfold FL.rel;rw [if_pos pk];rw [hv,if_neg q]
  rw [e1,e2,fin_no]
  refine ⟨some k,i::j::r',3,h.stpM hk (.inl ⟨rfl,sk.symm⟩) rfl (by show (doS _ _ _ _ _ _).ws.length=_;rw [b]) cc dd (λj e=>⟨upd_other _ _ e,rfl,upd_other _ _ e,rfl⟩) (by simp only [upd_same];omega) (by omega) (λ_=>by simp only [upd_same];omega) (λ_ _=>by first|exact upd_same _ _ _|omega) (by simp only [upd_same];refine ⟨by omega,?_,?_⟩<;>intros<;>first|trivial|omega) (h.nds k) (by simp only [upd_same];omega) (λhy hro=> ?_) (.same rfl (by decide) (by decide) (hwq _ rfl ws)) (.inl (by simp only [upd_same];rw [sk,pk,cO_same wo];simp [phs]<;>omega)) (λw=>absurd w (by decide)) (λ_=> .inl (by decide)) (λhL hy=> ?_)⟩
  ·show Cor _ _ _ _ (wT (doS _ _ _ _ _ _)) (wS (doS _ _ _ _ _ _)) (wN (doS _ _ _ _ _ _)) (wO (doS _ _ _ _ _ _)) (some k) (i::j::r')
   rw [wt,ws,wn,wo]
   exact h.cor.s_un hk hr (ro_un (p:=4) hy (upd_same _ _ _) (by omega) hi ((upd_same _ _ _).trans hN)) hro (by omega) (λw=>by omega) (λ_=>⟨r',rfl,hN,λw=>by omega⟩)
  ·have hrk:FL.ro {f with pc:=upd f.pc k 4,oth:=upd f.oth k (wN f.ps i),ps:=doS f.ps k 1 (L.nA (f.nd k)) 0 0} k=_:=ro_un (p:=4) hy (upd_same _ _ _) (by omega) hi ((upd_same _ _ _).trans hN)
   refine ⟨λj hj=>by show wS (doS _ _ _ _ _ _) j≠2;rw [ws];exact hL.up j hj,λi0 p b w=> ?_,λi w=> ?_,λw=>absurd w (by decide),by decide,by decide⟩
   ·rw [hrk] at w
    obtain ⟨rfl,_⟩:i=i0∧_:=by simpa using w
    exact hL.ho k hk _ _ _ hr
   ·rw [hrk] at w;cases w
theorem stp33 (h:OrdJ f g Q) (h1:L.a1=0) (h2:L.a2=1) {k:Nat} (x:Int) (hk:k<f.s.n) (sk:f.s.st k=3) (pk:f.pc k=3):∃ g' Q' y,Stp f (f.step L k k x) g Q k x (f.did L k k x) g' Q' y:=by
 obtain ⟨ed,es⟩:=at_three (L:=L) (x:=x) hk sk
 rw [ed,es]
 have hac:k<f.ps.ac.length:=by rw [h.ac];exact hk
 have hlen:=h.len
 obtain ⟨⟨t0,t1⟩,t2,t3⟩:=h.trg k hk
 have t3:=t3 (by rw [sk];decide)
 obtain ⟨i,hi⟩:=Int.eq_ofNat_of_zero_le (h.nds k)
 obtain ⟨a,ha⟩:=Int.eq_ofNat_of_zero_le (h.ots k)
 have hr:=ro_un (p:=3) sk pk (by omega) hi ha
 have hg:=h.cor.ho _ hk _ _ _ hr
 subst hg
 have hcor:=h.cor
 obtain ⟨r,rfl⟩:∃ r,Q=i::r:=by
  obtain ⟨_,i0,r,p,b,hQ,hr2,_⟩:=h.cor.gs k rfl
  rw [hr] at hr2
  obtain ⟨rfl,_⟩:i=i0∧_:=by simpa using hr2
  exact ⟨r,hQ⟩
 have hir:=(h.cor.rng i (by simp)).1
 obtain ⟨i,rfl⟩:∃ j,i=j+1:=⟨i-1,by omega⟩
 obtain ⟨a1,b,cc,dd⟩:=do_load hac ((congrArg L.nA hi).trans (nAt h2 i)) (show 3*i+2<f.ps.ws.length by omega)
 obtain ⟨wt,ws,wn,wo⟩:=ws_same b
 have hv:tellS f.ps k 1 (L.nA (f.nd k))=wN f.ps (i+1):=a1
 clear a1
 generalize hI:i+1=i at*
 have e2:f.relD k=Dd.no:=by unfold FL.relD;rw [if_pos (by omega)]
 have hwq:∀ f':FL,f'.ea=f.ea→wS f'.ps=wS f.ps→wqF f' (some k) (i::r)=wqF f (some k) (i::r):=λf' w1 w2=>by unfold wqF;rw [w1,w2]
 have hno:=h.cor.nextOf
 by_cases q:wN f.ps i=0
 ·have e1:f.rel L k k={f with pc:=upd f.pc k 3,oth:=upd f.oth k (wN f.ps i),ps:=doS f.ps k 1 (L.nA (f.nd k)) 0 0}:=by unfold FL.rel;rw [if_neg (by omega),if_neg (by omega),if_pos pk];rw [hv,if_pos q]
  rw [e1,e2,fin_no]
  refine ⟨some k,i::r,3,h.stpM hk (.inl ⟨rfl,sk.symm⟩) rfl (by show (doS _ _ _ _ _ _).ws.length=_;rw [b]) cc dd (λj e=>⟨upd_other _ _ e,rfl,upd_other _ _ e,rfl⟩) (by simp only [upd_same];omega) (by omega) (λ_=>by simp only [upd_same];omega) (λ_ _=>by first|exact upd_same _ _ _|omega) (by simp only [upd_same];refine ⟨by omega,?_,?_⟩<;>intros<;>first|trivial|omega) (h.nds k) (by simp only [upd_same];rw [q];omega) (λhy hro=> ?_) (.same rfl (by decide) (by decide) (hwq _ rfl ws)) (.inr ⟨.inr (.inr (.inr ⟨sk,pk,by rw [hi];exact q⟩)),rfl,rfl,(upd_same _ _ _).trans pk.symm,rfl,rfl,b⟩) (λw=>absurd w (by decide)) (λ_=> .inl (by decide)) (λhL hy=> ?_)⟩
  ·show Cor _ _ _ _ (wT (doS _ _ _ _ _ _)) (wS (doS _ _ _ _ _ _)) (wN (doS _ _ _ _ _ _)) (wO (doS _ _ _ _ _ _)) (some k) (i::r)
   rw [wt,ws,wn,wo]
   exact h.cor.s_un hk hr (ro_un (p:=3) hy (upd_same _ _ _) (by omega) hi ((upd_same _ _ _).trans q:_=((0:Nat):Int))) hro (by omega) (λ_=>h.cor.u3 k i a rfl hr) (λw=>by omega)
  ·have hrk:FL.ro {f with pc:=upd f.pc k 3,oth:=upd f.oth k (wN f.ps i),ps:=doS f.ps k 1 (L.nA (f.nd k)) 0 0} k=_:=ro_un (p:=3) hy (upd_same _ _ _) (by omega) hi ((upd_same _ _ _).trans q:_=((0:Nat):Int))
   refine ⟨λj hj=>by show wS (doS _ _ _ _ _ _) j≠2;rw [ws];exact hL.up j hj,λi0 p b w=> ?_,λi w=> ?_,λw=>absurd w (by decide),by decide,by decide⟩
   ·rw [hrk] at w
    obtain ⟨rfl,_⟩:i=i0∧_:=by simpa using w
    exact hL.ho k hk _ _ _ hr
   ·rw [hrk] at w;cases w
 ·obtain ⟨j,r',rfl,hj,hN⟩:∃ j r',r=j::r'∧(1≤j∧j≤f.s.n*f.ea)∧wN f.ps i=(j:Int):=by
   rcases hno with ⟨_,w⟩|⟨j,r',w1,w2,w3|w3⟩
   ·exact absurd w q
   ·exact absurd w3.1 q
   ·exact ⟨j,r',w1,w2,w3.1⟩
  have e1:f.rel L k k={f with pc:=upd f.pc k 4,oth:=upd f.oth k (wN f.ps i),ps:=doS f.ps k 1 (L.nA (f.nd k)) 0 0}:=by unfold FL.rel;rw [if_neg (by omega),if_neg (by omega),if_pos pk];rw [hv,if_neg q]
  rw [e1,e2,fin_no]
  refine ⟨some k,i::j::r',3,h.stpM hk (.inl ⟨rfl,sk.symm⟩) rfl (by show (doS _ _ _ _ _ _).ws.length=_;rw [b]) cc dd (λj e=>⟨upd_other _ _ e,rfl,upd_other _ _ e,rfl⟩) (by simp only [upd_same];omega) (by omega) (λ_=>by simp only [upd_same];omega) (λ_ _=>by first|exact upd_same _ _ _|omega) (by simp only [upd_same];refine ⟨by omega,?_,?_⟩<;>intros<;>first|trivial|omega) (h.nds k) (by simp only [upd_same];omega) (λhy hro=> ?_) (.same rfl (by decide) (by decide) (hwq _ rfl ws)) (.inl (by simp only [upd_same];rw [sk,pk,cO_same wo];simp [phs]<;>omega)) (λw=>absurd w (by decide)) (λ_=> .inl (by decide)) (λhL hy=> ?_)⟩
  ·show Cor _ _ _ _ (wT (doS _ _ _ _ _ _)) (wS (doS _ _ _ _ _ _)) (wN (doS _ _ _ _ _ _)) (wO (doS _ _ _ _ _ _)) (some k) (i::j::r')
   rw [wt,ws,wn,wo]
   exact h.cor.s_un hk hr (ro_un (p:=4) hy (upd_same _ _ _) (by omega) hi ((upd_same _ _ _).trans hN)) hro (by omega) (λw=>by omega) (λ_=>⟨r',rfl,hN,λw=>by omega⟩)
  ·have hrk:FL.ro {f with pc:=upd f.pc k 4,oth:=upd f.oth k (wN f.ps i),ps:=doS f.ps k 1 (L.nA (f.nd k)) 0 0} k=_:=ro_un (p:=4) hy (upd_same _ _ _) (by omega) hi ((upd_same _ _ _).trans hN)
   refine ⟨λj hj=>by show wS (doS _ _ _ _ _ _) j≠2;rw [ws];exact hL.up j hj,λi0 p b w=> ?_,λi w=> ?_,λw=>absurd w (by decide),by decide,by decide⟩
   ·rw [hrk] at w
    obtain ⟨rfl,_⟩:i=i0∧_:=by simpa using w
    exact hL.ho k hk _ _ _ hr
   ·rw [hrk] at w;cases w
theorem stp32 (h:OrdJ f g Q) (h1:L.a1=0) (h2:L.a2=1) {k:Nat} (x:Int) (hk:k<f.s.n) (sk:f.s.st k=3) (pk:f.pc k=2):∃ g' Q' y,Stp f (f.step L k k x) g Q k x (f.did L k k x) g' Q' y:=by
 obtain ⟨ed,es⟩:=at_three (L:=L) (x:=x) hk sk
 rw [ed,es]
 have hac:k<f.ps.ac.length:=by rw [h.ac];exact hk
 have hlen:=h.len
 obtain ⟨⟨t0,t1⟩,t2,t3⟩:=h.trg k hk
 have t3:=t3 (by rw [sk];decide)
 obtain ⟨i,hi⟩:=Int.eq_ofNat_of_zero_le (h.nds k)
 obtain ⟨a,ha⟩:=Int.eq_ofNat_of_zero_le (h.ots k)
 have hr:=ro_un (p:=2) sk pk (by omega) hi ha
 have hg:=h.cor.ho _ hk _ _ _ hr
 subst hg
 have hcor:=h.cor
 obtain ⟨r,rfl⟩:∃ r,Q=i::r:=by
  obtain ⟨_,i0,r,p,b,hQ,hr2,_⟩:=h.cor.gs k rfl
  rw [hr] at hr2
  obtain ⟨rfl,_⟩:i=i0∧_:=by simpa using hr2
  exact ⟨r,hQ⟩
 have hir:=(h.cor.rng i (by simp)).1
 obtain ⟨a1,b,cc,dd⟩:=do_cas (old:=f.nd k) (v:=0) hac (show L.a1=((0:Nat):Int) from h1) (show 0<f.ps.ws.length by omega)
 have hv:casT f.ps k L.a1 (f.nd k)=true↔wT f.ps=f.nd k:=a1
 have hto:=h.cor.tailOf
 have e2:f.relD k=Dd.no:=by unfold FL.relD;rw [if_pos (by omega)]
 by_cases q:wT f.ps=f.nd k
 ·obtain rfl:=hto.1 (q.trans hi)
  rw [if_pos (show f.ps.ws.getD 0 0=f.nd k from q)] at b
  obtain ⟨wt,ws,wn,wo⟩:=ws_tail (by omega) b
  have e1:f.rel L k k={f with pc:=upd f.pc k 6,ps:=doS f.ps k 4 L.a1 (f.nd k) 0}:=by unfold FL.rel;rw [if_neg (by omega),if_pos pk];rw [if_pos (hv.2 q)]
  rw [e1,e2,fin_no]
  refine ⟨none,[],3,h.stpM hk (.inl ⟨rfl,sk.symm⟩) rfl (by show (doS _ _ _ _ _ _).ws.length=_;rw [b,List.length_set]) cc dd (λj e=>⟨upd_other _ _ e,rfl,rfl,rfl⟩) (by simp only [upd_same];omega) (by omega) (λ_=>by simp only [upd_same];omega) (λ_ _=>by first|exact upd_same _ _ _|omega) (by simp only [upd_same];refine ⟨by omega,?_,?_⟩<;>intros<;>first|trivial|omega) (h.nds k) (h.ots k) (λhy hro=> ?_) (.same rfl (by decide) (by decide) ?_) (.inl (by simp only [upd_same];rw [sk,pk,cO_same wo];simp [phs]<;>omega)) (λw=>absurd w (by decide)) (λ_=> .inl (by decide)) (λhL hy=> ?_)⟩
  ·show Cor _ _ _ _ (wT (doS _ _ _ _ _ _)) (wS (doS _ _ _ _ _ _)) (wN (doS _ _ _ _ _ _)) (wO (doS _ _ _ _ _ _)) none []
   rw [wt,ws,wn,wo]
   exact h.cor.s_free hk hr (ro_det hy (upd_same _ _ _) hi) hro
  ·rfl
  ·have hrk:FL.ro {f with pc:=upd f.pc k 6,ps:=doS f.ps k 4 L.a1 (f.nd k) 0} k=_:=ro_det hy (upd_same _ _ _) hi
   refine ⟨λj hj=>(by cases hj),λi0 p b w=> ?_,λi0 w=> ?_,λw=>absurd w (by decide),by decide,by decide⟩
   ·rw [hrk] at w;cases w
   ·rw [hrk] at w
    obtain rfl:i=i0:=by simpa using w
    exact hL.ho k hk _ _ _ hr
 ·rw [if_neg (show ¬ f.ps.ws.getD 0 0=f.nd k from q)] at b
  obtain ⟨wt,ws,wn,wo⟩:=ws_same b
  have e1:f.rel L k k={f with pc:=upd f.pc k 3,ps:=doS f.ps k 4 L.a1 (f.nd k) 0}:=by unfold FL.rel;rw [if_neg (by omega),if_pos pk];rw [if_neg (λw=>q (hv.1 w))]
  rw [e1,e2,fin_no]
  refine ⟨some k,i::r,3,h.stpM hk (.inl ⟨rfl,sk.symm⟩) rfl (by show (doS _ _ _ _ _ _).ws.length=_;rw [b]) cc dd (λj e=>⟨upd_other _ _ e,rfl,rfl,rfl⟩) (by simp only [upd_same];omega) (by omega) (λ_=>by simp only [upd_same];omega) (λ_ _=>by first|exact upd_same _ _ _|omega) (by simp only [upd_same];refine ⟨by omega,?_,?_⟩<;>intros<;>first|trivial|omega) (h.nds k) (h.ots k) (λhy hro=> ?_) (.same rfl (by decide) (by decide) ?_) (.inl (by simp only [upd_same];rw [sk,pk,cO_same wo];simp [phs]<;>omega)) (λw=>absurd w (by decide)) (λ_=> .inl (by decide)) (λhL hy=> ?_)⟩
  ·show Cor _ _ _ _ (wT (doS _ _ _ _ _ _)) (wS (doS _ _ _ _ _ _)) (wN (doS _ _ _ _ _ _)) (wO (doS _ _ _ _ _ _)) (some k) (i::r)
   rw [wt,ws,wn,wo]
   exact h.cor.s_un hk hr (ro_un (p:=3) hy (upd_same _ _ _) (by omega) hi ha) hro (by omega) (λ_ w=>q ((hto.2 (by simpa using w)).trans hi.symm)) (λw=>by omega)
  ·unfold wqF;show wqL _ (wS (doS _ _ _ _ _ _)) _=_;rw [ws]
  ·have hrk:FL.ro {f with pc:=upd f.pc k 3,ps:=doS f.ps k 4 L.a1 (f.nd k) 0} k=_:=ro_un (p:=3) hy (upd_same _ _ _) (by omega) hi ha
   refine ⟨λj hj=>by show wS (doS _ _ _ _ _ _) j≠2;rw [ws];exact hL.up j hj,λi0 p b w=> ?_,λi w=> ?_,λw=>absurd w (by decide),by decide,by decide⟩
   ·rw [hrk] at w
    obtain ⟨rfl,_⟩:i=i0∧_:=by simpa using w
    exact hL.ho k hk _ _ _ hr
   ·rw [hrk] at w;cases w
theorem stp34 (h:OrdJ f g Q) (h1:L.a1=0) (h2:L.a2=1) {k:Nat} (x:Int) (hk:k<f.s.n) (sk:f.s.st k=3) (pk:f.pc k=4):∃ g' Q' y,Stp f (f.step L k k x) g Q k x (f.did L k k x) g' Q' y:=by
 obtain ⟨ed,es⟩:=at_three (L:=L) (x:=x) hk sk
 rw [ed,es]
 have hac:k<f.ps.ac.length:=by rw [h.ac];exact hk
 have hlen:=h.len
 obtain ⟨⟨t0,t1⟩,t2,t3⟩:=h.trg k hk
 have t3:=t3 (by rw [sk];decide)
 obtain ⟨i,hi⟩:=Int.eq_ofNat_of_zero_le (h.nds k)
 obtain ⟨a,ha⟩:=Int.eq_ofNat_of_zero_le (h.ots k)
 have hr:=ro_un (p:=4) sk pk (by omega) hi ha
 have hg:=h.cor.ho _ hk _ _ _ hr
 subst hg
 have hcor:=h.cor
 obtain ⟨r,rfl⟩:∃ r,Q=i::r:=by
  obtain ⟨_,i0,r,p,b,hQ,hr2,_⟩:=h.cor.gs k rfl
  rw [hr] at hr2
  obtain ⟨rfl,_⟩:i=i0∧_:=by simpa using hr2
  exact ⟨r,hQ⟩
 have hir:=(h.cor.rng i (by simp)).1
 obtain ⟨r',hQ,hN,hS5⟩:=h.cor.u4 k i a 4 rfl hr (.inl rfl)
 obtain rfl:r=a::r':=by simpa using hQ
 have har:=(h.cor.rng a (by simp)).1
 have hno:=h.cor.nextOf
 obtain ⟨a,rfl⟩:∃ j,a=j+1:=⟨a-1,by omega⟩
 obtain ⟨a1,b,cc,dd⟩:=do_cas (old:=0) (v:=1) hac ((congrArg L.sA ha).trans (sAt h2 a)) (show 3*a+1<f.ps.ws.length by omega)
 have hv:casT f.ps k (L.sA (f.oth k)) 0=true↔wS f.ps (a+1)=0:=a1
 have hs2:wS f.ps (a+1)=0∨wS f.ps (a+1)=2:=by
  rcases hno with ⟨w,_⟩|⟨j,r2,w1,w2,w3|w3⟩
  ·cases w
  ·omega
  ·obtain ⟨rfl,_⟩:a+1=j∧_:=by simpa using w1
   exact w3.2
 have e2:f.relD k=Dd.no:=by unfold FL.relD;rw [if_pos (by omega)]
 by_cases q:wS f.ps (a+1)=0
 ·rw [if_pos (show f.ps.ws.getD (3*a+1) 0=0 from q)] at b
  obtain ⟨wt,⟨f0,ff⟩,wn,wo⟩:=ws_S (by omega) b
  have e1:f.rel L k k={f with pc:=upd f.pc k 6,ps:=doS f.ps k 4 (L.sA (f.oth k)) 0 1}:=by unfold FL.rel;rw [if_neg (by omega),if_neg (by omega),if_neg (by omega),if_pos pk];rw [if_pos (hv.2 q)]
  rw [e1,e2,fin_no]
  clear a1 hv hno
  generalize hA:a+1=a at*
  refine ⟨none,a::r',3,h.stpM hk (.inl ⟨rfl,sk.symm⟩) rfl (by show (doS _ _ _ _ _ _).ws.length=_;rw [b,List.length_set]) cc dd (λj e=>⟨upd_other _ _ e,rfl,rfl,rfl⟩) (by simp only [upd_same];omega) (by omega) (λ_=>by simp only [upd_same];omega) (λ_ _=>by first|exact upd_same _ _ _|omega) (by simp only [upd_same];refine ⟨by omega,?_,?_⟩<;>intros<;>first|trivial|omega) (h.nds k) (h.ots k) (λhy hro=> ?_) (.same rfl (by decide) (by decide) ?_) (.inl (by simp only [upd_same];rw [sk,pk,cO_same wo];simp [phs]<;>omega)) (λw=>absurd w (by decide)) (λ_=> .inl (by decide)) (λhL hy=> ?_)⟩
  ·show Cor _ _ _ _ (wT (doS _ _ _ _ _ _)) (wS (doS _ _ _ _ _ _)) (wN (doS _ _ _ _ _ _)) (wO (doS _ _ _ _ _ _)) none (a::r')
   rw [wt,wn,wo]
   exact h.cor.s_hand hk hr hN q (ro_det hy (upd_same _ _ _) hi) hro f0 ff
  ·unfold wqF
   refine wq_same (R:=a::r') λj hj=> ?_
   show wS (doS _ _ _ _ _ _) j=2↔_
   by_cases w:j=a
   ·subst w;rw [f0,q];decide
   ·rw [ff j w]
  ·have hrk:FL.ro {f with pc:=upd f.pc k 6,ps:=doS f.ps k 4 (L.sA (f.oth k)) 0 1} k=_:=ro_det hy (upd_same _ _ _) hi
   refine ⟨λj hj=>by
    show wS (doS _ _ _ _ _ _) j≠2
    by_cases w:j=a
    ·subst w;rw [f0];decide
    ·rw [ff j w];exact hL.up j (List.mem_cons_of_mem _ hj),λi0 p b w=> ?_,λi0 w=> ?_,λw=>absurd w (by decide),by decide,by decide⟩
   ·rw [hrk] at w;cases w
   ·rw [hrk] at w
    obtain rfl:i=i0:=by simpa using w
    exact hL.ho k hk _ _ _ hr
 ·have q2:wS f.ps (a+1)=2:=by omega
  rw [if_neg (show ¬ f.ps.ws.getD (3*a+1) 0=0 from q)] at b
  obtain ⟨wt,ws,wn,wo⟩:=ws_same b
  have e1:f.rel L k k={f with pc:=upd f.pc k 5,ps:=doS f.ps k 4 (L.sA (f.oth k)) 0 1}:=by unfold FL.rel;rw [if_neg (by omega),if_neg (by omega),if_neg (by omega),if_pos pk];rw [if_neg (λw=>q (hv.1 w))]
  rw [e1,e2,fin_no]
  clear a1 hv hno
  generalize hA:a+1=a at*
  refine ⟨some k,i::a::r',3,h.stpM hk (.inl ⟨rfl,sk.symm⟩) rfl (by show (doS _ _ _ _ _ _).ws.length=_;rw [b]) cc dd (λj e=>⟨upd_other _ _ e,rfl,rfl,rfl⟩) (by simp only [upd_same];omega) (by omega) (λ_=>by simp only [upd_same];omega) (λ_ _=>by first|exact upd_same _ _ _|omega) (by simp only [upd_same];refine ⟨by omega,?_,?_⟩<;>intros<;>first|trivial|omega) (h.nds k) (h.ots k) (λhy hro=> ?_) (.same rfl (by decide) (by decide) ?_) (.inl (by simp only [upd_same];rw [sk,pk,cO_same wo];simp [phs]<;>omega)) (λw=>absurd w (by decide)) (λ_=> .inl (by decide)) (λhL hy=> ?_)⟩
  ·show Cor _ _ _ _ (wT (doS _ _ _ _ _ _)) (wS (doS _ _ _ _ _ _)) (wN (doS _ _ _ _ _ _)) (wO (doS _ _ _ _ _ _)) (some k) (i::a::r')
   rw [wt,ws,wn,wo]
   exact h.cor.s_un hk hr (ro_un (p:=5) hy (upd_same _ _ _) (by omega) hi ha) hro (by omega) (λw=>by omega) (λ_=>⟨r',rfl,hN,λ_=>q2⟩)
  ·unfold wqF;show wqL _ (wS (doS _ _ _ _ _ _)) _=_;rw [ws]
  ·exact absurd q2 (hL.up a (by simp))
theorem stp35 (h:OrdJ f g Q) (h1:L.a1=0) (h2:L.a2=1) {k:Nat} (x:Int) (hk:k<f.s.n) (sk:f.s.st k=3) (pk:f.pc k=5):∃ g' Q' y,Stp f (f.step L k k x) g Q k x (f.did L k k x) g' Q' y:=by
 obtain ⟨ed,es⟩:=at_three (L:=L) (x:=x) hk sk
 rw [ed,es]
 have hac:k<f.ps.ac.length:=by rw [h.ac];exact hk
 have hlen:=h.len
 obtain ⟨⟨t0,t1⟩,t2,t3⟩:=h.trg k hk
 have t3:=t3 (by rw [sk];decide)
 obtain ⟨i,hi⟩:=Int.eq_ofNat_of_zero_le (h.nds k)
 obtain ⟨a,ha⟩:=Int.eq_ofNat_of_zero_le (h.ots k)
 have hr:=ro_un (p:=5) sk pk (by omega) hi ha
 have hg:=h.cor.ho _ hk _ _ _ hr
 subst hg
 have hcor:=h.cor
 obtain ⟨r,rfl⟩:∃ r,Q=i::r:=by
  obtain ⟨_,i0,r,p,b,hQ,hr2,_⟩:=h.cor.gs k rfl
  rw [hr] at hr2
  obtain ⟨rfl,_⟩:i=i0∧_:=by simpa using hr2
  exact ⟨r,hQ⟩
 have hir:=(h.cor.rng i (by simp)).1
 obtain ⟨r',hQ,hN,hS5⟩:=h.cor.u4 k i a 5 rfl hr (.inr rfl)
 obtain rfl:r=a::r':=by simpa using hQ
 have har:=(h.cor.rng a (by simp)).1
 obtain ⟨i,rfl⟩:∃ j,i=j+1:=⟨i-1,by omega⟩
 obtain ⟨b,cc,dd⟩:=do_store (v:=0) hac ((congrArg L.oA hi).trans (oAt h2 i)) (show 3*i+3<f.ps.ws.length by omega)
 obtain ⟨wt,ws,wn,⟨f0,ff⟩⟩:=ws_O (by omega) b
 have e2:f.relD k=Dd.no:=by unfold FL.relD;rw [if_pos (by omega)]
 have e1:f.rel L k k={f with pc:=upd f.pc k 1,nd:=upd f.nd k (f.oth k),ps:=doS f.ps k 2 (L.oA (f.nd k)) 0 0}:=by unfold FL.rel;rw [if_neg (by omega),if_neg (by omega),if_neg (by omega),if_neg (by omega),if_pos pk]
 rw [e1,e2,fin_no]
 have hcO:=cO_set (m:=f.s.n*f.ea) (i:=i) (by omega) ff
 rw [f0,h.cor.oq (i+1) (by simp)] at hcO
 generalize hI:i+1=i at*
 refine ⟨some k,a::r',3,h.stpM hk (.inl ⟨rfl,sk.symm⟩) rfl (by show (doS _ _ _ _ _ _).ws.length=_;rw [b,List.length_set]) cc dd (λj e=>⟨upd_other _ _ e,upd_other _ _ e,rfl,rfl⟩) (by simp only [upd_same];omega) (by omega) (λ_=>by simp only [upd_same];omega) (λ_ _=>by first|exact upd_same _ _ _|omega) (by simp only [upd_same];refine ⟨by omega,?_,?_⟩<;>intros<;>first|trivial|omega) (by simp only [upd_same];omega) (h.ots k) (λhy hro=> ?_) (.same rfl (by decide) (by decide) ?_) (.inl (by simp only [upd_same];rw [sk,pk];simp [phs]<;>omega)) (λw=>absurd w (by decide)) (λ_=> .inl (by decide)) (λhL hy=> ?_)⟩
 ·show Cor _ _ _ _ (wT (doS _ _ _ _ _ _)) (wS (doS _ _ _ _ _ _)) (wN (doS _ _ _ _ _ _)) (wO (doS _ _ _ _ _ _)) (some k) (a::r')
  rw [wt,ws,wn]
  exact h.cor.s_over hk hr (hS5 rfl) (ro_un (p:=1) hy (upd_same _ _ _) (by omega) ((upd_same _ _ _).trans ha) ha) hro f0 ff
 ·unfold wqF
  show wqL _ (wS (doS _ _ _ _ _ _)) r'=wqL _ _ (a::r')
  rw [ws,wq_not (hS5 rfl)]
 ·exact absurd (hS5 rfl) (hL.up a (by simp))
theorem stp36 (h:OrdJ f g Q) (h1:L.a1=0) (h2:L.a2=1) {k:Nat} (x:Int) (hk:k<f.s.n) (sk:f.s.st k=3) (pk:f.pc k=6):∃ g' Q' y,Stp f (f.step L k k x) g Q k x (f.did L k k x) g' Q' y:=by
 obtain ⟨ed,es⟩:=at_three (L:=L) (x:=x) hk sk
 rw [ed,es]
 have hac:k<f.ps.ac.length:=by rw [h.ac];exact hk
 have hlen:=h.len
 obtain ⟨⟨t0,t1⟩,t2,t3⟩:=h.trg k hk
 have t3:=t3 (by rw [sk];decide)
 obtain ⟨i,hi⟩:=Int.eq_ofNat_of_zero_le (h.nds k)
 obtain ⟨a,ha⟩:=Int.eq_ofNat_of_zero_le (h.ots k)
 have hr:=ro_det sk pk hi
 have hir:=(h.cor.de k hk i hr).1
 obtain ⟨i,rfl⟩:∃ j,i=j+1:=⟨i-1,by omega⟩
 obtain ⟨b,cc,dd⟩:=do_store (v:=0) hac ((congrArg L.oA hi).trans (oAt h2 i)) (show 3*i+3<f.ps.ws.length by omega)
 obtain ⟨wt,ws,wn,⟨f0,ff⟩⟩:=ws_O (by omega) b
 have e2:f.relD k=⟨3,false,false,false⟩:=by unfold FL.relD;rw [if_neg (by omega)]
 have e1:f.rel L k k={f with pc:=upd f.pc k 1,tr:=upd f.tr k 0,ps:=doS f.ps k 2 (L.oA (f.nd k)) 0 0}:=by unfold FL.rel;rw [if_neg (by omega),if_neg (by omega),if_neg (by omega),if_neg (by omega),if_neg (by omega)]
 rw [e1,e2,fin_some hk (by rw [sk];rfl:behindI (f.s.st k) 3=some 0)]
 have hcO:=cO_set (m:=f.s.n*f.ea) (i:=i) (by omega) ff
 rw [f0,(h.cor.de k hk _ hr).2.2] at hcO
 generalize hI:i+1=i at*
 refine ⟨g,Q,0,h.stpM hk (.inr rfl) rfl (by show (doS _ _ _ _ _ _).ws.length=_;rw [b,List.length_set]) cc dd (λj e=>⟨upd_other _ _ e,rfl,rfl,upd_other _ _ e⟩) (by simp only [upd_same];omega) (by omega) (λ_=>by simp only [upd_same];omega) (λ_ _=>by first|exact upd_same _ _ _|omega) (by simp only [upd_same];refine ⟨by omega,?_,?_⟩<;>intros<;>first|trivial|omega) (h.nds k) (h.ots k) (λhy hro=> ?_) (.same rfl (by decide) (by decide) ?_) (.inl (by simp only [upd_same];rw [sk,pk];simp [phs]<;>omega)) (λw=>absurd w (by decide)) (λ_=> .inl (by decide)) (λhL hy=> ?_)⟩
 ·show Cor _ _ _ _ (wT (doS _ _ _ _ _ _)) (wS (doS _ _ _ _ _ _)) (wN (doS _ _ _ _ _ _)) (wO (doS _ _ _ _ _ _)) g Q
  rw [wt,ws,wn]
  exact h.cor.s_off hk hr (ro_idle hy) hro f0 ff
 ·unfold wqF;show wqL _ (wS (doS _ _ _ _ _ _)) _=_;rw [ws]
 ·have hrk:FL.ro {f with pc:=upd f.pc k 1,tr:=upd f.tr k 0,ps:=doS f.ps k 2 (L.oA (f.nd k)) 0 0,s:=f.s.set k 0 0} k= .idle:=ro_idle hy
  refine ⟨λj hj=>by show wS (doS _ _ _ _ _ _) j≠2;rw [ws];exact hL.up j hj,λi p b w=> ?_,λi w=> ?_,λw=>absurd w (by decide),by decide,by decide⟩
  ·rw [hrk] at w;cases w
  ·rw [hrk] at w;cases w
theorem stp (h:OrdJ f g Q) (h1:L.a1=0) (h2:L.a2=1) {k:Nat} (x:Int) (hk:k<f.s.n):∃ g' Q' y,Stp f (f.step L k k x) g Q k x (f.did L k k x) g' Q' y:=by
 have hp:=h.prg k
 have hst:=h.sts k hk
 by_cases s1:f.s.st k=1
 ·have:f.pc k=1∨f.pc k=2∨f.pc k=3∨f.pc k=4∨f.pc k=5∨f.pc k=6∨f.pc k=7∨f.pc k=8:=by omega
  rcases this with p|p|p|p|p|p|p|p
  ·exact h.stp11 h1 h2 x hk s1 p
  ·exact h.stp12 h1 h2 x hk s1 p
  ·exact h.stp13 h1 h2 x hk s1 p
  ·exact h.stp14 h1 h2 x hk s1 p
  ·exact h.stp15 h1 h2 x hk s1 p
  ·exact h.stp16 h1 h2 x hk s1 p
  ·exact h.stp17 h1 h2 x hk s1 p
  ·exact h.stp18 h1 h2 x hk s1 p
 by_cases s3:f.s.st k=3
 ·have:=h.pc3 k hk s3
  have:f.pc k=1∨f.pc k=2∨f.pc k=3∨f.pc k=4∨f.pc k=5∨f.pc k=6:=by omega
  rcases this with p|p|p|p|p|p
  ·exact h.stp31 h1 h2 x hk s3 p
  ·exact h.stp32 h1 h2 x hk s3 p
  ·exact h.stp33 h1 h2 x hk s3 p
  ·exact h.stp34 h1 h2 x hk s3 p
  ·exact h.stp35 h1 h2 x hk s3 p
  ·exact h.stp36 h1 h2 x hk s3 p
 obtain ⟨d1,d2⟩:=at_idle (L:=L) (x:=x) hk s1 s3
 rw [d1,d2]
 exact ⟨g,Q,f.s.st k,h,.same rfl (by decide) (by decide) rfl,upd_self _ _,rfl,rfl,λ_ _=>⟨rfl,rfl,rfl,rfl⟩,Nat.le_succ _,.inr ⟨by unfold Halt;omega,rfl,rfl,rfl,rfl,rfl,rfl⟩,λw=>absurd w (by decide),λ_=>by omega,λhL=>⟨hL,by decide,by decide⟩⟩
theorem step (h:OrdJ f g Q) (h1:L.a1=0) (h2:L.a2=1) (t x:Int):
  ∃ g' Q',OrdJ (f.step L t t x) g' Q'∧(f.step L t t x).ps.D.length≤f.ps.D.length+1∧StepQ (wqF f g Q) t (f.did L t t x) (wqF (f.step L t t x) g' Q'):=by
 by_cases ht:0≤t∧t<f.s.n
 ·obtain ⟨k,rfl⟩:=Int.eq_ofNat_of_zero_le ht.1
  obtain ⟨g',Q',y,hs⟩:=h.stp h1 h2 x (show k<f.s.n by omega)
  exact ⟨g',Q',hs.ord,hs.D,hs.q⟩
 ·obtain ⟨d1,d2⟩:=at_none (L:=L) (x:=x) ht
  rw [d1,d2]
  exact ⟨g,Q,h,Nat.le_succ _,.same rfl (by decide) (by decide) rfl⟩
end OrdJ
def OrdI (f:FL) (W:List Nat):Prop:=∃ g Q,OrdJ f g Q∧W=wqF f g Q
namespace OrdI
variable {f:FL} {W:List Nat} {L:Lp}
theorem lock (h:OrdI f W) (t d:Int):OrdI (f.lock t d) W:=by obtain ⟨g,Q,h,e⟩:=h;exact ⟨g,Q,h.lock t d,e⟩
theorem unlock (h:OrdI f W) (t:Int):OrdI (f.turn t 3) W:=by obtain ⟨g,Q,h,e⟩:=h;exact ⟨g,Q,h.turn t,e⟩
theorem step (h:OrdI f W) (h1:L.a1=0) (h2:L.a2=1) (t x:Int):∃ W',OrdI (f.step L t t x) W'∧(f.step L t t x).ps.D.length≤f.ps.D.length+1∧OrdJ.StepQ W t (f.did L t t x) W':=by
 obtain ⟨g,Q,h,rfl⟩:=h
 obtain ⟨g',Q',a,b,c⟩:=h.step h1 h2 t x
 exact ⟨_,⟨g',Q',a,rfl⟩,b,c⟩
theorem one (h:OrdI f W) {j k:Nat} (hj:j<f.s.n) (hk:k<f.s.n) (ej:f.s.st j=2) (ek:f.s.st k=2):j=k:=by
 obtain ⟨g,Q,h,_⟩:=h
 obtain ⟨i1,e1⟩:=Int.eq_ofNat_of_zero_le (h.nds j)
 obtain ⟨i2,e2⟩:=Int.eq_ofNat_of_zero_le (h.nds k)
 obtain ⟨a1,f1⟩:=Int.eq_ofNat_of_zero_le (h.ots j)
 obtain ⟨a2,f2⟩:=Int.eq_ofNat_of_zero_le (h.ots k)
 have w1:=h.cor.ho j hj _ _ _ (ro_has ej e1 f1)
 have w2:=h.cor.ho k hk _ _ _ (ro_has ek e2 f2)
 rw [w1] at w2
 simpa using w2
end OrdI
end Go.Proofs.YtmnephejhkfchaaGreat.Ka
