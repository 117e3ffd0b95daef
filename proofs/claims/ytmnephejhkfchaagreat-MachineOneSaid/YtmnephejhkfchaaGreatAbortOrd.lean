import Derived.Test.YtmnephejhkfchaaGreatAbortCor
namespace Go.Proofs.YtmnephejhkfchaaGreat.Ka
set_option linter.unusedVariables false
set_option maxRecDepth 100000
theorem BL {ps:AK} {k i:Nat} {a:Int} (hk:k<ps.ac.length) (ha:a=((i:Nat):Int)) (hi:i<ps.ws.length):
  A6 ps k 1 a=ps.ws.getD i 0/\(A5 ps k 1 a 0 0).ws=ps.ws/\(A5 ps k 1 a 0 0).ac.length=ps.ac.length/\(A5 ps k 1 a 0 0).D.length=ps.D.length+1:=by
 subst ha;exact zzq
theorem BQ {ps:AK} {k i:Nat} {a v:Int} (hk:k<ps.ac.length) (ha:a=((i:Nat):Int)) (hi:i<ps.ws.length):
  (A5 ps k 2 a 0 v).ws=ps.ws.set i v/\(A5 ps k 2 a 0 v).ac.length=ps.ac.length/\(A5 ps k 2 a 0 v).D.length=ps.D.length+1:=by
 subst ha;exact zz10
theorem El {ps:AK} {k i:Nat} {a v:Int} (hk:k<ps.ac.length) (ha:a=((i:Nat):Int)) (hi:i<ps.ws.length):
  A6 ps k 3 a=ps.ws.getD i 0/\(A5 ps k 3 a 0 v).ws=ps.ws.set i v/\(A5 ps k 3 a 0 v).ac.length=ps.ac.length/\(A5 ps k 3 a 0 v).D.length=ps.D.length+1:=zz1l
theorem Fi {ps:AK} {k i:Nat} {a old v:Int} (hk:k<ps.ac.length) (ha:a=((i:Nat):Int)) (hi:i<ps.ws.length):
  (casT ps k a old=true↔ps.ws.getD i 0=old)/\(A5 ps k 4 a old v).ws=(if ps.ws.getD i 0=old then ps.ws.set i v else ps.ws)/\(A5 ps k 4 a old v).ac.length=ps.ac.length/\(A5 ps k 4 a old v).D.length=ps.D.length+1:=zzl
theorem BU {s:SS} {k:Nat} {ev:Int} (h:AH (s.st k) ev=none):s.fin k ev=s:=zz1c
theorem Aw {s:SS} {k:Nat} {ev y:Int} (hk:k<s.n) (h:AH (s.st k) ev=some y):s.fin k ev=s.set k y 0:=zz19
theorem Aq (s:SS) (t:Nat):s.fin t Dd.no.ev=s:=BU (by
 unfold AH;rw [Qq (λq=>absurd q.2 (by decide)),Qq (λq=>q.2.elim (λq=>absurd q (by decide)) λq=>absurd q (by decide)),Qq (λq=>absurd q.2 (by decide)),Qq (λq=>q.2.elim (λq=>absurd q (by decide)) λq=>absurd q (by decide))])
def wT (ps:AK):Int:=ps.ws.getD 0 0
def wS (ps:AK):Nat->Int
 |0=>0
 |i+1=>ps.ws.getD (3*i+1) 0
def wN (ps:AK):Nat->Int
 |0=>0
 |i+1=>ps.ws.getD (3*i+2) 0
def wO (ps:AK):Nat->Int
 |0=>0
 |i+1=>ps.ws.getD (3*i+3) 0
theorem BI {l:List Int} {i:Nat} (v:Int) (h:i<l.length):(l.set i v).getD i 0=v:=by simp [h]
theorem AG {l:List Int} {i j:Nat} (v:Int) (h:i≠j):(l.set i v).getD j 0=l.getD j 0:=zz44
theorem Bq {ps ps':AK} (h:ps'.ws=ps.ws):wT ps'=wT ps/\wS ps'=wS ps/\wN ps'=wN ps/\wO ps'=wO ps:=by
 refine ⟨by unfold wT;rw [h],funext λi=> ?_,funext λi=> ?_,funext λi=> ?_⟩<;>cases i<;>simp [wS,wN,wO,h]
theorem Hg {ps ps':AK} {v:Int} (hl:0<ps.ws.length) (h:ps'.ws=ps.ws.set 0 v):wT ps'=v/\wS ps'=wS ps/\wN ps'=wN ps/\wO ps'=wO ps:=by
 refine ⟨by unfold wT;rw [h];exact BI v hl,funext λi=> ?_,funext λi=> ?_,funext λi=> ?_⟩
 ·exact zz1w
 ·exact zz1w
 ·exact zz1w
theorem Yp {ps ps':AK} {v:Int} {i:Nat} (hl:3*i+1<ps.ws.length) (h:ps'.ws=ps.ws.set (3*i+1) v):wT ps'=wT ps/\(wS ps' (i+1)=v/\∀ j,j≠i+1->wS ps' j=wS ps j)/\wN ps'=wN ps/\wO ps'=wO ps:=by
 refine ⟨by unfold wT;rw [h];exact AG _ (by omega),⟨?_,λj hj=> ?_⟩,funext λj=> ?_,funext λj=> ?_⟩
 ·show ps'.ws.getD (3*i+1) 0=v
  rw [h];exact BI v hl
 ·exact zzp
 ·exact zzp
 ·exact zzp
theorem db {ps ps':AK} {v:Int} {i:Nat} (hl:3*i+2<ps.ws.length) (h:ps'.ws=ps.ws.set (3*i+2) v):wT ps'=wT ps/\wS ps'=wS ps/\(wN ps' (i+1)=v/\∀ j,j≠i+1->wN ps' j=wN ps j)/\wO ps'=wO ps:=by
 refine ⟨by unfold wT;rw [h];exact AG _ (by omega),funext λj=> ?_,⟨?_,λj hj=> ?_⟩,funext λj=> ?_⟩
 ·exact zzp
 ·show ps'.ws.getD (3*i+2) 0=v
  rw [h];exact BI v hl
 ·exact zzp
 ·exact zzp
theorem Yo {ps ps':AK} {v:Int} {i:Nat} (hl:3*i+3<ps.ws.length) (h:ps'.ws=ps.ws.set (3*i+3) v):wT ps'=wT ps/\wS ps'=wS ps/\wN ps'=wN ps/\(wO ps' (i+1)=v/\∀ j,j≠i+1->wO ps' j=wO ps j):=by
 refine ⟨by unfold wT;rw [h];exact AG _ (by omega),funext λj=> ?_,funext λj=> ?_,⟨?_,λj hj=> ?_⟩⟩
 ·exact zzp
 ·exact zzp
 ·show ps'.ws.getD (3*i+3) 0=v
  rw [h];exact BI v hl
 ·exact zzp
def FL.ro (f:FL) (t:Nat):Ro:=
 if f.s.st t=1 then (if f.pc t=1 then .look else if f.pc t<=5 then .fresh (f.nd t).toNat (f.pc t).toNat else .wait (f.nd t).toNat (f.pc t).toNat (f.A9 t).toNat)
 else if f.s.st t=2 then .hold (f.nd t).toNat 0 (f.A9 t).toNat
 else if f.s.st t=3 then (if f.pc t=6 then .RR (f.nd t).toNat else .hold (f.nd t).toNat (f.pc t).toNat (f.A9 t).toNat)
 else .idle
section
variable {f:FL} {t i:Nat}
theorem Lf (h:f.s.st t=1) (p:f.pc t=1):f.ro t= .look:=by unfold FL.ro;rw [Qj h,Qj p]
theorem CQ {p:Nat} (h:f.s.st t=1) (e:f.pc t=(p:Int)) (h2:2<=p) (h5:p<=5) (hn:f.nd t=(i:Int)):f.ro t= .fresh i p:=by
 unfold FL.ro;rw [Qj h,Qq (by omega),Qj (by omega),e,hn];rfl
theorem E5 {p a:Nat} (h:f.s.st t=1) (e:f.pc t=(p:Int)) (h6:6<=p) (hn:f.nd t=(i:Int)) (ho:f.A9 t=(a:Int)):f.ro t= .wait i p a:=by
 unfold FL.ro;rw [Qj h,Qq (by omega),Qq (by omega),e,hn,ho];rfl
theorem FQ {a:Nat} (h:f.s.st t=2) (hn:f.nd t=(i:Int)) (ho:f.A9 t=(a:Int)):f.ro t= .hold i 0 a:=by
 unfold FL.ro;rw [Qq (by omega),Qj h,hn,ho];rfl
theorem Dj {p a:Nat} (h:f.s.st t=3) (e:f.pc t=(p:Int)) (h5:p≠6) (hn:f.nd t=(i:Int)) (ho:f.A9 t=(a:Int)):f.ro t= .hold i p a:=by
 unfold FL.ro;rw [Qq (by omega),Qq (by omega),Qj h,Qq (by omega),e,hn,ho];rfl
theorem JZ (h:f.s.st t=3) (e:f.pc t=6) (hn:f.nd t=(i:Int)):f.ro t= .RR i:=by
 unfold FL.ro;rw [Qq (by omega),Qq (by omega),Qj h,Qj e,hn];rfl
theorem G6 (h:f.s.st t=0):f.ro t= .idle:=by unfold FL.ro;rw [Qq (by omega),Qq (by omega),Qq (by omega)]
end
def I1 (ea i:Nat):Nat:=(i-1)/ea
structure OrdJ (f:FL) (g:Option Nat) (Q:List Nat):Prop where
 n8:f.s.n<=8
 e8:1<=f.ea/\f.ea<=8
 np:f.s.Af=false
 len:f.ps.ws.length=3*(f.s.n*f.ea)+1
 ac:f.ps.ac.length=f.s.n
 Ae:Cor f.s.n (f.s.n*f.ea) (I1 f.ea) f.ro (wT f.ps) (wS f.ps) (wN f.ps) (wO f.ps) g Q
 Ev:∀ t,1<=f.pc t/\f.pc t<=8
 dR:∀ t,t<f.s.n->0<=f.s.st t/\f.s.st t<=3
 KG:∀ t,t<f.s.n->f.s.st t=3->f.pc t<=6
 Iu:∀ t,t<f.s.n->f.s.st t≠1->f.s.st t≠3->f.pc t=1
 M0:∀ t,t<f.s.n->(0<=f.tr t/\f.tr t<=f.ea)/\(f.s.st t=1->f.pc t=1->f.tr t<f.ea)/\(f.s.st t≠1->f.tr t=0)
 Di:∀ t,0<=f.nd t
 FX:∀ t,0<=f.A9 t
def GD (f:FL) (g:Option Nat) (Q:List Nat):List Nat:=Fw (I1 f.ea) (wS f.ps) (rest g Q)
def Ju (w:Nat->Nat):Nat->Nat
 |0=>0
 |n+1=>Ju w n+w n
theorem RJ {w w':Nat->Nat} {n:Nat} (h:∀ k,k<n->w' k=w k):Ju w' n=Ju w n:=by
 induction n with
 |zero=>rfl
 |succ n ih=>show Ju w' n+w' n=Ju w n+w n;rw [ih λk hk=>h k (by omega),h n (by omega)]
theorem U4 {w w':Nat->Nat} {n k:Nat} (hk:k<n) (h:∀ j,j≠k->w' j=w j):Ju w' n+w k=Ju w n+w' k:=by
 induction n with
 |zero=>omega
 |succ n ih=>
  show Ju w' n+w' n+w k=Ju w n+w n+w' k;by_cases e:k=n
  ·subst e
   rw [RJ λj hj=>h j (by omega)];omega
  ·have:=ih (by omega)
   have:=h n (λx=>e x.symm);omega
def cO (ps:AK) (m:Nat):Nat:=Ju (λi=>(wO ps (i+1)).toNat) m
theorem Bn {ps ps':AK} (h:wO ps'=wO ps) (m:Nat):cO ps' m=cO ps m:=by unfold cO;rw [h]
theorem NJ {ps ps':AK} {i m:Nat} (hi:i<m) (h:∀ j,j≠i+1->wO ps' j=wO ps j):cO ps' m+(wO ps (i+1)).toNat=cO ps m+(wO ps' (i+1)).toNat:=by
 unfold cO;exact U4 (w:=λi=>(wO ps (i+1)).toNat) (w':=λi=>(wO ps' (i+1)).toNat) (k:=i) hi λj hj=>by show (wO ps' (j+1)).toNat=(wO ps (j+1)).toNat;rw [h (j+1) (by omega)]
def EA (ea:Nat) (x p tr:Int):Nat:=
 if x=1 then (if p=1 then (21+ea-tr).toNat else if p=2 then 20 else (16-p).toNat)
 else if x=2 then 7
 else if x=3 then (if p=6 then 1 else (7-p).toNat) else 0
inductive OrdJ.BC (W:List Nat) (t:Int) (d:Dd) (W':List Nat):Prop where
 |same (h0:d.BW=false) (h1:d.ev≠1) (h2:d.ev≠2) (e:W'=W):BC W t d W'
 |BW (hd:d=⟨0,true,false,false⟩) (k:Nat) (ht:t=k) (e:W'=W++[k]):BC W t d W'
 |Bs (hd:d=⟨1,false,false,false⟩) (k:Nat) (ht:t=k) (e:W=k::W') (hn:k∉W'):BC W t d W'
 |both (hd:d=⟨1,true,false,false⟩) (k:Nat) (ht:t=k) (e:W=[]) (e':W'=[]):BC W t d W'
 |gone (hd:d=⟨2,false,false,false⟩) (k:Nat) (ht:t=k) (e:W'=W.filter λt=>decide (t≠k)):BC W t d W'
def Halt (f:FL) (x:Int) (k:Nat):Prop:=f.s.st k=0\/f.s.st k=2\/(f.s.st k=1/\f.pc k=7/\wS f.ps (f.nd k).toNat=0/\¬ f.due k x)\/(f.s.st k=3/\f.pc k=3/\wN f.ps (f.nd k).toNat=0)
structure Loc (f:FL) (Q:List Nat):Prop where
 up:∀ j∈Q,wS f.ps j≠2
 ho:∀ t,t<f.s.n->∀ i p b,f.ro t= .hold i p b->I1 f.ea i=t
 de:∀ t,t<f.s.n->∀ i,f.ro t= .RR i->I1 f.ea i=t
 dl:∀ t,t<f.s.n->f.s.st t=1->f.s.dl t<0
 tr:∀ t,t<f.s.n->f.s.st t=1->f.pc t=1->f.tr t=0
 p8:∀ t,t<f.s.n->f.s.st t=1->f.pc t≠8
structure Fc (f f':FL) (g:Option Nat) (Q:List Nat) (k:Nat) (x:Int) (d:Dd) (g':Option Nat) (Q':List Nat) (y:Int):Prop where
 ord:OrdJ f' g' Q'
 q:OrdJ.BC (GD f g Q) k d (GD f' g' Q')
 st:∀ j,f'.s.st j=upd f.s.st k y j
 n:f'.s.n=f.s.n
 ea:f'.ea=f.ea
 A9:∀ j,j≠k->f'.pc j=f.pc j/\f'.nd j=f.nd j/\f'.tr j=f.tr j/\f'.s.dl j=f.s.dl j
 D:f'.ps.D.length<=f.ps.D.length+1
 on:EA f.ea y (f'.pc k) (f'.tr k)+6*cO f'.ps (f.s.n*f.ea)+1<=EA f.ea (f.s.st k) (f.pc k) (f.tr k)+6*cO f.ps (f.s.n*f.ea)\/(Halt f x k/\Q'=Q/\f'.s=f.s/\f'.pc k=f.pc k/\f'.nd k=f.nd k/\f'.tr k=f.tr k/\f'.ps.ws=f.ps.ws)
 ev:d.ev=1->f.s.st k=1/\y=2/\∃ b,d=⟨1,b,false,false⟩
 ZW:d.ev≠1->y≠2\/f.s.st k=2
 loc:Loc f Q->Loc f' Q'/\d.ev≠2/\d.ev≠6
namespace OrdJ
variable {f:FL} {g:Option Nat} {Q:List Nat} {L:Lp}
theorem Dc {f f':FL} {k:Nat} {y:Int} (st:∀ j,f'.s.st j=upd f.s.st k y j) (hp:∀ j,j≠k->f'.pc j=f.pc j) (hn:∀ j,j≠k->f'.nd j=f.nd j) (ho:∀ j,j≠k->f'.A9 j=f.A9 j):∀ u,u≠k->f'.ro u=f.ro u:=λu hu=>by
 unfold FL.ro;rw [st u,A0 _ _ hu,hp u hu,hn u hu,ho u hu]
theorem put (h:OrdJ f g Q) {f':FL} {g':Option Nat} {Q':List Nat} {k:Nat} {y:Int} (hk:k<f.s.n) (hn:f'.s.n=f.s.n) (hb:f'.s.Af=f.s.Af) (he:f'.ea=f.ea) (hl:f'.ps.ws.length=f.ps.ws.length) (ha:f'.ps.ac.length=f.ps.ac.length)
  (st:∀ j,f'.s.st j=upd f.s.st k y j) (hp:∀ j,j≠k->f'.pc j=f.pc j) (hnd:∀ j,j≠k->f'.nd j=f.nd j) (ho:∀ j,j≠k->f'.A9 j=f.A9 j) (ht:∀ j,j≠k->f'.tr j=f.tr j)
  (k1:1<=f'.pc k/\f'.pc k<=8) (k2:0<=y/\y<=3) (k3:y=3->f'.pc k<=6) (k4:y≠1->y≠3->f'.pc k=1) (k5:(0<=f'.tr k/\f'.tr k<=f.ea)/\(y=1->f'.pc k=1->f'.tr k<f.ea)/\(y≠1->f'.tr k=0)) (k6:0<=f'.nd k) (k7:0<=f'.A9 k)
  (hc:Cor f.s.n (f.s.n*f.ea) (I1 f.ea) f'.ro (wT f'.ps) (wS f'.ps) (wN f'.ps) (wO f'.ps) g' Q'):OrdJ f' g' Q':=by
 refine ⟨by rw [hn];exact h.n8,by rw [he];exact h.e8,by rw [hb];exact h.np,by rw [hl,hn,he];exact h.len,by rw [ha,hn];exact h.ac,by rw [hn,he];exact hc,λt=> ?_,λt ht'=> ?_,λt ht' hs=> ?_,λt ht' h1 h3=> ?_,λt ht'=> ?_,λt=> ?_,λt=> ?_⟩
 ·by_cases q:t=k
  ·subst q;exact k1
  ·rw [hp t q];exact h.Ev t
 ·exact zz5n
 ·rw [st t] at hs
  by_cases q:t=k
  ·subst q;rw [upd_same] at hs;exact k3 hs
  ·rw [A0 _ _ q] at hs;rw [hp t q];exact h.KG t (by omega) hs
 ·rw [st t] at h1 h3
  by_cases q:t=k
  ·subst q;rw [upd_same] at h1 h3;exact k4 h1 h3
  ·rw [A0 _ _ q] at h1 h3;rw [hp t q];exact h.Iu t (by omega) h1 h3
 ·rw [st t,he]
  by_cases q:t=k
  ·subst q;rw [upd_same];exact k5
  ·rw [A0 _ _ q,hp t q,ht t q];exact h.M0 t (by omega)
 ·by_cases q:t=k
  ·subst q;exact k6
  ·rw [hnd t q];exact h.Di t
 ·by_cases q:t=k
  ·subst q;exact k7
  ·rw [ho t q];exact h.FX t
theorem lock (h:OrdJ f g Q) (t d:Int):OrdJ (f.lock t d) g Q:=by
 unfold FL.lock SS.lock;split
 ·rename_i he
  unfold BZ at he;split at he
  ·rename_i hc
   split at he
   ·rename_i hs
    have hk:t.toNat<f.s.n:=by omega
    refine h.put (k:=t.toNat) (y:=1) hk rfl rfl rfl rfl rfl (λ_=>rfl) (λ_ _=>rfl) (λ_ _=>rfl) (λ_ _=>rfl) (λ_ _=>rfl) (h.Ev _) (by omega) (by omega) (λq=>absurd rfl q) ?_ (h.Di _) (h.FX _) ?_
    ·have:=(h.M0 _ hk).2.2 (by rw [hs];decide)
     have:=h.e8;exact ⟨by show 0<=f.tr _/\f.tr _<=_;omega,λ_ _=>by show f.tr _<_;omega,λq=>absurd rfl q⟩
    ·exact h.Ae.Li hk (.inl (G6 hs)) (.inr (Lf (upd_same _ _ _) (h.Iu _ hk (by omega) (by omega)))) (Dc (y:=1) (λ_=>rfl) (λ_ _=>rfl) (λ_ _=>rfl) (λ_ _=>rfl))
   ·omega
  ·omega
 ·exact h
theorem turn (h:OrdJ f g Q) (t:Int):OrdJ (f.turn t 3) g Q:=by
 unfold FL.turn SS.turn;split
 ·rename_i he
  unfold BR at he;split at he
  ·rename_i hc
   split at he
   ·omega
   ·split at he
    ·rename_i hs
     have hk:t.toNat<f.s.n:=by omega
     obtain ⟨i,hi⟩:=Qx (h.Di t.toNat);obtain ⟨a,ha⟩:=Qx (h.FX t.toNat);have p1:=h.Iu _ hk (by omega) (by omega);refine h.put (k:=t.toNat) (y:=3) hk rfl rfl rfl rfl rfl (λ_=>rfl) (λ_ _=>rfl) (λ_ _=>rfl) (λ_ _=>rfl) (λ_ _=>rfl) (h.Ev _) (by omega) (λ_=>by show f.pc _<=6;omega) (λ_ q=>absurd rfl q) ?_ (h.Di _) (h.FX _) ?_
     ·have:=(h.M0 _ hk).2.2 (by rw [hs];decide)
      exact ⟨(h.M0 _ hk).1,λq=>absurd q (by decide),λ_=>this⟩
     ·have hr:=FQ hs hi ha
      have hg:=h.Ae.ho _ hk _ _ _ hr;have hc:=h.Ae;rw [hg] at hc ⊢;exact hc.O6 hk hr (Dj (p:=1) (upd_same _ _ _) p1 (by omega) hi ha) (Dc (y:=3) (λ_=>rfl) (λ_ _=>rfl) (λ_ _=>rfl) (λ_ _=>rfl)) (by omega) (λq=>by omega) (λq=>by omega)
    ·omega
  ·omega
 ·exact h
theorem D6 {t x:Int} (hk:¬ ((0:Int)<=t/\t<f.s.n)):f.did L t t x=Dd.no/\f.step L t t x=f:=by
 have e:f.did L t t x=Dd.no:=by unfold FL.did;rw [Qq hk]
 have em:f.mid L t t x=f:=by unfold FL.mid;rw [Qq hk]
 refine ⟨e,?_⟩;have e0:f.s.fin t Dd.no.ev=f.s:=zz81;unfold FL.step;rw [e,em,e0]
theorem D5 {k:Nat} {x:Int} (hk:k<f.s.n) (s1:f.s.st k≠1) (s3:f.s.st k≠3):f.did L k k x=Dd.no/\f.step L k k x=f:=by
 have ht:(0:Int)<=(k:Int)/\(k:Int)<f.s.n:=by omega
 have e:f.did L k k x=Dd.no:=by unfold FL.did;rw [Qj ht,Int.toNat_natCast,Qq s1,Qq s3]
 have em:f.mid L k k x=f:=by unfold FL.mid;rw [Qj ht,Int.toNat_natCast,Qq s1,Qq s3]
 refine ⟨e,?_⟩;unfold FL.step;rw [e,em,Aq]
theorem at_one {k:Nat} {x:Int} (hk:k<f.s.n) (s1:f.s.st k=1):f.did L k k x=f.A7 L k k x/\f.step L k k x={f.acq L k k x with s:=f.s.fin k (f.A7 L k k x).ev}:=by
 have ht:(0:Int)<=(k:Int)/\(k:Int)<f.s.n:=by omega
 have e:f.did L k k x=f.A7 L k k x:=by unfold FL.did;rw [Qj ht,Int.toNat_natCast,Qj s1]
 have em:f.mid L k k x=f.acq L k k x:=by unfold FL.mid;rw [Qj ht,Int.toNat_natCast,Qj s1]
 exact zz3m
theorem B6 {k:Nat} {x:Int} (hk:k<f.s.n) (s3:f.s.st k=3):f.did L k k x=f.AX k/\f.step L k k x={f.rel L k k with s:=f.s.fin k (f.AX k).ev}:=by
 have ht:(0:Int)<=(k:Int)/\(k:Int)<f.s.n:=by omega
 have e:f.did L k k x=f.AX k:=by unfold FL.did;rw [Qj ht,Int.toNat_natCast,Qq (by omega),Qj s3]
 have em:f.mid L k k x=f.rel L k k:=by unfold FL.mid;rw [Qj ht,Int.toNat_natCast,Qq (by omega),Qj s3]
 exact zz3m
theorem eQ (h2:L.a2=1) (i:Nat):L.sA ((i+1:Nat):Int)=((3*i+1:Nat):Int):=by unfold Lp.sA;rw [h2];omega
theorem RX (h2:L.a2=1) (i:Nat):L.nA ((i+1:Nat):Int)=((3*i+2:Nat):Int):=by unfold Lp.nA;rw [h2];omega
theorem eM (h2:L.a2=1) (i:Nat):L.oA ((i+1:Nat):Int)=((3*i+3:Nat):Int):=by unfold Lp.oA;rw [h2];omega
theorem BV {α:Type} (f:Nat->α) (k:Nat):∀ j,f j=upd f k (f k) j:=λj=>zz6n
theorem CL (h:OrdJ f g Q) {f':FL} {k:Nat} {x:Int} {d:Dd} {g':Option Nat} {Q':List Nat} {y:Int} (hk:k<f.s.n) (hs:(f'.s=f.s/\y=f.s.st k)\/f'.s=f.s.set k y 0) (he:f'.ea=f.ea) (hl:f'.ps.ws.length=f.ps.ws.length) (ha:f'.ps.ac.length=f.ps.ac.length) (hD:f'.ps.D.length=f.ps.D.length+1)
  (QL:∀ j,j≠k->f'.pc j=f.pc j/\f'.nd j=f.nd j/\f'.A9 j=f.A9 j/\f'.tr j=f.tr j)
  (k1:1<=f'.pc k/\f'.pc k<=8) (k2:0<=y/\y<=3) (k3:y=3->f'.pc k<=6) (k4:y≠1->y≠3->f'.pc k=1) (k5:(0<=f'.tr k/\f'.tr k<=f.ea)/\(y=1->f'.pc k=1->f'.tr k<f.ea)/\(y≠1->f'.tr k=0)) (k6:0<=f'.nd k) (k7:0<=f'.A9 k)
  (hc:f'.s.st k=y->(∀ u,u≠k->f'.ro u=f.ro u)->Cor f.s.n (f.s.n*f.ea) (I1 f.ea) f'.ro (wT f'.ps) (wS f'.ps) (wN f'.ps) (wO f'.ps) g' Q')
  (hq:BC (GD f g Q) k d (GD f' g' Q'))
  (on:EA f.ea y (f'.pc k) (f'.tr k)+6*cO f'.ps (f.s.n*f.ea)+1<=EA f.ea (f.s.st k) (f.pc k) (f.tr k)+6*cO f.ps (f.s.n*f.ea)\/(Halt f x k/\Q'=Q/\f'.s=f.s/\f'.pc k=f.pc k/\f'.nd k=f.nd k/\f'.tr k=f.tr k/\f'.ps.ws=f.ps.ws))
  (ev:d.ev=1->f.s.st k=1/\y=2/\∃ b,d=⟨1,b,false,false⟩) (ZW:d.ev≠1->y≠2\/f.s.st k=2)
  (loc:Loc f Q->f'.s.st k=y->(∀ j∈Q',wS f'.ps j≠2)/\(∀ i p b,f'.ro k= .hold i p b->I1 f.ea i=k)/\(∀ i,f'.ro k= .RR i->I1 f.ea i=k)/\(y=1->f'.s=f.s/\f.s.st k=1/\f'.pc k≠1/\f'.pc k≠8)/\d.ev≠2/\d.ev≠6):Fc f f' g Q k x d g' Q' y:=by
 have st:∀ j,f'.s.st j=upd f.s.st k y j:=λj=>zz6v;have hn:f'.s.n=f.s.n:=by rcases hs with ⟨e,_⟩|e<;>rw [e];rfl
 have hb:f'.s.Af=f.s.Af:=by rcases hs with ⟨e,_⟩|e<;>rw [e];rfl
 have js:∀ j,j≠k->f'.s.dl j=f.s.dl j:=λj hj=>by
  rcases hs with ⟨e,_⟩|e<;>rw [e]
  exact A0 _ _ hj
 have hro:=Dc st (λj e=>(QL j e).1) (λj e=>(QL j e).2.1) λj e=>(QL j e).2.2.1;have hk':f'.s.st k=y:=(st k).trans (upd_same _ _ _);refine ⟨h.put hk hn hb he hl ha st (λj e=>(QL j e).1) (λj e=>(QL j e).2.1) (λj e=>(QL j e).2.2.1) (λj e=>(QL j e).2.2.2) k1 k2 k3 k4 k5 k6 k7 (hc hk' hro),hq,st,hn,he,λj e=>⟨(QL j e).1,(QL j e).2.1,(QL j e).2.2.2,js j e⟩,Nat.le_of_eq hD,on,ev,ZW,λhL=> ?_⟩;obtain ⟨l1,l2,l3,l4,l5,l6⟩:=loc hL hk';refine ⟨⟨l1,λt ht i p b hr=> ?_,λt ht i hr=> ?_,λt ht h1=> ?_,λt ht h1 hp=> ?_,λt ht h1=> ?_⟩,l5,l6⟩
 ·rw [he]
  by_cases q:t=k
  ·subst q;exact l2 i p b hr
  ·exact hL.ho t (by omega) i p b (by rw [<-hro t q];exact hr)
 ·rw [he]
  by_cases q:t=k
  ·subst q;exact l3 i hr
  ·exact hL.de t (by omega) i (by rw [<-hro t q];exact hr)
 ·by_cases q:t=k
  ·subst q
   obtain ⟨q1,q2,q3,q4⟩:=l4 (by rw [<-hk'];exact h1);rw [q1];exact hL.dl t (by omega) q2
  ·rw [js t q];exact hL.dl t (by omega) (by rw [st t,A0 _ _ q] at h1;exact h1)
 ·by_cases q:t=k
  ·subst q
   obtain ⟨q1,q2,q3,q4⟩:=l4 (by rw [<-hk'];exact h1);exact absurd hp q3
  ·rw [(QL t q).2.2.2]
   exact hL.tr t (by omega) (by rw [st t,A0 _ _ q] at h1;exact h1) (by rw [<-(QL t q).1];exact hp)
 ·by_cases q:t=k
  ·subst q
   obtain ⟨q1,q2,q3,q4⟩:=l4 (by rw [<-hk'];exact h1);exact q4
  ·rw [(QL t q).1]
   exact hL.p8 t (by omega) (by rw [st t,A0 _ _ q] at h1;exact h1)
theorem TU (h:OrdJ f g Q) (hL:Loc f Q) {k i:Nat} (hk:k<f.s.n) (hr:f.ro k= .look) (h1:1<=i) (h2:i<=f.s.n*f.ea) (ho:I1 f.ea i=k):wO f.ps i=0:=by
 rcases h.Ae.ob i h1 h2 with q|⟨_,q|⟨u,hu,p,_,q⟩|⟨u,hu,q⟩⟩
 ·exact q
 ·exfalso
  have key:i∈rest g Q->False:=λhm=>by
   obtain ⟨p,a,e⟩:=h.Ae.waits (j:=i) hm (hL.up i q);rw [ho,hr] at e;cases e
  cases hg:g with
  |none=>exact key (by rw [hg];exact q)
  |some t=>
   obtain ⟨ht,i0,r,p,b,hQ,hrt,_⟩:=h.Ae.gs t hg;rw [hQ] at q;rcases List.mem_cons.1 q with q|q
   ·subst q
    have:=hL.ho t ht _ _ _ hrt;have e:t=k:=by omega
    subst e;rw [hr] at hrt;cases hrt
   ·exact key (by rw [hg,hQ];exact q)
 ·exfalso
  have:=(h.Ae.fr u hu i p q).1;have e:u=k:=by omega
  subst e;rw [hr] at q;cases q
 ·exfalso
  have:=hL.de u hu i q;have e:u=k:=by omega
  subst e;rw [hr] at q;cases q
theorem R4 {i:Nat} (h:Q≠[]):rest g (Q++[i])=rest g Q++[i]:=by
 cases g with
 |none=>rfl
 |some t=>
  cases Q with
  |nil=>exact absurd rfl h
  |cons a r=>rfl
theorem JY {j:Nat} (h:j∈rest g Q):j∈Q:=zz73
theorem F4 {n m:Nat} {own:Nat->Nat} {ro Be:Nat->Ro} {T:Int} {S N O:Nat->Int} (h:Cor n m own ro T S N O g Q) (e:∀ u,Be u=ro u):Cor n m own Be T S N O g Q:=by
 rw [show Be=ro from funext e];exact h
theorem Tw (h:OrdJ f g Q) (h1:L.a1=0) (h2:L.a2=1) {k:Nat} (x:Int) (hk:k<f.s.n) (s1:f.s.st k=1) (p1:f.pc k=1):∃ g' Q' y,Fc f (f.step L k k x) g Q k x (f.did L k k x) g' Q' y:=by
 obtain ⟨ed,es⟩:=at_one (L:=L) (x:=x) hk s1;rw [ed,es];have CY:k<f.ps.ac.length:=by rw [h.ac];exact hk
 obtain ⟨⟨t0,t1⟩,t2,_⟩:=h.M0 k hk;have t2:=t2 s1 p1;obtain ⟨c,hc⟩:=Qx t0;have hm:k*f.ea+c+1<=f.s.n*f.ea:=by
  have:(k+1)*f.ea<=f.s.n*f.ea:=Nat.mul_le_mul_right _ hk;rw [Nat.add_mul] at this;omega
 have hid:f.id k=((k*f.ea+c+1:Nat):Int):=by unfold FL.id;rw [hc];simp
 have how:I1 f.ea (k*f.ea+c+1)=k:=by
  unfold I1;rw [Nat.add_sub_cancel,Nat.add_comm,Nat.add_mul_div_right _ _ (by omega),Nat.div_eq_of_lt (by omega),Nat.zero_add]
 obtain ⟨a,b,cc,dd⟩:=BL CY ((congrArg L.oA hid).trans (eM h2 (k*f.ea+c))) (show 3*(k*f.ea+c)+3<f.ps.ws.length by rw [h.len];omega);obtain ⟨wt,ws,wn,wo⟩:=Bq b;have hv:A6 f.ps k 1 (L.oA (f.id k))=wO f.ps (k*f.ea+c+1):=a;have hr:=Lf s1 p1;have RT:∀ f':FL,f'.ea=f.ea->f'.ps.ws=f.ps.ws->GD f' g Q=GD f g Q:=λf' e1 e2=>by unfold GD;rw [e1,(Bq e2).2.1]
 by_cases q:wO f.ps (k*f.ea+c+1)=0
 ·have e1:f.acq L k k x={f with pc:=upd f.pc k 2,nd:=upd f.nd k (f.id k),tr:=upd f.tr k (f.tr k+1),ps:=A5 f.ps k 1 (L.oA (f.id k)) 0 0}:=by
   unfold FL.acq;rw [Qj p1,hv,Qj q,Qq (λw=>w.1 q)]
  have e2:f.A7 L k k x=Dd.no:=by unfold FL.A7;rw [Qj p1,hv,Qq (λw=>w.1 q)]
  rw [e1,e2,Aq];refine ⟨g,Q,1,h.CL hk (.inl ⟨rfl,s1.symm⟩) rfl (by show (A5 _ _ _ _ _ _).ws.length=_;rw [b]) cc dd (λj e=>⟨A0 _ _ e,A0 _ _ e,rfl,A0 _ _ e⟩) (by simp only [upd_same];omega) (by omega) (λw=>by omega) (λw=>absurd rfl w) (by simp only [upd_same];refine ⟨by omega,?_,?_⟩<;>intros<;>first|trivial|omega) (by simp only [upd_same];omega) (h.FX k) (λhy hro=> ?_) (.same rfl (by decide) (by decide) (RT _ rfl b)) (.inl (by simp only [upd_same];rw [s1,p1,Bn wo];simp [EA]<;>omega)) (λw=>absurd w (by decide)) (λ_=> .inl (by decide)) (λhL hy=> ?_)⟩
  ·show Cor _ _ _ _ (wT (A5 _ _ _ _ _ _)) (wS (A5 _ _ _ _ _ _)) (wN (A5 _ _ _ _ _ _)) (wO (A5 _ _ _ _ _ _)) g Q
   rw [wt,ws,wn,wo];exact h.Ae.YO hk hr ⟨⟨by omega,hm⟩,how⟩ q (CQ (p:=2) hy (upd_same _ _ _) (by omega) (by omega) ((upd_same _ _ _).trans hid)) hro
  ·have CN:=CQ (f:={f with pc:=upd f.pc k 2,nd:=upd f.nd k (f.id k),tr:=upd f.tr k (f.tr k+1),ps:=A5 f.ps k 1 (L.oA (f.id k)) 0 0}) (p:=2) hy (upd_same _ _ _) (by omega) (by omega) ((upd_same _ _ _).trans hid)
   refine ⟨λj hj=>by show wS (A5 _ _ _ _ _ _) j≠2;rw [ws];exact hL.up j hj,λi p b w=> ?_,λi w=> ?_,λ_=>⟨rfl,s1,by simp only [upd_same];omega,by simp only [upd_same];omega⟩,by decide,by decide⟩
   ·exact zz36
   ·exact zz36
 ·by_cases q2:f.tr k+1=f.ea
  ·have e1:f.acq L k k x={f with pc:=upd f.pc k 1,nd:=upd f.nd k (f.id k),tr:=upd f.tr k 0,ps:=A5 f.ps k 1 (L.oA (f.id k)) 0 0}:=by
    unfold FL.acq;rw [Qj p1,hv,Qq q,Qj ⟨q,q2⟩]
   have e2:f.A7 L k k x=⟨6,false,false,false⟩:=by unfold FL.A7;rw [Qj p1,hv,Qj ⟨q,q2⟩]
   rw [e1,e2,Aw hk (by rw [s1];rfl:AH (f.s.st k) 6=some 0)];refine ⟨g,Q,0,h.CL hk (.inr rfl) rfl (by show (A5 _ _ _ _ _ _).ws.length=_;rw [b]) cc dd (λj e=>⟨A0 _ _ e,A0 _ _ e,rfl,A0 _ _ e⟩) (by simp only [upd_same];omega) (by omega) (λw=>by omega) (λ_ _=>upd_same _ _ _) (by simp only [upd_same];refine ⟨by omega,?_,?_⟩<;>intros<;>first|trivial|omega) (by simp only [upd_same];omega) (h.FX k) (λhy hro=> ?_) (.same rfl (by decide) (by decide) (RT _ rfl b)) (.inl (by simp only [upd_same];rw [s1,p1,Bn wo];simp [EA]<;>omega)) (λw=>absurd w (by decide)) (λ_=> .inl (by decide)) (λhL hy=>absurd (h.TU hL hk hr (by omega) hm how) q)⟩;show Cor _ _ _ _ (wT (A5 _ _ _ _ _ _)) (wS (A5 _ _ _ _ _ _)) (wN (A5 _ _ _ _ _ _)) (wO (A5 _ _ _ _ _ _)) g Q;rw [wt,ws,wn,wo];exact h.Ae.Li hk (.inr hr) (.inl (G6 hy)) hro
  ·have e1:f.acq L k k x={f with pc:=upd f.pc k 1,nd:=upd f.nd k (f.id k),tr:=upd f.tr k (f.tr k+1),ps:=A5 f.ps k 1 (L.oA (f.id k)) 0 0}:=by
    unfold FL.acq;rw [Qj p1,hv,Qq q,Qq (λw=>q2 w.2)]
   have e2:f.A7 L k k x=Dd.no:=by unfold FL.A7;rw [Qj p1,hv,Qq (λw=>q2 w.2)]
   rw [e1,e2,Aq];refine ⟨g,Q,1,h.CL hk (.inl ⟨rfl,s1.symm⟩) rfl (by show (A5 _ _ _ _ _ _).ws.length=_;rw [b]) cc dd (λj e=>⟨A0 _ _ e,A0 _ _ e,rfl,A0 _ _ e⟩) (by simp only [upd_same];omega) (by omega) (λw=>by omega) (λw=>absurd rfl w) (by simp only [upd_same];refine ⟨by omega,?_,?_⟩<;>intros<;>first|trivial|omega) (by simp only [upd_same];omega) (h.FX k) (λhy hro=> ?_) (.same rfl (by decide) (by decide) (RT _ rfl b)) (.inl (by simp only [upd_same];rw [s1,p1,Bn wo];simp [EA]<;>omega)) (λw=>absurd w (by decide)) (λ_=> .inl (by decide)) (λhL hy=>absurd (h.TU hL hk hr (by omega) hm how) q)⟩;show Cor _ _ _ _ (wT (A5 _ _ _ _ _ _)) (wS (A5 _ _ _ _ _ _)) (wN (A5 _ _ _ _ _ _)) (wO (A5 _ _ _ _ _ _)) g Q;rw [wt,ws,wn,wo];exact h.Ae.Li hk (.inr hr) (.inr (Lf hy (upd_same _ _ _))) hro
theorem Tx (h:OrdJ f g Q) (h1:L.a1=0) (h2:L.a2=1) {k:Nat} (x:Int) (hk:k<f.s.n) (sk:f.s.st k=1) (pk:f.pc k=2):∃ g' Q' y,Fc f (f.step L k k x) g Q k x (f.did L k k x) g' Q' y:=by
 obtain ⟨ed,es⟩:=at_one (L:=L) (x:=x) hk sk;rw [ed,es];have CY:k<f.ps.ac.length:=by rw [h.ac];exact hk
 have hlen:=h.len;obtain ⟨⟨t0,t1⟩,t2,t3⟩:=h.M0 k hk;obtain ⟨i,hi⟩:=Qx (h.Di k);obtain ⟨a,ha⟩:=Qx (h.FX k);have hr:=CQ (p:=2) sk pk (by omega) (by omega) hi;obtain ⟨o1,⟨o2,o3⟩,hq,_,_,o6,o7,_⟩:=h.Ae.fr k hk i 2 hr;obtain ⟨i,rfl⟩:∃ j,i=j+1:=⟨i-1,by omega⟩
 obtain ⟨b,cc,dd⟩:=BQ (v:=1) CY ((congrArg L.oA hi).trans (eM h2 i)) (show 3*i+3<f.ps.ws.length by omega);obtain ⟨wt,ws,wn,⟨f0,ff⟩⟩:=Yo (by omega) b;have e1:f.acq L k k x={f with pc:=upd f.pc k 3,ps:=A5 f.ps k 2 (L.oA (f.nd k)) 0 1}:=by unfold FL.acq;rw [Qq (by omega),Qj pk]
 have e2:f.A7 L k k x=Dd.no:=by unfold FL.A7;rw [Qq (by omega),Qj pk]
 rw [e1,e2,Aq];have Zu:=NJ (m:=f.s.n*f.ea) (i:=i) (by omega) ff;rw [f0,(h.Ae.fr k hk (i+1) 2 hr).2.2.2.2.1 rfl] at Zu;refine ⟨g,Q,1,h.CL hk (.inl ⟨rfl,sk.symm⟩) rfl (by show (A5 _ _ _ _ _ _).ws.length=_;rw [b,List.length_set]) cc dd (λj e=>⟨A0 _ _ e,rfl,rfl,rfl⟩) (by simp only [upd_same];omega) (by omega) (λ_=>by simp only [upd_same];omega) (λ_ _=>by first|exact upd_same _ _ _|omega) (by simp only [upd_same];refine ⟨by omega,?_,?_⟩<;>intros<;>first|trivial|omega) (h.Di k) (h.FX k) (λhy hro=> ?_) (.same rfl (by decide) (by decide) ?_) (.inl (by simp only [upd_same];rw [sk,pk];simp [EA]<;>omega)) (λw=>absurd w (by decide)) (λ_=> .inl (by decide)) (λhL hy=> ?_)⟩
 ·show Cor _ _ _ _ (wT (A5 _ _ _ _ _ _)) (wS (A5 _ _ _ _ _ _)) (wN (A5 _ _ _ _ _ _)) (wO (A5 _ _ _ _ _ _)) g Q
  rw [wt,ws,wn];exact h.Ae.cZ hk hr (CQ (p:=3) hy (upd_same _ _ _) (by omega) (by omega) hi) hro f0 ff
 ·exact zz32
 ·have CN:=CQ (f:={f with pc:=upd f.pc k 3,ps:=A5 f.ps k 2 (L.oA (f.nd k)) 0 1}) (p:=3) hy (upd_same _ _ _) (by omega) (by omega) hi
  exact zzu
theorem Ty (h:OrdJ f g Q) (h1:L.a1=0) (h2:L.a2=1) {k:Nat} (x:Int) (hk:k<f.s.n) (sk:f.s.st k=1) (pk:f.pc k=3):∃ g' Q' y,Fc f (f.step L k k x) g Q k x (f.did L k k x) g' Q' y:=by
 obtain ⟨ed,es⟩:=at_one (L:=L) (x:=x) hk sk;rw [ed,es];have CY:k<f.ps.ac.length:=by rw [h.ac];exact hk
 have hlen:=h.len;obtain ⟨⟨t0,t1⟩,t2,t3⟩:=h.M0 k hk;obtain ⟨i,hi⟩:=Qx (h.Di k);obtain ⟨a,ha⟩:=Qx (h.FX k);have hr:=CQ (p:=3) sk pk (by omega) (by omega) hi;obtain ⟨o1,⟨o2,o3⟩,hq,_,_,o6,o7,_⟩:=h.Ae.fr k hk i 3 hr;obtain ⟨i,rfl⟩:∃ j,i=j+1:=⟨i-1,by omega⟩
 obtain ⟨b,cc,dd⟩:=BQ (v:=0) CY ((congrArg L.sA hi).trans (eQ h2 i)) (show 3*i+1<f.ps.ws.length by omega);obtain ⟨wt,⟨f0,ff⟩,wn,wo⟩:=Yp (by omega) b;have e1:f.acq L k k x={f with pc:=upd f.pc k 4,ps:=A5 f.ps k 2 (L.sA (f.nd k)) 0 0}:=by unfold FL.acq;rw [Qq (by omega),Qq (by omega),Qj pk]
 have e2:f.A7 L k k x=Dd.no:=by unfold FL.A7;rw [Qq (by omega),Qq (by omega),Qj pk]
 rw [e1,e2,Aq];refine ⟨g,Q,1,h.CL hk (.inl ⟨rfl,sk.symm⟩) rfl (by show (A5 _ _ _ _ _ _).ws.length=_;rw [b,List.length_set]) cc dd (λj e=>⟨A0 _ _ e,rfl,rfl,rfl⟩) (by simp only [upd_same];omega) (by omega) (λ_=>by simp only [upd_same];omega) (λ_ _=>by first|exact upd_same _ _ _|omega) (by simp only [upd_same];refine ⟨by omega,?_,?_⟩<;>intros<;>first|trivial|omega) (h.Di k) (h.FX k) (λhy hro=> ?_) (.same rfl (by decide) (by decide) ?_) (.inl (by simp only [upd_same];rw [sk,pk,Bn wo];simp [EA]<;>omega)) (λw=>absurd w (by decide)) (λ_=> .inl (by decide)) (λhL hy=> ?_)⟩
 ·show Cor _ _ _ _ (wT (A5 _ _ _ _ _ _)) (wS (A5 _ _ _ _ _ _)) (wN (A5 _ _ _ _ _ _)) (wO (A5 _ _ _ _ _ _)) g Q
  rw [wt,wn,wo];exact h.Ae.ir hk hr (CQ (p:=4) hy (upd_same _ _ _) (by omega) (by omega) hi) hro f0 ff
 ·unfold GD
  exact PZ λj hj=>by
   have:j≠i+1:=λq=>hq (by rw [<-q];exact JY hj);show wS (A5 _ _ _ _ _ _) j=2↔_;rw [ff j this]
 ·have CN:=CQ (f:={f with pc:=upd f.pc k 4,ps:=A5 f.ps k 2 (L.sA (f.nd k)) 0 0}) (p:=4) hy (upd_same _ _ _) (by omega) (by omega) hi
  refine ⟨λj hj=>by show wS (A5 _ _ _ _ _ _) j≠2;rw [ff j (λq=>hq (by rw [<-q];exact hj))];exact hL.up j hj,λi p b w=> ?_,λi w=> ?_,λ_=>⟨rfl,sk,by simp only [upd_same];omega,by simp only [upd_same];omega⟩,by decide,by decide⟩
  ·exact zz36
  ·exact zz36
theorem Tz (h:OrdJ f g Q) (h1:L.a1=0) (h2:L.a2=1) {k:Nat} (x:Int) (hk:k<f.s.n) (sk:f.s.st k=1) (pk:f.pc k=4):∃ g' Q' y,Fc f (f.step L k k x) g Q k x (f.did L k k x) g' Q' y:=by
 obtain ⟨ed,es⟩:=at_one (L:=L) (x:=x) hk sk;rw [ed,es];have CY:k<f.ps.ac.length:=by rw [h.ac];exact hk
 have hlen:=h.len;obtain ⟨⟨t0,t1⟩,t2,t3⟩:=h.M0 k hk;obtain ⟨i,hi⟩:=Qx (h.Di k);obtain ⟨a,ha⟩:=Qx (h.FX k);have hr:=CQ (p:=4) sk pk (by omega) (by omega) hi;obtain ⟨o1,⟨o2,o3⟩,hq,_,_,o6,o7,_⟩:=h.Ae.fr k hk i 4 hr;obtain ⟨i,rfl⟩:∃ j,i=j+1:=⟨i-1,by omega⟩
 obtain ⟨b,cc,dd⟩:=BQ (v:=0) CY ((congrArg L.nA hi).trans (RX h2 i)) (show 3*i+2<f.ps.ws.length by omega);obtain ⟨wt,ws,⟨f0,ff⟩,wo⟩:=db (by omega) b;have e1:f.acq L k k x={f with pc:=upd f.pc k 5,ps:=A5 f.ps k 2 (L.nA (f.nd k)) 0 0}:=by unfold FL.acq;rw [Qq (by omega),Qq (by omega),Qq (by omega),Qj pk]
 have e2:f.A7 L k k x=Dd.no:=by unfold FL.A7;rw [Qq (by omega),Qq (by omega),Qq (by omega),Qj pk]
 rw [e1,e2,Aq];refine ⟨g,Q,1,h.CL hk (.inl ⟨rfl,sk.symm⟩) rfl (by show (A5 _ _ _ _ _ _).ws.length=_;rw [b,List.length_set]) cc dd (λj e=>⟨A0 _ _ e,rfl,rfl,rfl⟩) (by simp only [upd_same];omega) (by omega) (λ_=>by simp only [upd_same];omega) (λ_ _=>by first|exact upd_same _ _ _|omega) (by simp only [upd_same];refine ⟨by omega,?_,?_⟩<;>intros<;>first|trivial|omega) (h.Di k) (h.FX k) (λhy hro=> ?_) (.same rfl (by decide) (by decide) ?_) (.inl (by simp only [upd_same];rw [sk,pk,Bn wo];simp [EA]<;>omega)) (λw=>absurd w (by decide)) (λ_=> .inl (by decide)) (λhL hy=> ?_)⟩
 ·show Cor _ _ _ _ (wT (A5 _ _ _ _ _ _)) (wS (A5 _ _ _ _ _ _)) (wN (A5 _ _ _ _ _ _)) (wO (A5 _ _ _ _ _ _)) g Q
  rw [wt,ws,wo];exact h.Ae.im hk hr (CQ (p:=5) hy (upd_same _ _ _) (by omega) (by omega) hi) hro f0 ff
 ·exact zz32
 ·have CN:=CQ (f:={f with pc:=upd f.pc k 5,ps:=A5 f.ps k 2 (L.nA (f.nd k)) 0 0}) (p:=5) hy (upd_same _ _ _) (by omega) (by omega) hi
  exact zzu
theorem U0 (h:OrdJ f g Q) (h1:L.a1=0) (h2:L.a2=1) {k:Nat} (x:Int) (hk:k<f.s.n) (sk:f.s.st k=1) (pk:f.pc k=5):∃ g' Q' y,Fc f (f.step L k k x) g Q k x (f.did L k k x) g' Q' y:=by
 obtain ⟨ed,es⟩:=at_one (L:=L) (x:=x) hk sk;rw [ed,es];have CY:k<f.ps.ac.length:=by rw [h.ac];exact hk
 have hlen:=h.len;obtain ⟨⟨t0,t1⟩,t2,t3⟩:=h.M0 k hk;obtain ⟨i,hi⟩:=Qx (h.Di k);obtain ⟨a,ha⟩:=Qx (h.FX k);have hr:=CQ (p:=5) sk pk (by omega) (by omega) hi;obtain ⟨o1,⟨o2,o3⟩,hq,_,_,o6,o7,_⟩:=h.Ae.fr k hk i 5 hr;obtain ⟨a1,b,cc,dd⟩:=El (v:=f.nd k) CY (show L.a1=((0:Nat):Int) from h1) (show 0<f.ps.ws.length by omega);obtain ⟨wt,ws,wn,wo⟩:=Hg (by omega) b;have hv:A6 f.ps k 3 L.a1=wT f.ps:=a1;by_cases q0:Q=[]
 ·subst q0
  have hg:g=none:=by
   cases hg:g with
   |none=>rfl
   |some t=>obtain ⟨_,i0,r,p,b,hQ,_⟩:=h.Ae.gs t hg;cases hQ
  subst hg;have q:=h.Ae.t0 rfl;have e1:f.acq L k k x={f with pc:=upd f.pc k 1,A9:=upd f.A9 k (wT f.ps),tr:=upd f.tr k 0,ps:=A5 f.ps k 3 L.a1 0 (f.nd k)}:=by unfold FL.acq;rw [Qq (by omega),Qq (by omega),Qq (by omega),Qq (by omega),Qj pk];rw [hv,Qj q,Qj q]
  have e2:f.A7 L k k x=⟨1,true,false,false⟩:=by unfold FL.A7;rw [Qq (by omega),Qq (by omega),Qq (by omega),Qq (by omega),Qj pk];rw [hv,Qj q]
  rw [e1,e2,Aw hk (by rw [sk];rfl:AH (f.s.st k) 1=some 2)];refine ⟨some k,[i],2,h.CL hk (.inr rfl) rfl (by show (A5 _ _ _ _ _ _).ws.length=_;rw [b,List.length_set]) cc dd (λj e=>⟨A0 _ _ e,rfl,A0 _ _ e,A0 _ _ e⟩) (by simp only [upd_same];omega) (by omega) (λ_=>by simp only [upd_same];omega) (λ_ _=>by first|exact upd_same _ _ _|omega) (by simp only [upd_same];refine ⟨by omega,?_,?_⟩<;>intros<;>first|trivial|omega) (h.Di k) (by simp only [upd_same];rw [q];omega) (λhy hro=> ?_) (.both rfl k rfl rfl rfl) (.inl (by simp only [upd_same];rw [sk,pk,Bn wo];simp [EA]<;>omega)) (λ_=>⟨sk,rfl,true,rfl⟩) (λw=>absurd rfl w) (λhL hy=> ?_)⟩
  ·show Cor _ _ _ _ (wT (A5 _ _ _ _ _ _)) (wS (A5 _ _ _ _ _ _)) (wN (A5 _ _ _ _ _ _)) (wO (A5 _ _ _ _ _ _)) (some k) [i]
   rw [wt,ws,wn,wo,hi];exact h.Ae.O4 hk hr (c:=0) (FQ hy hi ((upd_same _ _ _).trans q)) hro
  ·have CN:FL.ro {f with pc:=upd f.pc k 1,A9:=upd f.A9 k (wT f.ps),tr:=upd f.tr k 0,ps:=A5 f.ps k 3 L.a1 0 (f.nd k),s:=f.s.set k 2 0} k= .hold i 0 0:=FQ hy hi ((upd_same _ _ _).trans q)
   refine ⟨λj hj=> ?_,λi0 p b w=> ?_,λi w=> ?_,λw=>absurd w (by decide),by decide,by decide⟩
   ·obtain rfl:j=i:=by simpa using hj
    show wS (A5 _ _ _ _ _ _) j≠2;rw [ws,o7 (by omega)];decide
   ·exact zz89
   ·exact zz36
 ·obtain ⟨a,ha⟩:=G0 q0
  have gQ:=(h.Ae.tl a ha).1;have nu:=(h.Ae.BP a (C6 ha)).1.1;have q:¬ wT f.ps=0:=by omega
  have e1:f.acq L k k x={f with pc:=upd f.pc k 6,A9:=upd f.A9 k (wT f.ps),tr:=upd f.tr k (f.tr k),ps:=A5 f.ps k 3 L.a1 0 (f.nd k)}:=by unfold FL.acq;rw [Qq (by omega),Qq (by omega),Qq (by omega),Qq (by omega),Qj pk];rw [hv,Qq q,Qq q]
  have e2:f.A7 L k k x=⟨0,true,false,false⟩:=by unfold FL.A7;rw [Qq (by omega),Qq (by omega),Qq (by omega),Qq (by omega),Qj pk];rw [hv,Qq q]
  rw [e1,e2,show f.s.fin k (⟨0,true,false,false⟩:Dd).ev=f.s from Aq f.s k];refine ⟨g,Q++[i],1,h.CL hk (.inl ⟨rfl,sk.symm⟩) rfl (by show (A5 _ _ _ _ _ _).ws.length=_;rw [b,List.length_set]) cc dd (λj e=>⟨A0 _ _ e,rfl,A0 _ _ e,A0 _ _ e⟩) (by simp only [upd_same];omega) (by omega) (λ_=>by simp only [upd_same];omega) (λ_ _=>by first|exact upd_same _ _ _|omega) (by simp only [upd_same];refine ⟨by omega,?_,?_⟩<;>intros<;>first|trivial|omega) (h.Di k) (by simp only [upd_same];omega) (λhy hro=> ?_) (.BW rfl k rfl ?_) (.inl (by simp only [upd_same];rw [sk,pk,Bn wo];simp [EA]<;>omega)) (λw=>absurd w (by decide)) (λ_=> .inl (by decide)) (λhL hy=> ?_)⟩
  ·show Cor _ _ _ _ (wT (A5 _ _ _ _ _ _)) (wS (A5 _ _ _ _ _ _)) (wN (A5 _ _ _ _ _ _)) (wO (A5 _ _ _ _ _ _)) g (Q++[i])
   rw [wt,ws,wn,wo,hi];exact h.Ae.cJ q0 hk hr ha (E5 (p:=6) hy (upd_same _ _ _) (by omega) hi ((upd_same _ _ _).trans gQ)) hro
  ·unfold GD
   show Fw _ (wS (A5 _ _ _ _ _ _)) _=_;rw [ws,R4 q0,Wj (by rw [o7 (by omega)];decide),o1]
  ·have CN:=E5 (f:={f with pc:=upd f.pc k 6,A9:=upd f.A9 k (wT f.ps),tr:=upd f.tr k (f.tr k),ps:=A5 f.ps k 3 L.a1 0 (f.nd k)}) (p:=6) hy (upd_same _ _ _) (by omega) hi ((upd_same _ _ _).trans gQ)
   refine ⟨λj hj=> ?_,λi p b w=> ?_,λi w=> ?_,λ_=>⟨rfl,sk,by simp only [upd_same];omega,by simp only [upd_same];omega⟩,by decide,by decide⟩
   ·show wS (A5 _ _ _ _ _ _) j≠2
    rw [ws];rcases List.mem_append.1 hj with hj|hj
    ·exact hL.up j hj
    ·obtain rfl:j=i:=by simpa using hj
     rw [o7 (by omega)];decide
   ·exact zz36
   ·exact zz36
theorem U1 (h:OrdJ f g Q) (h1:L.a1=0) (h2:L.a2=1) {k:Nat} (x:Int) (hk:k<f.s.n) (sk:f.s.st k=1) (pk:f.pc k=6):∃ g' Q' y,Fc f (f.step L k k x) g Q k x (f.did L k k x) g' Q' y:=by
 obtain ⟨ed,es⟩:=at_one (L:=L) (x:=x) hk sk;rw [ed,es];have CY:k<f.ps.ac.length:=by rw [h.ac];exact hk
 have hlen:=h.len;obtain ⟨⟨t0,t1⟩,t2,t3⟩:=h.M0 k hk;obtain ⟨i,hi⟩:=Qx (h.Di k);obtain ⟨a,ha⟩:=Qx (h.FX k);have hr:=E5 (p:=6) sk pk (by omega) hi ha;obtain ⟨o1,o2,o3,o4,o5⟩:=h.Ae.wt k hk i 6 a hr;have fq:=(h.Ae.XK (Be:=λu=>if u=k then .wait i 7 a else f.ro u) (N':=λj=>if j=a then (i:Int) else wN f.ps j) hk hr (Qj rfl) (λu hu=>Qq hu) (Qj rfl) (λj hj=>Qq hj)).1;have har:=(h.Ae.BP a (AU fq).1).1;obtain ⟨a,rfl⟩:∃ j,a=j+1:=⟨a-1,by omega⟩
 obtain ⟨b,cc,dd⟩:=BQ (v:=f.nd k) CY ((congrArg L.nA ha).trans (RX h2 a)) (show 3*a+2<f.ps.ws.length by omega);obtain ⟨wt,ws,⟨f0,ff⟩,wo⟩:=db (by omega) b;have e1:f.acq L k k x={f with pc:=upd f.pc k 7,ps:=A5 f.ps k 2 (L.nA (f.A9 k)) 0 (f.nd k)}:=by unfold FL.acq;rw [Qq (by omega),Qq (by omega),Qq (by omega),Qq (by omega),Qq (by omega),Qj pk]
 have e2:f.A7 L k k x=Dd.no:=by unfold FL.A7;rw [Qq (by omega),Qq (by omega),Qq (by omega),Qq (by omega),Qq (by omega),Qj pk]
 rw [e1,e2,Aq];refine ⟨g,Q,1,h.CL hk (.inl ⟨rfl,sk.symm⟩) rfl (by show (A5 _ _ _ _ _ _).ws.length=_;rw [b,List.length_set]) cc dd (λj e=>⟨A0 _ _ e,rfl,rfl,rfl⟩) (by simp only [upd_same];omega) (by omega) (λ_=>by simp only [upd_same];omega) (λ_ _=>by first|exact upd_same _ _ _|omega) (by simp only [upd_same];refine ⟨by omega,?_,?_⟩<;>intros<;>first|trivial|omega) (h.Di k) (h.FX k) (λhy hro=> ?_) (.same rfl (by decide) (by decide) ?_) (.inl (by simp only [upd_same];rw [sk,pk,Bn wo];simp [EA]<;>omega)) (λw=>absurd w (by decide)) (λ_=> .inl (by decide)) (λhL hy=> ?_)⟩
 ·show Cor _ _ _ _ (wT (A5 _ _ _ _ _ _)) (wS (A5 _ _ _ _ _ _)) (wN (A5 _ _ _ _ _ _)) (wO (A5 _ _ _ _ _ _)) g Q
  rw [wt,ws,wo];exact (h.Ae.XK hk hr (E5 (p:=7) hy (upd_same _ _ _) (by omega) hi ha) hro (f0.trans hi) ff).2
 ·exact zz32
 ·have CN:=E5 (f:={f with pc:=upd f.pc k 7,ps:=A5 f.ps k 2 (L.nA (f.A9 k)) 0 (f.nd k)}) (p:=7) hy (upd_same _ _ _) (by omega) hi ha
  exact zzu
theorem U2 (h:OrdJ f g Q) (h1:L.a1=0) (h2:L.a2=1) {k:Nat} (x:Int) (hk:k<f.s.n) (sk:f.s.st k=1) (pk:f.pc k=7):∃ g' Q' y,Fc f (f.step L k k x) g Q k x (f.did L k k x) g' Q' y:=by
 obtain ⟨ed,es⟩:=at_one (L:=L) (x:=x) hk sk;rw [ed,es];have CY:k<f.ps.ac.length:=by rw [h.ac];exact hk
 have hlen:=h.len;obtain ⟨⟨t0,t1⟩,t2,t3⟩:=h.M0 k hk;obtain ⟨i,hi⟩:=Qx (h.Di k);obtain ⟨a,ha⟩:=Qx (h.FX k);have hr:=E5 (p:=7) sk pk (by omega) hi ha;obtain ⟨o1,o2,o3,o4,o5⟩:=h.Ae.wt k hk i 7 a hr;have hir:=(h.Ae.BP i o3).1;obtain ⟨i,rfl⟩:∃ j,i=j+1:=⟨i-1,by omega⟩
 obtain ⟨a1,b,cc,dd⟩:=BL CY ((congrArg L.sA hi).trans (eQ h2 i)) (show 3*i+1<f.ps.ws.length by omega);obtain ⟨wt,ws,wn,wo⟩:=Bq b;have hv:A6 f.ps k 1 (L.sA (f.nd k))=wS f.ps (i+1):=a1;have hst:=h.Ae.state hk hr (.inl rfl);generalize hI:i+1=i at*;rcases hst with ⟨rfl,⟨r,rfl⟩,q3⟩|⟨q3,q4⟩
 ·have q:wS f.ps i≠0:=by rw [q3];decide
  have e1:f.acq L k k x={f with pc:=upd f.pc k 1,tr:=upd f.tr k 0,ps:=A5 f.ps k 1 (L.sA (f.nd k)) 0 0}:=by unfold FL.acq;rw [Qq (by omega),Qq (by omega),Qq (by omega),Qq (by omega),Qq (by omega),Qq (by omega),Qj pk];rw [hv,Qj q,Qj q]
  have e2:f.A7 L k k x=⟨1,false,false,false⟩:=by unfold FL.A7;rw [Qq (by omega),Qq (by omega),Qq (by omega),Qq (by omega),Qq (by omega),Qq (by omega),Qj pk];rw [hv,Qj q]
  rw [e1,e2,Aw hk (by rw [sk];rfl:AH (f.s.st k) 1=some 2)];refine ⟨some k,i::r,2,h.CL hk (.inr rfl) rfl (by show (A5 _ _ _ _ _ _).ws.length=_;rw [b]) cc dd (λj e=>⟨A0 _ _ e,rfl,rfl,A0 _ _ e⟩) (by simp only [upd_same];omega) (by omega) (λ_=>by simp only [upd_same];omega) (λ_ _=>by first|exact upd_same _ _ _|omega) (by simp only [upd_same];refine ⟨by omega,?_,?_⟩<;>intros<;>first|trivial|omega) (h.Di k) (h.FX k) (λhy hro=> ?_) (.Bs rfl k rfl ?_ ?_) (.inl (by simp only [upd_same];rw [sk,pk,Bn wo];simp [EA]<;>omega)) (λ_=>⟨sk,rfl,false,rfl⟩) (λw=>absurd rfl w) (λhL hy=> ?_)⟩
  ·exact zz3u
  ·exact zz5o
  ·exact zz3r
  ·have CN:FL.ro {f with pc:=upd f.pc k 1,tr:=upd f.tr k 0,ps:=A5 f.ps k 1 (L.sA (f.nd k)) 0 0,s:=f.s.set k 2 0} k= .hold i 0 a:=FQ hy hi ha
   exact zz2p
 ·have q:¬ wS f.ps i≠0:=λw=>w q3
  have e2:f.A7 L k k x=Dd.no:=by unfold FL.A7;rw [Qq (by omega),Qq (by omega),Qq (by omega),Qq (by omega),Qq (by omega),Qq (by omega),Qj pk];rw [hv,Qq q]
  have RT:∀ f':FL,f'.ea=f.ea->wS f'.ps=wS f.ps->GD f' g Q=GD f g Q:=λf' w1 w2=>by unfold GD;rw [w1,w2]
  by_cases eD:f.due k x
  ·have e1:f.acq L k k x={f with pc:=upd f.pc k 8,tr:=upd f.tr k (f.tr k),ps:=A5 f.ps k 1 (L.sA (f.nd k)) 0 0}:=by unfold FL.acq;rw [Qq (by omega),Qq (by omega),Qq (by omega),Qq (by omega),Qq (by omega),Qq (by omega),Qj pk];rw [hv,Qq q,Qq q,Qj eD]
   rw [e1,e2,Aq];refine ⟨g,Q,1,h.CL hk (.inl ⟨rfl,sk.symm⟩) rfl (by show (A5 _ _ _ _ _ _).ws.length=_;rw [b]) cc dd (λj e=>⟨A0 _ _ e,rfl,rfl,A0 _ _ e⟩) (by simp only [upd_same];omega) (by omega) (λ_=>by simp only [upd_same];omega) (λ_ _=>by first|exact upd_same _ _ _|omega) (by simp only [upd_same];refine ⟨by omega,?_,?_⟩<;>intros<;>first|trivial|omega) (h.Di k) (h.FX k) (λhy hro=> ?_) (.same rfl (by decide) (by decide) (RT _ rfl ws)) (.inl (by simp only [upd_same];rw [sk,pk,Bn wo];simp [EA]<;>omega)) (λw=>absurd w (by decide)) (λ_=> .inl (by decide)) (λhL hy=> ?_)⟩
   ·show Cor _ _ _ _ (wT (A5 _ _ _ _ _ _)) (wS (A5 _ _ _ _ _ _)) (wN (A5 _ _ _ _ _ _)) (wO (A5 _ _ _ _ _ _)) g Q
    rw [wt,ws,wn,wo];exact h.Ae.YM hk hr (E5 (p:=8) hy (upd_same _ _ _) (by omega) hi ha) hro
   ·have w1:=hL.dl k hk sk
    have w2:=eD.1;omega
  ·have e1:f.acq L k k x={f with pc:=upd f.pc k 7,tr:=upd f.tr k (f.tr k),ps:=A5 f.ps k 1 (L.sA (f.nd k)) 0 0}:=by unfold FL.acq;rw [Qq (by omega),Qq (by omega),Qq (by omega),Qq (by omega),Qq (by omega),Qq (by omega),Qj pk];rw [hv,Qq q,Qq q,Qq eD]
   rw [e1,e2,Aq];refine ⟨g,Q,1,h.CL hk (.inl ⟨rfl,sk.symm⟩) rfl (by show (A5 _ _ _ _ _ _).ws.length=_;rw [b]) cc dd (λj e=>⟨A0 _ _ e,rfl,rfl,A0 _ _ e⟩) (by simp only [upd_same];omega) (by omega) (λ_=>by simp only [upd_same];omega) (λ_ _=>by first|exact upd_same _ _ _|omega) (by simp only [upd_same];refine ⟨by omega,?_,?_⟩<;>intros<;>first|trivial|omega) (h.Di k) (h.FX k) (λhy hro=> ?_) (.same rfl (by decide) (by decide) (RT _ rfl ws)) (.inr ⟨.inr (.inr (.inl ⟨sk,pk,by rw [hi];exact q3,eD⟩)),rfl,rfl,(upd_same _ _ _).trans pk.symm,rfl,upd_same _ _ _,b⟩) (λw=>absurd w (by decide)) (λ_=> .inl (by decide)) (λhL hy=> ?_)⟩
   ·show Cor _ _ _ _ (wT (A5 _ _ _ _ _ _)) (wS (A5 _ _ _ _ _ _)) (wN (A5 _ _ _ _ _ _)) (wO (A5 _ _ _ _ _ _)) g Q
    rw [wt,ws,wn,wo];refine F4 h.Ae λu=> ?_;by_cases w:u=k
    ·subst w;exact (E5 (p:=7) hy (upd_same _ _ _) (by omega) hi ha).trans hr.symm
    ·exact hro u w
   ·have CN:=E5 (f:={f with pc:=upd f.pc k 7,tr:=upd f.tr k (f.tr k),ps:=A5 f.ps k 1 (L.sA (f.nd k)) 0 0}) (p:=7) hy (upd_same _ _ _) (by omega) hi ha
    exact zzu
theorem dB (h:OrdJ f g Q) (h1:L.a1=0) (h2:L.a2=1) {k:Nat} (x:Int) (hk:k<f.s.n) (sk:f.s.st k=1) (pk:f.pc k=8):∃ g' Q' y,Fc f (f.step L k k x) g Q k x (f.did L k k x) g' Q' y:=by
 obtain ⟨ed,es⟩:=at_one (L:=L) (x:=x) hk sk;rw [ed,es];have CY:k<f.ps.ac.length:=by rw [h.ac];exact hk
 have hlen:=h.len;obtain ⟨⟨t0,t1⟩,t2,t3⟩:=h.M0 k hk;obtain ⟨i,hi⟩:=Qx (h.Di k);obtain ⟨a,ha⟩:=Qx (h.FX k);have hr:=E5 (p:=8) sk pk (by omega) hi ha;obtain ⟨o1,o2,o3,o4,o5⟩:=h.Ae.wt k hk i 8 a hr;have hir:=(h.Ae.BP i o3).1;obtain ⟨i,rfl⟩:∃ j,i=j+1:=⟨i-1,by omega⟩
 obtain ⟨a1,b,cc,dd⟩:=Fi (old:=0) (v:=2) CY ((congrArg L.sA hi).trans (eQ h2 i)) (show 3*i+1<f.ps.ws.length by omega);have hv:casT f.ps k (L.sA (f.nd k)) 0=true↔wS f.ps (i+1)=0:=a1;have e1:f.acq L k k x={f with pc:=upd f.pc k 1,tr:=upd f.tr k 0,ps:=A5 f.ps k 4 (L.sA (f.nd k)) 0 2}:=by unfold FL.acq;rw [Qq (by omega),Qq (by omega),Qq (by omega),Qq (by omega),Qq (by omega),Qq (by omega),Qq (by omega)]
 rcases h.Ae.state hk hr (.inr rfl) with ⟨rfl,⟨r,lg⟩,q3⟩|⟨q3,q4⟩
 ·have hne:¬ f.ps.ws.getD (3*i+1) 0=0:=by
   have:wS f.ps (i+1)=f.ps.ws.getD (3*i+1) 0:=rfl;omega
  rw [Qq hne] at b;obtain ⟨wt,ws,wn,wo⟩:=Bq b;have e2:f.A7 L k k x=⟨1,false,false,false⟩:=by unfold FL.A7;rw [Qq (by omega),Qq (by omega),Qq (by omega),Qq (by omega),Qq (by omega),Qq (by omega),Qq (by omega)];rw [Qq (by rw [hv];omega)]
  clear hne hv a1;subst lg;generalize hI:i+1=i at*;rw [e1,e2,Aw hk (by rw [sk];rfl:AH (f.s.st k) 1=some 2)];refine ⟨some k,i::r,2,h.CL hk (.inr rfl) rfl (by show (A5 _ _ _ _ _ _).ws.length=_;rw [b]) cc dd (λj e=>⟨A0 _ _ e,rfl,rfl,A0 _ _ e⟩) (by simp only [upd_same];omega) (by omega) (λ_=>by simp only [upd_same];omega) (λ_ _=>by first|exact upd_same _ _ _|omega) (by simp only [upd_same];refine ⟨by omega,?_,?_⟩<;>intros<;>first|trivial|omega) (h.Di k) (h.FX k) (λhy hro=> ?_) (.Bs rfl k rfl ?_ ?_) (.inl (by simp only [upd_same];rw [sk,pk,Bn wo];simp [EA]<;>omega)) (λ_=>⟨sk,rfl,false,rfl⟩) (λw=>absurd rfl w) (λhL hy=> ?_)⟩
  ·exact zz3u
  ·exact zz5o
  ·exact zz3r
  ·have CN:FL.ro {f with pc:=upd f.pc k 1,tr:=upd f.tr k 0,ps:=A5 f.ps k 4 (L.sA (f.nd k)) 0 2,s:=f.s.set k 2 0} k= .hold i 0 a:=FQ hy hi ha
   exact zz2p
 ·have he:f.ps.ws.getD (3*i+1) 0=0:=q3
  rw [Qj he] at b;obtain ⟨wt,⟨f0,ff⟩,wn,wo⟩:=Yp (by omega) b;have e2:f.A7 L k k x=⟨2,false,false,false⟩:=by unfold FL.A7;rw [Qq (by omega),Qq (by omega),Qq (by omega),Qq (by omega),Qq (by omega),Qq (by omega),Qq (by omega)];rw [Qj (hv.2 q3)]
  clear he hv a1;generalize hI:i+1=i at*;have hin:i∈rest g Q:=by
   cases hg:g with
   |none=>exact o3
   |some t=>
    obtain ⟨_,i0,r,p,b,hQ,_⟩:=h.Ae.gs t hg;rw [hQ] at o3 ⊢;rcases List.mem_cons.1 o3 with w|w
    ·exact absurd (by rw [w];exact hQ) (q4 r)
    ·exact w
  rw [e1,e2,Aw hk (by rw [sk];rfl:AH (f.s.st k) 2=some 0)];refine ⟨g,Q,0,h.CL hk (.inr rfl) rfl (by show (A5 _ _ _ _ _ _).ws.length=_;rw [b,List.length_set]) cc dd (λj e=>⟨A0 _ _ e,rfl,rfl,A0 _ _ e⟩) (by simp only [upd_same];omega) (by omega) (λ_=>by simp only [upd_same];omega) (λ_ _=>by first|exact upd_same _ _ _|omega) (by simp only [upd_same];refine ⟨by omega,?_,?_⟩<;>intros<;>first|trivial|omega) (h.Di k) (h.FX k) (λhy hro=> ?_) (.gone rfl k rfl ?_) (.inl (by simp only [upd_same];rw [sk,pk,Bn wo];simp [EA]<;>omega)) (λw=>absurd w (by decide)) (λ_=> .inl (by decide)) (λhL hy=> ?_)⟩
  ·show Cor _ _ _ _ (wT (A5 _ _ _ _ _ _)) (wS (A5 _ _ _ _ _ _)) (wN (A5 _ _ _ _ _ _)) (wO (A5 _ _ _ _ _ _)) g Q
   rw [wt,wn,wo];exact h.Ae.iu hk hr q3 (G6 hy) hro f0 ff
  ·unfold GD
   have hu:=da (λj hj=>h.Ae.waits (j:=j) hj) (by rw [q3];decide) hin f0 ff;rw [o1] at hu;exact hu
  ·exact absurd pk (hL.p8 k hk sk)
theorem U3 (h:OrdJ f g Q) (h1:L.a1=0) (h2:L.a2=1) {k:Nat} (x:Int) (hk:k<f.s.n) (sk:f.s.st k=3) (pk:f.pc k=1):∃ g' Q' y,Fc f (f.step L k k x) g Q k x (f.did L k k x) g' Q' y:=by
 obtain ⟨ed,es⟩:=B6 (L:=L) (x:=x) hk sk;rw [ed,es];have CY:k<f.ps.ac.length:=by rw [h.ac];exact hk
 have hlen:=h.len;obtain ⟨⟨t0,t1⟩,t2,t3⟩:=h.M0 k hk;have t3:=t3 (by rw [sk];decide);obtain ⟨i,hi⟩:=Qx (h.Di k);obtain ⟨a,ha⟩:=Qx (h.FX k);have hr:=Dj (p:=1) sk pk (by omega) hi ha;have hg:=h.Ae.ho _ hk _ _ _ hr;subst hg;have QJ:=h.Ae;obtain ⟨r,rfl⟩:∃ r,Q=i::r:=zz1f;have hir:=(h.Ae.BP i (by simp)).1;obtain ⟨i,rfl⟩:∃ j,i=j+1:=⟨i-1,by omega⟩
 obtain ⟨a1,b,cc,dd⟩:=BL CY ((congrArg L.nA hi).trans (RX h2 i)) (show 3*i+2<f.ps.ws.length by omega);obtain ⟨wt,ws,wn,wo⟩:=Bq b;have hv:A6 f.ps k 1 (L.nA (f.nd k))=wN f.ps (i+1):=a1;clear a1;generalize hI:i+1=i at*;have e2:f.AX k=Dd.no:=by unfold FL.AX;rw [Qj (by omega)]
 have RT:∀ f':FL,f'.ea=f.ea->wS f'.ps=wS f.ps->GD f' (some k) (i::r)=GD f (some k) (i::r):=λf' w1 w2=>by unfold GD;rw [w1,w2]
 have hno:=h.Ae.JO;by_cases q:wN f.ps i=0
 ·have e1:f.rel L k k={f with pc:=upd f.pc k 2,A9:=upd f.A9 k (wN f.ps i),ps:=A5 f.ps k 1 (L.nA (f.nd k)) 0 0}:=by unfold FL.rel;rw [Qj pk];rw [hv,Qj q]
  rw [e1,e2,Aq];refine ⟨some k,i::r,3,h.CL hk (.inl ⟨rfl,sk.symm⟩) rfl (by show (A5 _ _ _ _ _ _).ws.length=_;rw [b]) cc dd (λj e=>⟨A0 _ _ e,rfl,A0 _ _ e,rfl⟩) (by simp only [upd_same];omega) (by omega) (λ_=>by simp only [upd_same];omega) (λ_ _=>by first|exact upd_same _ _ _|omega) (by simp only [upd_same];refine ⟨by omega,?_,?_⟩<;>intros<;>first|trivial|omega) (h.Di k) (by simp only [upd_same];rw [q];omega) (λhy hro=> ?_) (.same rfl (by decide) (by decide) (RT _ rfl ws)) (.inl (by simp only [upd_same];rw [sk,pk,Bn wo];simp [EA]<;>omega)) (λw=>absurd w (by decide)) (λ_=> .inl (by decide)) (λhL hy=> ?_)⟩
  ·show Cor _ _ _ _ (wT (A5 _ _ _ _ _ _)) (wS (A5 _ _ _ _ _ _)) (wN (A5 _ _ _ _ _ _)) (wO (A5 _ _ _ _ _ _)) (some k) (i::r)
   rw [wt,ws,wn,wo];exact h.Ae.O6 hk hr (Dj (p:=2) hy (upd_same _ _ _) (by omega) hi ((upd_same _ _ _).trans q:_=((0:Nat):Int))) hro (by omega) (λw=>by omega) (λw=>by omega)
  ·have CN:FL.ro {f with pc:=upd f.pc k 2,A9:=upd f.A9 k (wN f.ps i),ps:=A5 f.ps k 1 (L.nA (f.nd k)) 0 0} k=_:=Dj (p:=2) hy (upd_same _ _ _) (by omega) hi ((upd_same _ _ _).trans q:_=((0:Nat):Int))
   exact zzk
 ·obtain ⟨j,r',rfl,hj,hN⟩:∃ j r',r=j::r'/\(1<=j/\j<=f.s.n*f.ea)/\wN f.ps i=(j:Int):=zz50
  have e1:f.rel L k k={f with pc:=upd f.pc k 4,A9:=upd f.A9 k (wN f.ps i),ps:=A5 f.ps k 1 (L.nA (f.nd k)) 0 0}:=by unfold FL.rel;rw [Qj pk];rw [hv,Qq q]
  exact zze
theorem dE (h:OrdJ f g Q) (h1:L.a1=0) (h2:L.a2=1) {k:Nat} (x:Int) (hk:k<f.s.n) (sk:f.s.st k=3) (pk:f.pc k=3):∃ g' Q' y,Fc f (f.step L k k x) g Q k x (f.did L k k x) g' Q' y:=by
 obtain ⟨ed,es⟩:=B6 (L:=L) (x:=x) hk sk;rw [ed,es];have CY:k<f.ps.ac.length:=by rw [h.ac];exact hk
 have hlen:=h.len;obtain ⟨⟨t0,t1⟩,t2,t3⟩:=h.M0 k hk;have t3:=t3 (by rw [sk];decide);obtain ⟨i,hi⟩:=Qx (h.Di k);obtain ⟨a,ha⟩:=Qx (h.FX k);have hr:=Dj (p:=3) sk pk (by omega) hi ha;have hg:=h.Ae.ho _ hk _ _ _ hr;subst hg;have QJ:=h.Ae;obtain ⟨r,rfl⟩:∃ r,Q=i::r:=zz1f;have hir:=(h.Ae.BP i (by simp)).1;obtain ⟨i,rfl⟩:∃ j,i=j+1:=⟨i-1,by omega⟩
 obtain ⟨a1,b,cc,dd⟩:=BL CY ((congrArg L.nA hi).trans (RX h2 i)) (show 3*i+2<f.ps.ws.length by omega);obtain ⟨wt,ws,wn,wo⟩:=Bq b;have hv:A6 f.ps k 1 (L.nA (f.nd k))=wN f.ps (i+1):=a1;clear a1;generalize hI:i+1=i at*;have e2:f.AX k=Dd.no:=by unfold FL.AX;rw [Qj (by omega)]
 have RT:∀ f':FL,f'.ea=f.ea->wS f'.ps=wS f.ps->GD f' (some k) (i::r)=GD f (some k) (i::r):=λf' w1 w2=>by unfold GD;rw [w1,w2]
 have hno:=h.Ae.JO;by_cases q:wN f.ps i=0
 ·have e1:f.rel L k k={f with pc:=upd f.pc k 3,A9:=upd f.A9 k (wN f.ps i),ps:=A5 f.ps k 1 (L.nA (f.nd k)) 0 0}:=by unfold FL.rel;rw [Qq (by omega),Qq (by omega),Qj pk];rw [hv,Qj q]
  rw [e1,e2,Aq];refine ⟨some k,i::r,3,h.CL hk (.inl ⟨rfl,sk.symm⟩) rfl (by show (A5 _ _ _ _ _ _).ws.length=_;rw [b]) cc dd (λj e=>⟨A0 _ _ e,rfl,A0 _ _ e,rfl⟩) (by simp only [upd_same];omega) (by omega) (λ_=>by simp only [upd_same];omega) (λ_ _=>by first|exact upd_same _ _ _|omega) (by simp only [upd_same];refine ⟨by omega,?_,?_⟩<;>intros<;>first|trivial|omega) (h.Di k) (by simp only [upd_same];rw [q];omega) (λhy hro=> ?_) (.same rfl (by decide) (by decide) (RT _ rfl ws)) (.inr ⟨.inr (.inr (.inr ⟨sk,pk,by rw [hi];exact q⟩)),rfl,rfl,(upd_same _ _ _).trans pk.symm,rfl,rfl,b⟩) (λw=>absurd w (by decide)) (λ_=> .inl (by decide)) (λhL hy=> ?_)⟩
  ·show Cor _ _ _ _ (wT (A5 _ _ _ _ _ _)) (wS (A5 _ _ _ _ _ _)) (wN (A5 _ _ _ _ _ _)) (wO (A5 _ _ _ _ _ _)) (some k) (i::r)
   rw [wt,ws,wn,wo];exact h.Ae.O6 hk hr (Dj (p:=3) hy (upd_same _ _ _) (by omega) hi ((upd_same _ _ _).trans q:_=((0:Nat):Int))) hro (by omega) (λ_=>h.Ae.u3 k i a rfl hr) (λw=>by omega)
  ·have CN:FL.ro {f with pc:=upd f.pc k 3,A9:=upd f.A9 k (wN f.ps i),ps:=A5 f.ps k 1 (L.nA (f.nd k)) 0 0} k=_:=Dj (p:=3) hy (upd_same _ _ _) (by omega) hi ((upd_same _ _ _).trans q:_=((0:Nat):Int))
   exact zzk
 ·obtain ⟨j,r',rfl,hj,hN⟩:∃ j r',r=j::r'/\(1<=j/\j<=f.s.n*f.ea)/\wN f.ps i=(j:Int):=zz50
  have e1:f.rel L k k={f with pc:=upd f.pc k 4,A9:=upd f.A9 k (wN f.ps i),ps:=A5 f.ps k 1 (L.nA (f.nd k)) 0 0}:=by unfold FL.rel;rw [Qq (by omega),Qq (by omega),Qj pk];rw [hv,Qq q]
  exact zze
theorem dD (h:OrdJ f g Q) (h1:L.a1=0) (h2:L.a2=1) {k:Nat} (x:Int) (hk:k<f.s.n) (sk:f.s.st k=3) (pk:f.pc k=2):∃ g' Q' y,Fc f (f.step L k k x) g Q k x (f.did L k k x) g' Q' y:=by
 obtain ⟨ed,es⟩:=B6 (L:=L) (x:=x) hk sk;rw [ed,es];have CY:k<f.ps.ac.length:=by rw [h.ac];exact hk
 have hlen:=h.len;obtain ⟨⟨t0,t1⟩,t2,t3⟩:=h.M0 k hk;have t3:=t3 (by rw [sk];decide);obtain ⟨i,hi⟩:=Qx (h.Di k);obtain ⟨a,ha⟩:=Qx (h.FX k);have hr:=Dj (p:=2) sk pk (by omega) hi ha;have hg:=h.Ae.ho _ hk _ _ _ hr;subst hg;have QJ:=h.Ae;obtain ⟨r,rfl⟩:∃ r,Q=i::r:=zz1f;have hir:=(h.Ae.BP i (by simp)).1;obtain ⟨a1,b,cc,dd⟩:=Fi (old:=f.nd k) (v:=0) CY (show L.a1=((0:Nat):Int) from h1) (show 0<f.ps.ws.length by omega);have hv:casT f.ps k L.a1 (f.nd k)=true↔wT f.ps=f.nd k:=a1;have kJ:=h.Ae.YX;have e2:f.AX k=Dd.no:=by unfold FL.AX;rw [Qj (by omega)]
 by_cases q:wT f.ps=f.nd k
 ·obtain rfl:=kJ.1 (q.trans hi)
  rw [Qj (show f.ps.ws.getD 0 0=f.nd k from q)] at b;obtain ⟨wt,ws,wn,wo⟩:=Hg (by omega) b;have e1:f.rel L k k={f with pc:=upd f.pc k 6,ps:=A5 f.ps k 4 L.a1 (f.nd k) 0}:=by unfold FL.rel;rw [Qq (by omega),Qj pk];rw [Qj (hv.2 q)]
  rw [e1,e2,Aq];refine ⟨none,[],3,h.CL hk (.inl ⟨rfl,sk.symm⟩) rfl (by show (A5 _ _ _ _ _ _).ws.length=_;rw [b,List.length_set]) cc dd (λj e=>⟨A0 _ _ e,rfl,rfl,rfl⟩) (by simp only [upd_same];omega) (by omega) (λ_=>by simp only [upd_same];omega) (λ_ _=>by first|exact upd_same _ _ _|omega) (by simp only [upd_same];refine ⟨by omega,?_,?_⟩<;>intros<;>first|trivial|omega) (h.Di k) (h.FX k) (λhy hro=> ?_) (.same rfl (by decide) (by decide) ?_) (.inl (by simp only [upd_same];rw [sk,pk,Bn wo];simp [EA]<;>omega)) (λw=>absurd w (by decide)) (λ_=> .inl (by decide)) (λhL hy=> ?_)⟩
  ·show Cor _ _ _ _ (wT (A5 _ _ _ _ _ _)) (wS (A5 _ _ _ _ _ _)) (wN (A5 _ _ _ _ _ _)) (wO (A5 _ _ _ _ _ _)) none []
   rw [wt,ws,wn,wo];exact h.Ae.O5 hk hr (JZ hy (upd_same _ _ _) hi) hro
  ·rfl
  ·have CN:FL.ro {f with pc:=upd f.pc k 6,ps:=A5 f.ps k 4 L.a1 (f.nd k) 0} k=_:=JZ hy (upd_same _ _ _) hi
   refine ⟨λj hj=>(by cases hj),λi0 p b w=> ?_,λi0 w=> ?_,λw=>absurd w (by decide),by decide,by decide⟩
   ·exact zz36
   ·exact zz6m
 ·rw [Qq (show ¬ f.ps.ws.getD 0 0=f.nd k from q)] at b
  obtain ⟨wt,ws,wn,wo⟩:=Bq b;have e1:f.rel L k k={f with pc:=upd f.pc k 3,ps:=A5 f.ps k 4 L.a1 (f.nd k) 0}:=by unfold FL.rel;rw [Qq (by omega),Qj pk];rw [Qq (λw=>q (hv.1 w))]
  rw [e1,e2,Aq];refine ⟨some k,i::r,3,h.CL hk (.inl ⟨rfl,sk.symm⟩) rfl (by show (A5 _ _ _ _ _ _).ws.length=_;rw [b]) cc dd (λj e=>⟨A0 _ _ e,rfl,rfl,rfl⟩) (by simp only [upd_same];omega) (by omega) (λ_=>by simp only [upd_same];omega) (λ_ _=>by first|exact upd_same _ _ _|omega) (by simp only [upd_same];refine ⟨by omega,?_,?_⟩<;>intros<;>first|trivial|omega) (h.Di k) (h.FX k) (λhy hro=> ?_) (.same rfl (by decide) (by decide) ?_) (.inl (by simp only [upd_same];rw [sk,pk,Bn wo];simp [EA]<;>omega)) (λw=>absurd w (by decide)) (λ_=> .inl (by decide)) (λhL hy=> ?_)⟩
  ·show Cor _ _ _ _ (wT (A5 _ _ _ _ _ _)) (wS (A5 _ _ _ _ _ _)) (wN (A5 _ _ _ _ _ _)) (wO (A5 _ _ _ _ _ _)) (some k) (i::r)
   rw [wt,ws,wn,wo];exact h.Ae.O6 hk hr (Dj (p:=3) hy (upd_same _ _ _) (by omega) hi ha) hro (by omega) (λ_ w=>q ((kJ.2 (by simpa using w)).trans hi.symm)) (λw=>by omega)
  ·exact zz32
  ·have CN:FL.ro {f with pc:=upd f.pc k 3,ps:=A5 f.ps k 4 L.a1 (f.nd k) 0} k=_:=Dj (p:=3) hy (upd_same _ _ _) (by omega) hi ha
   exact zzk
theorem dF (h:OrdJ f g Q) (h1:L.a1=0) (h2:L.a2=1) {k:Nat} (x:Int) (hk:k<f.s.n) (sk:f.s.st k=3) (pk:f.pc k=4):∃ g' Q' y,Fc f (f.step L k k x) g Q k x (f.did L k k x) g' Q' y:=by
 obtain ⟨ed,es⟩:=B6 (L:=L) (x:=x) hk sk;rw [ed,es];have CY:k<f.ps.ac.length:=by rw [h.ac];exact hk
 have hlen:=h.len;obtain ⟨⟨t0,t1⟩,t2,t3⟩:=h.M0 k hk;have t3:=t3 (by rw [sk];decide);obtain ⟨i,hi⟩:=Qx (h.Di k);obtain ⟨a,ha⟩:=Qx (h.FX k);have hr:=Dj (p:=4) sk pk (by omega) hi ha;have hg:=h.Ae.ho _ hk _ _ _ hr;subst hg;have QJ:=h.Ae;obtain ⟨r,rfl⟩:∃ r,Q=i::r:=zz1f;have hir:=(h.Ae.BP i (by simp)).1;obtain ⟨r',hQ,hN,dw⟩:=h.Ae.u4 k i a 4 rfl hr (.inl rfl);obtain rfl:r=a::r':=by simpa using hQ
 have har:=(h.Ae.BP a (by simp)).1;have hno:=h.Ae.JO;obtain ⟨a,rfl⟩:∃ j,a=j+1:=⟨a-1,by omega⟩
 obtain ⟨a1,b,cc,dd⟩:=Fi (old:=0) (v:=1) CY ((congrArg L.sA ha).trans (eQ h2 a)) (show 3*a+1<f.ps.ws.length by omega);have hv:casT f.ps k (L.sA (f.A9 k)) 0=true↔wS f.ps (a+1)=0:=a1;have hs2:wS f.ps (a+1)=0\/wS f.ps (a+1)=2:=by
  rcases hno with ⟨w,_⟩|⟨j,r2,w1,w2,w3|w3⟩
  ·cases w
  ·omega
  ·obtain ⟨rfl,_⟩:a+1=j/\_:=by simpa using w1
   exact w3.2
 have e2:f.AX k=Dd.no:=by unfold FL.AX;rw [Qj (by omega)]
 by_cases q:wS f.ps (a+1)=0
 ·rw [Qj (show f.ps.ws.getD (3*a+1) 0=0 from q)] at b
  obtain ⟨wt,⟨f0,ff⟩,wn,wo⟩:=Yp (by omega) b;have e1:f.rel L k k={f with pc:=upd f.pc k 6,ps:=A5 f.ps k 4 (L.sA (f.A9 k)) 0 1}:=by unfold FL.rel;rw [Qq (by omega),Qq (by omega),Qq (by omega),Qj pk];rw [Qj (hv.2 q)]
  rw [e1,e2,Aq];clear a1 hv hno;generalize hA:a+1=a at*;refine ⟨none,a::r',3,h.CL hk (.inl ⟨rfl,sk.symm⟩) rfl (by show (A5 _ _ _ _ _ _).ws.length=_;rw [b,List.length_set]) cc dd (λj e=>⟨A0 _ _ e,rfl,rfl,rfl⟩) (by simp only [upd_same];omega) (by omega) (λ_=>by simp only [upd_same];omega) (λ_ _=>by first|exact upd_same _ _ _|omega) (by simp only [upd_same];refine ⟨by omega,?_,?_⟩<;>intros<;>first|trivial|omega) (h.Di k) (h.FX k) (λhy hro=> ?_) (.same rfl (by decide) (by decide) ?_) (.inl (by simp only [upd_same];rw [sk,pk,Bn wo];simp [EA]<;>omega)) (λw=>absurd w (by decide)) (λ_=> .inl (by decide)) (λhL hy=> ?_)⟩
  ·show Cor _ _ _ _ (wT (A5 _ _ _ _ _ _)) (wS (A5 _ _ _ _ _ _)) (wN (A5 _ _ _ _ _ _)) (wO (A5 _ _ _ _ _ _)) none (a::r')
   rw [wt,wn,wo];exact h.Ae.YL hk hr hN q (JZ hy (upd_same _ _ _) hi) hro f0 ff
  ·unfold GD
   refine PZ (R:=a::r') λj hj=> ?_;show wS (A5 _ _ _ _ _ _) j=2↔_;by_cases w:j=a
   ·subst w;rw [f0,q];decide
   ·rw [ff j w]
  ·have CN:FL.ro {f with pc:=upd f.pc k 6,ps:=A5 f.ps k 4 (L.sA (f.A9 k)) 0 1} k=_:=JZ hy (upd_same _ _ _) hi
   refine ⟨λj hj=>by
    show wS (A5 _ _ _ _ _ _) j≠2;by_cases w:j=a
    ·subst w;rw [f0];decide
    ·rw [ff j w];exact hL.up j (List.mem_cons_of_mem _ hj),λi0 p b w=> ?_,λi0 w=> ?_,λw=>absurd w (by decide),by decide,by decide⟩
   ·exact zz36
   ·exact zz6m
 ·have q2:wS f.ps (a+1)=2:=by omega
  rw [Qq (show ¬ f.ps.ws.getD (3*a+1) 0=0 from q)] at b;obtain ⟨wt,ws,wn,wo⟩:=Bq b;have e1:f.rel L k k={f with pc:=upd f.pc k 5,ps:=A5 f.ps k 4 (L.sA (f.A9 k)) 0 1}:=by unfold FL.rel;rw [Qq (by omega),Qq (by omega),Qq (by omega),Qj pk];rw [Qq (λw=>q (hv.1 w))]
  rw [e1,e2,Aq];clear a1 hv hno;generalize hA:a+1=a at*;refine ⟨some k,i::a::r',3,h.CL hk (.inl ⟨rfl,sk.symm⟩) rfl (by show (A5 _ _ _ _ _ _).ws.length=_;rw [b]) cc dd (λj e=>⟨A0 _ _ e,rfl,rfl,rfl⟩) (by simp only [upd_same];omega) (by omega) (λ_=>by simp only [upd_same];omega) (λ_ _=>by first|exact upd_same _ _ _|omega) (by simp only [upd_same];refine ⟨by omega,?_,?_⟩<;>intros<;>first|trivial|omega) (h.Di k) (h.FX k) (λhy hro=> ?_) (.same rfl (by decide) (by decide) ?_) (.inl (by simp only [upd_same];rw [sk,pk,Bn wo];simp [EA]<;>omega)) (λw=>absurd w (by decide)) (λ_=> .inl (by decide)) (λhL hy=> ?_)⟩
  ·show Cor _ _ _ _ (wT (A5 _ _ _ _ _ _)) (wS (A5 _ _ _ _ _ _)) (wN (A5 _ _ _ _ _ _)) (wO (A5 _ _ _ _ _ _)) (some k) (i::a::r')
   rw [wt,ws,wn,wo];exact h.Ae.O6 hk hr (Dj (p:=5) hy (upd_same _ _ _) (by omega) hi ha) hro (by omega) (λw=>by omega) (λ_=>⟨r',rfl,hN,λ_=>q2⟩)
  ·exact zz32
  ·exact absurd q2 (hL.up a (by simp))
theorem dG (h:OrdJ f g Q) (h1:L.a1=0) (h2:L.a2=1) {k:Nat} (x:Int) (hk:k<f.s.n) (sk:f.s.st k=3) (pk:f.pc k=5):∃ g' Q' y,Fc f (f.step L k k x) g Q k x (f.did L k k x) g' Q' y:=by
 obtain ⟨ed,es⟩:=B6 (L:=L) (x:=x) hk sk;rw [ed,es];have CY:k<f.ps.ac.length:=by rw [h.ac];exact hk
 have hlen:=h.len;obtain ⟨⟨t0,t1⟩,t2,t3⟩:=h.M0 k hk;have t3:=t3 (by rw [sk];decide);obtain ⟨i,hi⟩:=Qx (h.Di k);obtain ⟨a,ha⟩:=Qx (h.FX k);have hr:=Dj (p:=5) sk pk (by omega) hi ha;have hg:=h.Ae.ho _ hk _ _ _ hr;subst hg;have QJ:=h.Ae;obtain ⟨r,rfl⟩:∃ r,Q=i::r:=zz1f;have hir:=(h.Ae.BP i (by simp)).1;obtain ⟨r',hQ,hN,dw⟩:=h.Ae.u4 k i a 5 rfl hr (.inr rfl);obtain rfl:r=a::r':=by simpa using hQ
 have har:=(h.Ae.BP a (by simp)).1;obtain ⟨i,rfl⟩:∃ j,i=j+1:=⟨i-1,by omega⟩
 obtain ⟨b,cc,dd⟩:=BQ (v:=0) CY ((congrArg L.oA hi).trans (eM h2 i)) (show 3*i+3<f.ps.ws.length by omega);obtain ⟨wt,ws,wn,⟨f0,ff⟩⟩:=Yo (by omega) b;have e2:f.AX k=Dd.no:=by unfold FL.AX;rw [Qj (by omega)]
 have e1:f.rel L k k={f with pc:=upd f.pc k 1,nd:=upd f.nd k (f.A9 k),ps:=A5 f.ps k 2 (L.oA (f.nd k)) 0 0}:=by unfold FL.rel;rw [Qq (by omega),Qq (by omega),Qq (by omega),Qq (by omega),Qj pk]
 rw [e1,e2,Aq];have Zu:=NJ (m:=f.s.n*f.ea) (i:=i) (by omega) ff;rw [f0,h.Ae.oq (i+1) (by simp)] at Zu;generalize hI:i+1=i at*;refine ⟨some k,a::r',3,h.CL hk (.inl ⟨rfl,sk.symm⟩) rfl (by show (A5 _ _ _ _ _ _).ws.length=_;rw [b,List.length_set]) cc dd (λj e=>⟨A0 _ _ e,A0 _ _ e,rfl,rfl⟩) (by simp only [upd_same];omega) (by omega) (λ_=>by simp only [upd_same];omega) (λ_ _=>by first|exact upd_same _ _ _|omega) (by simp only [upd_same];refine ⟨by omega,?_,?_⟩<;>intros<;>first|trivial|omega) (by simp only [upd_same];omega) (h.FX k) (λhy hro=> ?_) (.same rfl (by decide) (by decide) ?_) (.inl (by simp only [upd_same];rw [sk,pk];simp [EA]<;>omega)) (λw=>absurd w (by decide)) (λ_=> .inl (by decide)) (λhL hy=> ?_)⟩
 ·show Cor _ _ _ _ (wT (A5 _ _ _ _ _ _)) (wS (A5 _ _ _ _ _ _)) (wN (A5 _ _ _ _ _ _)) (wO (A5 _ _ _ _ _ _)) (some k) (a::r')
  rw [wt,ws,wn];exact h.Ae.YN hk hr (dw rfl) (Dj (p:=1) hy (upd_same _ _ _) (by omega) ((upd_same _ _ _).trans ha) ha) hro f0 ff
 ·unfold GD
  show Fw _ (wS (A5 _ _ _ _ _ _)) r'=Fw _ _ (a::r');rw [ws,Jj (dw rfl)]
 ·exact absurd (dw rfl) (hL.up a (by simp))
theorem dH (h:OrdJ f g Q) (h1:L.a1=0) (h2:L.a2=1) {k:Nat} (x:Int) (hk:k<f.s.n) (sk:f.s.st k=3) (pk:f.pc k=6):∃ g' Q' y,Fc f (f.step L k k x) g Q k x (f.did L k k x) g' Q' y:=by
 obtain ⟨ed,es⟩:=B6 (L:=L) (x:=x) hk sk;rw [ed,es];have CY:k<f.ps.ac.length:=by rw [h.ac];exact hk
 have hlen:=h.len;obtain ⟨⟨t0,t1⟩,t2,t3⟩:=h.M0 k hk;have t3:=t3 (by rw [sk];decide);obtain ⟨i,hi⟩:=Qx (h.Di k);obtain ⟨a,ha⟩:=Qx (h.FX k);have hr:=JZ sk pk hi;have hir:=(h.Ae.de k hk i hr).1;obtain ⟨i,rfl⟩:∃ j,i=j+1:=⟨i-1,by omega⟩
 obtain ⟨b,cc,dd⟩:=BQ (v:=0) CY ((congrArg L.oA hi).trans (eM h2 i)) (show 3*i+3<f.ps.ws.length by omega);obtain ⟨wt,ws,wn,⟨f0,ff⟩⟩:=Yo (by omega) b;have e2:f.AX k=⟨3,false,false,false⟩:=by unfold FL.AX;rw [Qq (by omega)]
 have e1:f.rel L k k={f with pc:=upd f.pc k 1,tr:=upd f.tr k 0,ps:=A5 f.ps k 2 (L.oA (f.nd k)) 0 0}:=by unfold FL.rel;rw [Qq (by omega),Qq (by omega),Qq (by omega),Qq (by omega),Qq (by omega)]
 rw [e1,e2,Aw hk (by rw [sk];rfl:AH (f.s.st k) 3=some 0)];have Zu:=NJ (m:=f.s.n*f.ea) (i:=i) (by omega) ff;rw [f0,(h.Ae.de k hk _ hr).2.2] at Zu;generalize hI:i+1=i at*;refine ⟨g,Q,0,h.CL hk (.inr rfl) rfl (by show (A5 _ _ _ _ _ _).ws.length=_;rw [b,List.length_set]) cc dd (λj e=>⟨A0 _ _ e,rfl,rfl,A0 _ _ e⟩) (by simp only [upd_same];omega) (by omega) (λ_=>by simp only [upd_same];omega) (λ_ _=>by first|exact upd_same _ _ _|omega) (by simp only [upd_same];refine ⟨by omega,?_,?_⟩<;>intros<;>first|trivial|omega) (h.Di k) (h.FX k) (λhy hro=> ?_) (.same rfl (by decide) (by decide) ?_) (.inl (by simp only [upd_same];rw [sk,pk];simp [EA]<;>omega)) (λw=>absurd w (by decide)) (λ_=> .inl (by decide)) (λhL hy=> ?_)⟩
 ·show Cor _ _ _ _ (wT (A5 _ _ _ _ _ _)) (wS (A5 _ _ _ _ _ _)) (wN (A5 _ _ _ _ _ _)) (wO (A5 _ _ _ _ _ _)) g Q
  rw [wt,ws,wn];exact h.Ae.cY hk hr (G6 hy) hro f0 ff
 ·exact zz32
 ·have CN:FL.ro {f with pc:=upd f.pc k 1,tr:=upd f.tr k 0,ps:=A5 f.ps k 2 (L.oA (f.nd k)) 0 0,s:=f.s.set k 0 0} k= .idle:=G6 hy
  refine ⟨λj hj=>by show wS (A5 _ _ _ _ _ _) j≠2;rw [ws];exact hL.up j hj,λi p b w=> ?_,λi w=> ?_,λw=>absurd w (by decide),by decide,by decide⟩
  ·exact zz36
  ·exact zz36
theorem Lz (h:OrdJ f g Q) (h1:L.a1=0) (h2:L.a2=1) {k:Nat} (x:Int) (hk:k<f.s.n):∃ g' Q' y,Fc f (f.step L k k x) g Q k x (f.did L k k x) g' Q' y:=by
 have hp:=h.Ev k;have hst:=h.dR k hk;by_cases s1:f.s.st k=1
 ·have:f.pc k=1\/f.pc k=2\/f.pc k=3\/f.pc k=4\/f.pc k=5\/f.pc k=6\/f.pc k=7\/f.pc k=8:=by omega
  rcases this with p|p|p|p|p|p|p|p
  ·exact h.Tw h1 h2 x hk s1 p
  ·exact h.Tx h1 h2 x hk s1 p
  ·exact h.Ty h1 h2 x hk s1 p
  ·exact h.Tz h1 h2 x hk s1 p
  ·exact h.U0 h1 h2 x hk s1 p
  ·exact h.U1 h1 h2 x hk s1 p
  ·exact h.U2 h1 h2 x hk s1 p
  ·exact h.dB h1 h2 x hk s1 p
 by_cases s3:f.s.st k=3
 ·have:=h.KG k hk s3
  have:f.pc k=1\/f.pc k=2\/f.pc k=3\/f.pc k=4\/f.pc k=5\/f.pc k=6:=by omega
  rcases this with p|p|p|p|p|p
  ·exact h.U3 h1 h2 x hk s3 p
  ·exact h.dD h1 h2 x hk s3 p
  ·exact h.dE h1 h2 x hk s3 p
  ·exact h.dF h1 h2 x hk s3 p
  ·exact h.dG h1 h2 x hk s3 p
  ·exact h.dH h1 h2 x hk s3 p
 obtain ⟨d1,d2⟩:=D5 (L:=L) (x:=x) hk s1 s3;rw [d1,d2];exact ⟨g,Q,f.s.st k,h,.same rfl (by decide) (by decide) rfl,BV _ _,rfl,rfl,λ_ _=>⟨rfl,rfl,rfl,rfl⟩,Nat.le_succ _,.inr ⟨by unfold Halt;omega,rfl,rfl,rfl,rfl,rfl,rfl⟩,λw=>absurd w (by decide),λ_=>by omega,λhL=>⟨hL,by decide,by decide⟩⟩
theorem step (h:OrdJ f g Q) (h1:L.a1=0) (h2:L.a2=1) (t x:Int):
  ∃ g' Q',OrdJ (f.step L t t x) g' Q'/\(f.step L t t x).ps.D.length<=f.ps.D.length+1/\BC (GD f g Q) t (f.did L t t x) (GD (f.step L t t x) g' Q'):=by
 by_cases ht:0<=t/\t<f.s.n
 ·obtain ⟨k,rfl⟩:=Qx ht.1
  obtain ⟨g',Q',y,hs⟩:=h.Lz h1 h2 x (show k<f.s.n by omega);exact ⟨g',Q',hs.ord,hs.D,hs.q⟩
 ·obtain ⟨d1,d2⟩:=D6 (L:=L) (x:=x) ht
  rw [d1,d2];exact ⟨g,Q,h,Nat.le_succ _,.same rfl (by decide) (by decide) rfl⟩
end OrdJ
def OrdI (f:FL) (W:List Nat):Prop:=∃ g Q,OrdJ f g Q/\W=GD f g Q
namespace OrdI
variable {f:FL} {W:List Nat} {L:Lp}
theorem lock (h:OrdI f W) (t d:Int):OrdI (f.lock t d) W:=by obtain ⟨g,Q,h,e⟩:=h;exact ⟨g,Q,h.lock t d,e⟩
theorem unlock (h:OrdI f W) (t:Int):OrdI (f.turn t 3) W:=by obtain ⟨g,Q,h,e⟩:=h;exact ⟨g,Q,h.turn t,e⟩
theorem step (h:OrdI f W) (h1:L.a1=0) (h2:L.a2=1) (t x:Int):∃ W',OrdI (f.step L t t x) W'/\(f.step L t t x).ps.D.length<=f.ps.D.length+1/\OrdJ.BC W t (f.did L t t x) W':=by
 obtain ⟨g,Q,h,rfl⟩:=h;obtain ⟨g',Q',a,b,c⟩:=h.step h1 h2 t x;exact ⟨_,⟨g',Q',a,rfl⟩,b,c⟩
theorem one (h:OrdI f W) {j k:Nat} (hj:j<f.s.n) (hk:k<f.s.n) (ej:f.s.st j=2) (ek:f.s.st k=2):j=k:=by
 obtain ⟨g,Q,h,_⟩:=h;obtain ⟨i1,e1⟩:=Qx (h.Di j);obtain ⟨i2,e2⟩:=Qx (h.Di k);obtain ⟨a1,f1⟩:=Qx (h.FX j);obtain ⟨a2,f2⟩:=Qx (h.FX k);have w1:=h.Ae.ho j hj _ _ _ (FQ ej e1 f1);have w2:=h.Ae.ho k hk _ _ _ (FQ ek e2 f2);rw [w1] at w2;simpa using w2
end OrdI
end Go.Proofs.YtmnephejhkfchaaGreat.Ka
