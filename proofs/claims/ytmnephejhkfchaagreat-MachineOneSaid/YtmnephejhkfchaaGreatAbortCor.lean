import Derived.Test.YtmnephejhkfchaaGreatBuVia
namespace Go.Proofs.YtmnephejhkfchaaGreat.Ka
set_option linter.unusedVariables false
set_option maxRecDepth 100000
theorem DD {Q A A' X X':List Nat} {i:Nat} (hn:Q.Nodup) (h:Q=A++i::X) (h':Q=A'++i::X'):A=A'/\X=X':=zz1a
def Dk (Q:List Nat) (i j:Nat):Prop:=∃ A B,Q=A++i::j::B
def CV (Q:List Nat) (k:Nat):Prop:=∃ A,Q=A++[k]
section
variable {Q:List Nat} {i j k:Nat}
theorem Ri (hn:Q.Nodup) {j':Nat} (h:Dk Q i j) (h':Dk Q i j'):j=j':=by
 obtain ⟨A,B,h⟩:=h;obtain ⟨A',B',h'⟩:=h';have:=(DD hn h h').2;simp at this;exact this.1
theorem M4 (hn:Q.Nodup) {i':Nat} (h:Dk Q i j) (h':Dk Q i' j):i=i':=by
 obtain ⟨A,B,h⟩:=h;obtain ⟨A',B',h'⟩:=h';have:=(DD hn (A:=A++[i]) (A':=A'++[i']) (i:=j) (X:=B) (X':=B') (by simpa using h) (by simpa using h')).1;have:=congrArg List.getLast? this;simpa using this
theorem AU (h:Dk Q i j):i∈Q/\j∈Q:=by
 obtain ⟨A,B,rfl⟩:=h;simp
theorem XT (hn:Q.Nodup) (h:Dk Q i j):i≠j:=by
 obtain ⟨A,B,rfl⟩:=h;intro e;subst e;have:=(List.nodup_append.1 hn).2.1;simp at this
theorem GQ (hn:Q.Nodup) (h:Dk Q i j):¬ CV Q i:=zz5v
theorem C6 (h:CV Q k):k∈Q:=by obtain ⟨A,rfl⟩:=h;simp
theorem Dn {k':Nat} (h:CV Q k) (h':CV Q k'):k=k':=zz5q
theorem G0 (h:Q≠[]):∃ k,CV Q k:=⟨Q.getLast h,Q.dropLast,(List.dropLast_concat_getLast h).symm⟩
theorem Ff {r:List Nat}:Dk (i::j::r) i j:=⟨[],r,rfl⟩
theorem Fe (h:Dk Q i j):Dk (k::Q) i j:=by obtain ⟨A,B,rfl⟩:=h;exact ⟨k::A,B,rfl⟩
theorem F8 (h:CV Q i):CV (k::Q) i:=by obtain ⟨A,rfl⟩:=h;exact ⟨k::A,rfl⟩
theorem F9:CV [i] i:=⟨[],rfl⟩
theorem Fl (h:CV [i] j):j=i:=by have:=Dn h F9;exact this
theorem Fq:¬ Dk [i] j k:=zz6w
theorem Hw (h:CV (Q++[k]) j):j=k:=Dn h ⟨Q,rfl⟩
theorem J5 (h:Dk (Q++[k]) i j):Dk Q i j\/(CV Q i/\j=k):=zz21
theorem DR (h:j∈Q) (hh:∀ r,Q≠j::r):∃ i,Dk Q i j:=zz49
theorem Cm (hn:Q.Nodup) (h:Dk Q i j) (r:List Nat):Q≠j::r:=zz52
end
inductive Ro where
 |idle
 |look
 |fresh (i p:Nat)
 |wait (i p a:Nat)
 |hold (i p b:Nat)
 |RR (i:Nat)
def IE (ro:Nat->Ro) (own:Nat->Nat) (S N:Nat->Int) (i j:Nat):Prop:=
 (N i=0/\ro (own j)= .wait j 6 i/\S j=0)\/(N i=(j:Int)/\S j=0/\∃ p a,ro (own j)= .wait j p a/\(p=7\/p=8))\/(N i=(j:Int)/\S j=2)
structure Cor (n m:Nat) (own:Nat->Nat) (ro:Nat->Ro) (T:Int) (S N O:Nat->Int) (g:Option Nat) (Q:List Nat):Prop where
 nodup:Q.Nodup
 BP:∀ i∈Q,(1<=i/\i<=m)/\own i<n
 t0:Q=[]->T=0
 tl:∀ k,CV Q k->T=(k:Int)/\N k=0
 Jp:∀ i j,Dk Q i j->IE ro own S N i j
 gs:∀ t,g=some t->t<n/\∃ (i:Nat) (r:List Nat) (p b:Nat),Q=i::r/\ro t= .hold i p b/\p<=5
 hd:g=none->∀ (i:Nat) (r:List Nat),Q=i::r->S i=1/\∃ p a,ro (own i)= .wait i p a/\(p=7\/p=8)
 wt:∀ u,u<n->∀ i p a,ro u= .wait i p a->own i=u/\(p=6\/p=7\/p=8)/\i∈Q/\S i≠2/\(g≠none->∀ r:List Nat,Q≠i::r)
 fr:∀ u,u<n->∀ i p,ro u= .fresh i p->own i=u/\(1<=i/\i<=m)/\i∉Q/\(2<=p/\p<=5)/\(p=2->O i=0)/\(3<=p->O i=1)/\(4<=p->S i=0)/\(p=5->N i=0)
 ho:∀ u,u<n->∀ i p b,ro u= .hold i p b->g=some u
 de:∀ u,u<n->∀ i,ro u= .RR i->(1<=i/\i<=m)/\i∉Q/\O i=1
 dd:∀ u v,u<n->v<n->∀ i,ro u= .RR i->ro v= .RR i->u=v
 df:∀ u v,u<n->v<n->∀ i p,ro u= .RR i->ro v= .fresh i p->False
 oq:∀ i∈Q,O i=1
 ob:∀ i,1<=i->i<=m->O i=0\/(O i=1/\(i∈Q\/(∃ u,u<n/\∃ p,3<=p/\ro u= .fresh i p)\/(∃ u,u<n/\ro u= .RR i)))
 u3:∀ t i b,g=some t->ro t= .hold i 3 b->Q≠[i]
 u4:∀ t i b p,g=some t->ro t= .hold i p b->p=4\/p=5->∃ r,Q=i::b::r/\N i=(b:Int)/\(p=5->S b=2)
namespace Cor
variable {n m:Nat} {own:Nat->Nat} {ro Be:Nat->Ro} {T:Int} {S N O S' N' O':Nat->Int} {g:Option Nat} {Q:List Nat} {k i:Nat}
theorem Li (h:Cor n m own ro T S N O g Q) (hk:k<n) (hr:ro k= .idle\/ro k= .look) (e0:Be k= .idle\/Be k= .look) (e:∀ u,u≠k->Be u=ro u):Cor n m own Be T S N O g Q:=by
 refine ⟨h.nodup,h.BP,h.t0,h.tl,?_,?_,?_,?_,?_,?_,?_,?_,?_,h.oq,?_,?_,?_⟩
 ·exact zz4j
 ·have:=h.gs;grind
 ·have:=h.hd;grind
 ·have:=h.wt;grind
 ·exact zz2k
 ·have:=h.ho;grind
 ·have:=h.de;grind
 ·have:=h.dd;grind
 ·have:=h.df;intro u v hu hv i' p' h1 h2;by_cases q:v=k<;>grind
 ·have:=h.ob;grind
 ·have:=h.u3;grind
 ·have:=h.u4;grind
theorem YO (h:Cor n m own ro T S N O g Q) (hk:k<n) (hr:ro k= .look) (hi:(1<=i/\i<=m)/\own i=k) (ho:O i=0) (e0:Be k= .fresh i 2) (e:∀ u,u≠k->Be u=ro u):Cor n m own Be T S N O g Q:=by
 have hq:i∉Q:=λq=>by have:=h.oq i q;omega
 refine ⟨h.nodup,h.BP,h.t0,h.tl,?_,?_,?_,?_,?_,?_,?_,?_,?_,h.oq,?_,?_,?_⟩
 ·exact zz4j
 ·have:=h.gs;grind
 ·have:=h.hd;grind
 ·have:=h.wt;grind
 ·exact zz2k
 ·have:=h.ho;grind
 ·have:=h.de;grind
 ·have:=h.dd;grind
 ·exact zz3j
 ·have:=h.ob;grind
 ·have:=h.u3;grind
 ·have:=h.u4;grind
theorem cZ (h:Cor n m own ro T S N O g Q) (hk:k<n) (hr:ro k= .fresh i 2) (e0:Be k= .fresh i 3) (e:∀ u,u≠k->Be u=ro u) (f0:O' i=1) (f:∀ j,j≠i->O' j=O j):Cor n m own Be T S N O' g Q:=by
 obtain ⟨o1,o2,o3,o4,o5,o6,o7,o8⟩:=h.fr k hk i 2 hr;refine ⟨h.nodup,h.BP,h.t0,h.tl,?_,?_,?_,?_,?_,?_,?_,?_,?_,?_,?_,?_,?_⟩
 ·exact zz4j
 ·have:=h.gs;grind
 ·have:=h.hd;grind
 ·have:=h.wt;grind
 ·exact zz2k
 ·have:=h.ho;grind
 ·have:=h.de;grind
 ·have:=h.dd;grind
 ·exact zz3j
 ·have:=h.oq;grind
 ·have:=h.ob;grind
 ·have:=h.u3;grind
 ·have:=h.u4;grind
theorem ir (h:Cor n m own ro T S N O g Q) (hk:k<n) (hr:ro k= .fresh i 3) (e0:Be k= .fresh i 4) (e:∀ u,u≠k->Be u=ro u) (f0:S' i=0) (f:∀ j,j≠i->S' j=S j):Cor n m own Be T S' N O g Q:=by
 obtain ⟨o1,o2,o3,o4,o5,o6,o7,o8⟩:=h.fr k hk i 3 hr;refine ⟨h.nodup,h.BP,h.t0,h.tl,?_,?_,?_,?_,?_,?_,?_,?_,?_,h.oq,?_,?_,?_⟩
 ·have:=h.Jp;have ha:=λi j (h:Dk Q i j)=>AU h;unfold IE at*;grind
 ·have:=h.gs;grind
 ·have:=h.hd;grind
 ·have:=h.wt;grind
 ·exact zz2k
 ·have:=h.ho;grind
 ·have:=h.de;grind
 ·have:=h.dd;grind
 ·exact zz3j
 ·have:=h.ob;grind
 ·have:=h.u3;grind
 ·have:=h.u4;grind
theorem im (h:Cor n m own ro T S N O g Q) (hk:k<n) (hr:ro k= .fresh i 4) (e0:Be k= .fresh i 5) (e:∀ u,u≠k->Be u=ro u) (f0:N' i=0) (f:∀ j,j≠i->N' j=N j):Cor n m own Be T S N' O g Q:=by
 obtain ⟨o1,o2,o3,o4,o5,o6,o7,o8⟩:=h.fr k hk i 4 hr;have ha:=λi j (h:Dk Q i j)=>AU h;have hl:=λk (h:CV Q k)=>C6 h;refine ⟨h.nodup,h.BP,h.t0,?_,?_,?_,?_,?_,?_,?_,?_,?_,?_,h.oq,?_,?_,?_⟩
 ·have:=h.tl;grind
 ·exact zz4j
 ·have:=h.gs;grind
 ·have:=h.hd;grind
 ·have:=h.wt;grind
 ·exact zz2k
 ·have:=h.ho;grind
 ·have:=h.de;grind
 ·have:=h.dd;grind
 ·exact zz3j
 ·have:=h.ob;grind
 ·have:=h.u3;grind
 ·have:=h.u4;grind
theorem O4 (h:Cor n m own ro T S N O none []) (hk:k<n) (hr:ro k= .fresh i 5) {c:Nat} (e0:Be k= .hold i 0 c) (e:∀ u,u≠k->Be u=ro u):Cor n m own Be (i:Int) S N O (some k) [i]:=by
 obtain ⟨o1,o2,o3,o4,o5,o6,o7,o8⟩:=h.fr k hk i 5 hr;refine ⟨by simp,?_,λq=>(by cases q),?_,λa b q=>absurd q Fq,?_,λq=>(by cases q),?_,?_,?_,?_,?_,?_,?_,?_,?_,?_⟩
 ·grind
 ·intro j hj;have:=Fl hj;grind
 ·grind
 ·have:=h.wt;grind
 ·exact zz2k
 ·have:=h.ho;grind
 ·have:=h.de;have:=h.df;grind
 ·have:=h.dd;grind
 ·have:=h.df;grind
 ·grind
 ·have:=h.ob;grind
 ·grind
 ·grind
theorem cJ (h:Cor n m own ro T S N O g Q) (h0:Q≠[]) (hk:k<n) (hr:ro k= .fresh i 5) {a:Nat} (ha:CV Q a) (e0:Be k= .wait i 6 a) (e:∀ u,u≠k->Be u=ro u):Cor n m own Be (i:Int) S N O g (Q++[i]):=by
 obtain ⟨o1,o2,o3,o4,o5,o6,o7,o8⟩:=h.fr k hk i 5 hr;have oD:=λb (hb:CV Q b)=>Dn hb ha;have gQ:=h.tl a ha;have hmm:=λi j (h:Dk Q i j)=>AU h;have hmo:=λx y (q:Dk (Q++[i]) x y)=>J5 q;have hlm:=λy (q:CV (Q++[i]) y)=>Hw q;have hwt:=h.wt;have hnl:=h.fr;have hq:∃ x r,Q=x::r:=by cases Q with|nil=>exact absurd rfl h0|cons x r=>exact ⟨x,r,rfl⟩
 obtain ⟨x,r,mC⟩:=hq;have D7:Q++[i]=x::(r++[i]):=by rw [mC];rfl
 refine ⟨?_,?_,?_,?_,?_,?_,?_,?_,?_,?_,?_,?_,?_,?_,?_,?_,?_⟩
 ·have:=h.nodup;grind
 ·have:=h.BP;grind
 ·grind
 ·grind
 ·exact zz4j
 ·have:=h.gs;grind
 ·have:=h.hd;grind
 ·intro u hu i' p' a' h';by_cases q:u=k<;>grind
 ·intro u hu i' p' h';by_cases q:u=k<;>grind
 ·have:=h.ho;grind
 ·have:=h.de;have:=h.df;grind
 ·have:=h.dd;grind
 ·have:=h.df;intro u v hu hv i' p' h1 h2;by_cases q:v=k<;>grind
 ·have:=h.oq;grind
 ·have:=h.ob;grind
 ·intro t j b q1 q2 q3
  rw [D7] at q3;simp at q3
 ·intro t i0 b p0 q1 q2 q3
  obtain ⟨r0,x1,x2,x3⟩:=h.u4 t i0 b p0 q1 (by grind) q3;exact ⟨r0++[i],by rw [x1];rfl,x2,x3⟩
theorem XK (h:Cor n m own ro T S N O g Q) (hk:k<n) {a:Nat} (hr:ro k= .wait i 6 a) (e0:Be k= .wait i 7 a) (e:∀ u,u≠k->Be u=ro u) (f0:N' a=(i:Int)) (f:∀ j,j≠a->N' j=N j):Dk Q a i/\Cor n m own Be T S N' O g Q:=by
 obtain ⟨o1,o2,o3,o4,o5⟩:=h.wt k hk i 6 a hr;have gJ:∀ r,Q≠i::r:=by
  cases hg:g with
  |none=>intro r q;have:=h.hd hg i r q;grind
  |some t=>exact o5 (by rw [hg];simp)
 obtain ⟨a',ha'⟩:=DR o3 gJ;have hlk:=h.Jp a' i ha';obtain rfl:a'=a:=by unfold IE at hlk;rw [o1,hr] at hlk;grind
 refine ⟨ha',?_⟩;have hnn:=λj (q:Dk Q a' j)=>Ri h.nodup q ha';have Io:=λj (q:Dk Q j i)=>M4 h.nodup q ha';have hnl:=GQ h.nodup ha';have oG:=AU ha';have hne:=XT h.nodup ha';refine ⟨h.nodup,h.BP,h.t0,?_,?_,?_,?_,?_,?_,?_,?_,?_,?_,h.oq,?_,?_,?_⟩
 ·have:=h.tl;grind
 ·exact zz4j
 ·have:=h.gs;grind
 ·have:=h.hd;grind
 ·have:=h.wt;intro u hu i' p' a' h';by_cases q:u=k<;>grind
 ·exact zz2k
 ·have:=h.ho;grind
 ·have:=h.de;grind
 ·have:=h.dd;grind
 ·have:=h.df;grind
 ·have:=h.ob;grind
 ·have:=h.u3;grind
 ·intro t i0 b p0 q1 q2 q3
  obtain ⟨r0,x1,x2,x3⟩:=h.u4 t i0 b p0 q1 (by grind) q3;have hx:Dk Q i0 b:=by rw [x1];exact Ff
  exact ⟨r0,x1,by grind,x3⟩
theorem state (h:Cor n m own ro T S N O g Q) (hk:k<n) {p a:Nat} (hr:ro k= .wait i p a) (hp:p=7\/p=8):(g=none/\(∃ r,Q=i::r)/\S i=1)\/(S i=0/\∀ r,Q≠i::r):=by
 obtain ⟨o1,o2,o3,o4,o5⟩:=h.wt k hk i p a hr;by_cases hh:∃ r,Q=i::r
 ·obtain ⟨r,hh⟩:=hh
  cases hg:g with
  |none=>exact .inl ⟨rfl,⟨r,hh⟩,(h.hd hg i r hh).1⟩
  |some t=>exact absurd hh (o5 (by rw [hg];simp) r)
 ·have hh:∀ r,Q≠i::r:=λr q=>hh ⟨r,q⟩
  obtain ⟨a',ha'⟩:=DR o3 hh;have hlk:=h.Jp a' i ha';unfold IE at hlk;exact .inr ⟨by grind,hh⟩
theorem YM (h:Cor n m own ro T S N O g Q) (hk:k<n) {a:Nat} (hr:ro k= .wait i 7 a) (e0:Be k= .wait i 8 a) (e:∀ u,u≠k->Be u=ro u):Cor n m own Be T S N O g Q:=by
 refine ⟨h.nodup,h.BP,h.t0,h.tl,?_,?_,?_,?_,?_,?_,?_,?_,?_,h.oq,?_,?_,?_⟩
 ·have:=h.Jp;have:=h.wt k hk i 7 a hr;unfold IE at*;grind
 ·have:=h.gs;grind
 ·have:=h.hd;have:=h.wt k hk i 7 a hr;grind
 ·have:=h.wt;intro u hu i' p' a' h';by_cases q:u=k<;>grind
 ·have:=h.fr;grind
 ·have:=h.ho;grind
 ·have:=h.de;grind
 ·have:=h.dd;grind
 ·have:=h.df;grind
 ·have:=h.ob;grind
 ·have:=h.u3;grind
 ·have:=h.u4;grind
theorem PO {r:List Nat} (h:Cor n m own ro T S N O none (i::r)) (hk:k<n) {p a c:Nat} (hr:ro k= .wait i p a) (e0:Be k= .hold i 0 c) (e:∀ u,u≠k->Be u=ro u):Cor n m own Be T S N O (some k) (i::r):=by
 obtain ⟨o1,o2,o3,o4,o5⟩:=h.wt k hk i p a hr;have gJ:=λx j (q:Dk (i::r) x j) r'=>Cm h.nodup q r';refine ⟨h.nodup,h.BP,h.t0,h.tl,?_,?_,λq=>(by cases q),?_,?_,?_,?_,?_,?_,h.oq,?_,?_,?_⟩
 ·have:=h.Jp;unfold IE at*;intro x j hx;have:=gJ x j hx r;grind
 ·grind
 ·have:=h.wt;grind
 ·have:=h.fr;grind
 ·have:=h.ho;grind
 ·have:=h.de;grind
 ·have:=h.dd;grind
 ·have:=h.df;grind
 ·have:=h.ob;grind
 ·grind
 ·grind
theorem iu (h:Cor n m own ro T S N O g Q) (hk:k<n) {a:Nat} (hr:ro k= .wait i 8 a) (h0:S i=0) (e0:Be k= .idle) (e:∀ u,u≠k->Be u=ro u) (f0:S' i=2) (f:∀ j,j≠i->S' j=S j):Cor n m own Be T S' N O g Q:=by
 obtain ⟨o1,o2,o3,o4,o5⟩:=h.wt k hk i 8 a hr;have hh:∀ r,Q≠i::r:=by rcases h.state hk hr (.inr rfl) with q|q;omega;exact q.2
 obtain ⟨a',ha'⟩:=DR o3 hh;have Io:=λj (q:Dk Q j i)=>M4 h.nodup q ha';refine ⟨h.nodup,h.BP,h.t0,h.tl,?_,?_,?_,?_,?_,?_,?_,?_,?_,h.oq,?_,?_,?_⟩
 ·have:=h.Jp;have:=h.Jp a' i ha';unfold IE at*;grind
 ·have:=h.gs;grind
 ·have:=h.hd;grind
 ·have:=h.wt;grind
 ·have:=h.fr;grind
 ·have:=h.ho;grind
 ·have:=h.de;grind
 ·have:=h.dd;grind
 ·have:=h.df;grind
 ·have:=h.ob;grind
 ·have:=h.u3;grind
 ·have:=h.u4;grind
theorem JO {r:List Nat} (h:Cor n m own ro T S N O g (i::r)):(r=[]/\N i=0)\/∃ j r',r=j::r'/\(1<=j/\j<=m)/\((N i=0/\ro (own j)= .wait j 6 i)\/(N i=(j:Int)/\(S j=0\/S j=2))):=by
 cases r with
 |nil=>exact .inl ⟨rfl,(h.tl i F9).2⟩
 |cons j r'=>
  have hl:=h.Jp i j Ff;have:=(h.BP j (by simp)).1;unfold IE at hl;exact .inr ⟨j,r',rfl,this,by grind⟩
theorem YX {r:List Nat} (h:Cor n m own ro T S N O g (i::r)):(T=(i:Int)↔r=[]):=by
 constructor
 ·intro q
  cases r with
  |nil=>rfl
  |cons j r'=>
   obtain ⟨k,hk⟩:=G0 (Q:=j::r') (by simp);have:=(h.tl k (F8 hk)).1;have hm:=C6 hk;have hn:=(List.nodup_cons.1 h.nodup).1;have:k=i:=by omega
   subst this;exact absurd hm hn
 ·rintro rfl
  exact (h.tl i F9).1
theorem O6 (h:Cor n m own ro T S N O (some k) Q) (hk:k<n) {p b p' b':Nat} (hr:ro k= .hold i p b) (e0:Be k= .hold i p' b') (e:∀ u,u≠k->Be u=ro u) (hp:p'<=5) (h3:p'=3->Q≠[i]) (h4:p'=4\/p'=5->∃ r,Q=i::b'::r/\N i=(b':Int)/\(p'=5->S b'=2)):Cor n m own Be T S N O (some k) Q:=by
 refine ⟨h.nodup,h.BP,h.t0,h.tl,?_,?_,λq=>(by cases q),?_,?_,?_,?_,?_,?_,h.oq,?_,?_,?_⟩
 ·exact zz4j
 ·obtain ⟨q1,i0,r0,p0,b0,q2,q3,q4⟩:=h.gs k rfl
  intro t ht;obtain rfl:k=t:=by simpa using ht
  exact ⟨hk,i,r0,p',b',by grind,e0,hp⟩
 ·have:=h.wt;grind
 ·have:=h.fr;grind
 ·have:=h.ho;grind
 ·have:=h.de;grind
 ·have:=h.dd;grind
 ·have:=h.df;grind
 ·have:=h.ob;grind
 ·grind
 ·grind
theorem O5 (h:Cor n m own ro T S N O (some k) [i]) (hk:k<n) {p b:Nat} (hr:ro k= .hold i p b) (e0:Be k= .RR i) (e:∀ u,u≠k->Be u=ro u):Cor n m own Be 0 S N O none []:=by
 have hi:=h.BP i (by simp);have hoi:=h.oq i (by simp);have Yy:=h.de;have jt:=h.fr;have jw:=h.ho;have hwt:=h.wt;refine ⟨by simp,by simp,λ_=>rfl,?_,?_,λt q=>(by cases q),?_,?_,?_,?_,?_,?_,?_,by simp,?_,λt _ _ q=>(by cases q),λt _ _ _ q=>(by cases q)⟩
 ·intro x hx;exact absurd (C6 hx) (by simp)
 ·intro x y hx;exact absurd (AU hx).1 (by simp)
 ·intro _ x r q;cases q
 ·intro u hu x p0 a q
  have:=hwt u hu x p0 a (by grind);grind
 ·exact zz6s
 ·grind
 ·intro u hu x q;by_cases w:u=k<;>grind
 ·exact zz6c
 ·exact zz69
 ·exact zz4w
theorem YL {j:Nat} {r:List Nat} (h:Cor n m own ro T S N O (some k) (i::j::r)) (hk:k<n) {p b:Nat} (hr:ro k= .hold i p b) (hN:N i=(j:Int)) (hS:S j=0) (e0:Be k= .RR i) (e:∀ u,u≠k->Be u=ro u) (f0:S' j=1) (f:∀ x,x≠j->S' x=S x):Cor n m own Be T S' N O none (j::r):=by
 have hi:=h.BP i (by simp);have hj:=h.BP j (by simp);have hoi:=h.oq i (by simp);have Yy:=h.de;have jt:=h.fr;have jw:=h.ho;have hwt:=h.wt;have hnd:=List.nodup_cons.1 h.nodup;have hlk:=h.Jp i j Ff;have ly:∃ p a,ro (own j)= .wait j p a/\(p=7\/p=8):=by unfold IE at hlk;grind
 obtain ⟨pj,aj,m_,m8⟩:=ly;have hno:own j≠k:=by grind
 refine ⟨hnd.2,λx hx=>h.BP x (List.mem_cons_of_mem _ hx),λq=>(by cases q),?_,?_,λt q=>(by cases q),?_,?_,?_,?_,?_,?_,?_,?_,?_,λt _ _ q=>(by cases q),λt _ _ _ q=>(by cases q)⟩
 ·intro x hx;exact h.tl x (F8 hx)
 ·intro x y hx
  have hl:=h.Jp x y (Fe hx);have hy:y≠j:=by have:=Cm hnd.2 hx r;grind
  have hm:=AU hx;unfold IE at*;grind
 ·intro _ x r' q
  obtain ⟨rfl,rfl⟩:j=x/\r=r':=by simpa using q
  exact ⟨f0,pj,aj,by rw [e _ hno];exact m_,m8⟩
 ·intro u hu x p0 a q
  have h1:=hwt u hu x p0 a (by grind);grind
 ·exact zz6s
 ·grind
 ·intro u hu x q;by_cases w:u=k<;>grind
 ·exact zz6c
 ·exact zz69
 ·have:=h.oq;grind
 ·exact zz4w
theorem YN {j:Nat} {r:List Nat} (h:Cor n m own ro T S N O (some k) (i::j::r)) (hk:k<n) {p b:Nat} (hr:ro k= .hold i p b) (hS:S j=2) {c:Nat} (e0:Be k= .hold j 1 c) (e:∀ u,u≠k->Be u=ro u) (f0:O' i=0) (f:∀ x,x≠i->O' x=O x):Cor n m own Be T S N O' (some k) (j::r):=by
 have hi:=h.BP i (by simp);have hj:=h.BP j (by simp);have hoi:=h.oq i (by simp);have Yy:=h.de;have jt:=h.fr;have jw:=h.ho;have hwt:=h.wt;have hnd:=List.nodup_cons.1 h.nodup;refine ⟨hnd.2,λx hx=>h.BP x (List.mem_cons_of_mem _ hx),λq=>(by cases q),λx hx=>h.tl x (F8 hx),?_,?_,λq=>(by cases q),?_,?_,?_,?_,?_,?_,?_,?_,?_,?_⟩
 ·intro x y hx
  have hl:=h.Jp x y (Fe hx);unfold IE at*;grind
 ·intro t ht
  obtain rfl:k=t:=by simpa using ht
  exact ⟨hk,j,r,1,c,rfl,e0,by omega⟩
 ·intro u hu x p0 a q
  have h1:=hwt u hu x p0 a (by grind);grind
 ·exact zz6s
 ·grind
 ·intro u hu x q;by_cases w:u=k<;>grind
 ·have:=h.dd;grind
 ·have:=h.df;grind
 ·have:=h.oq;grind
 ·exact zz4w
 ·grind
 ·grind
theorem cY (h:Cor n m own ro T S N O g Q) (hk:k<n) (hr:ro k= .RR i) (e0:Be k= .idle) (e:∀ u,u≠k->Be u=ro u) (f0:O' i=0) (f:∀ x,x≠i->O' x=O x):Cor n m own Be T S N O' g Q:=by
 obtain ⟨o1,o2,o3⟩:=h.de k hk i hr;refine ⟨h.nodup,h.BP,h.t0,h.tl,?_,?_,?_,?_,?_,?_,?_,?_,?_,?_,?_,?_,?_⟩
 ·exact zz4j
 ·have:=h.gs;grind
 ·have:=h.hd;grind
 ·have:=h.wt;grind
 ·have:=h.fr;have:=h.df;intro u hu x p0 q;by_cases w:u=k<;>grind
 ·have:=h.ho;grind
 ·have:=h.de;have:=h.dd;intro u hu x q;by_cases w:u=k<;>grind
 ·have:=h.dd;grind
 ·have:=h.df;grind
 ·have:=h.oq;grind
 ·exact zz4w
 ·have:=h.u3;grind
 ·have:=h.u4;grind
theorem waits (h:Cor n m own ro T S N O g Q) {j:Nat} (hj:j∈(match g with|none=>Q|some _=>Q.tail)) (h2:S j≠2):∃ p a,ro (own j)= .wait j p a:=by
 cases hg:g with
 |none=>
  rw [hg] at hj;by_cases hh:∃ r,Q=j::r
  ·obtain ⟨r,hh⟩:=hh
   obtain ⟨_,p,a,q,_⟩:=h.hd hg j r hh;exact ⟨p,a,q⟩
  ·obtain ⟨x,hx⟩:=DR hj λr q=>hh ⟨r,q⟩
   have:=h.Jp x j hx;unfold IE at this;grind
 |some t=>
  rw [hg] at hj;obtain ⟨_,i,r,p,b,hQ,_⟩:=h.gs t hg;have hj:j∈r:=by rw [hQ] at hj;exact hj
  obtain ⟨x,hx⟩:=DR (Q:=Q) (j:=j) (by rw [hQ];exact List.mem_cons_of_mem _ hj) λr' q=>by
   rw [hQ] at q;have hn:=h.nodup;rw [hQ] at hn;obtain ⟨rfl,_⟩:i=j/\r=r':=by simpa using q
   exact (List.nodup_cons.1 hn).1 hj
  have:=h.Jp x j hx;unfold IE at this;grind
end Cor
def rest (g:Option Nat) (Q:List Nat):List Nat:=match g with|none=>Q|some _=>Q.tail
def Fw (own:Nat->Nat) (S:Nat->Int) (R:List Nat):List Nat:=(R.filter λj=>decide (S j≠2)).map own
section
variable {n m:Nat} {own:Nat->Nat} {ro:Nat->Ro} {T:Int} {S N O S':Nat->Int} {g:Option Nat} {Q R:List Nat} {i k:Nat}
theorem Fx (h:S i≠2):Fw own S (i::R)=own i::Fw own S R:=by unfold Fw;rw [List.filter_cons_of_pos (by simpa using h)];rfl
theorem Jj (h:S i=2):Fw own S (i::R)=Fw own S R:=by unfold Fw;rw [List.filter_cons_of_neg (by simpa using h)]
theorem Wj (h:S i≠2):Fw own S (R++[i])=Fw own S R++[own i]:=by unfold Fw;rw [List.filter_append,List.map_append,List.filter_cons_of_pos (by simpa using h)];rfl
theorem Yl {t:Nat}:t∈Fw own S R↔∃ j,j∈R/\S j≠2/\own j=t:=by
 unfold Fw;rw [List.mem_map];constructor
 ·rintro ⟨j,hj,e⟩
  rw [List.mem_filter] at hj;exact ⟨j,hj.1,by simpa using hj.2,e⟩
 ·rintro ⟨j,h1,h2,e⟩
  exact ⟨j,List.mem_filter.2 ⟨h1,by simpa using h2⟩,e⟩
theorem PZ (h:∀ j∈R,(S' j=2↔S j=2)):Fw own S' R=Fw own S R:=by
 unfold Fw
 congr 1
 refine List.filter_congr λj hj=> ?_;have:=h j hj;by_cases q:S j=2<;>simp [q,this]
theorem N7 (h:∀ j∈R,S j≠2->∃ p a,ro (own j)= .wait j p a) (hn:R.Nodup):(Fw own S R).Nodup:=by
 induction R with
 |nil=>exact List.nodup_nil
 |cons x r ih=>
  have kB:=List.nodup_cons.1 hn;have ih:=ih (λj hj=>h j (List.mem_cons_of_mem _ hj)) kB.2;by_cases q:S x=2
  ·rw [Jj q];exact ih
  ·rw [Fx q]
   refine List.nodup_cons.2 ⟨λhm=> ?_,ih⟩;obtain ⟨j,h1,h2,h3⟩:=Yl.1 hm;obtain ⟨p,a,e⟩:=h x List.mem_cons_self q;obtain ⟨p',a',e'⟩:=h j (List.mem_cons_of_mem _ h1) h2;rw [h3,e] at e';obtain ⟨rfl,_⟩:x=j/\_:=by simpa using e'
   exact kB.1 h1
theorem da (h:∀ j∈R,S j≠2->∃ p a,ro (own j)= .wait j p a) (hi:S i≠2) (hR:i∈R) (f0:S' i=2) (f:∀ j,j≠i->S' j=S j):Fw own S' R=(Fw own S R).filter λt=>decide (t≠own i):=by
 obtain ⟨p,a,e⟩:=h i hR hi;have key:∀ R',(∀ j∈R',j∈R)->Fw own S' R'=(Fw own S R').filter λt=>decide (t≠own i):=by
  intro R';induction R' with
  |nil=>intro _;rfl
  |cons x r ih=>
   intro hs;have ih:=ih λj hj=>hs j (List.mem_cons_of_mem _ hj);by_cases w:x=i
   ·subst w
    rw [Jj f0,Fx hi,List.filter_cons_of_neg (by simp)];exact ih
   ·by_cases q:S x=2
    ·rw [Jj q,Jj ((f x w).trans q)];exact ih
    ·rw [Fx q,Fx (by rw [f x w];exact q)]
     obtain ⟨p',a',e'⟩:=h x (hs x List.mem_cons_self) q;have hne:own x≠own i:=λw2=>by
      rw [w2,e] at e';obtain ⟨w3,_⟩:i=x/\_:=by simpa using e'
      exact w w3.symm
     rw [List.filter_cons_of_pos (by simpa using hne),ih]
 exact key R λ_ h=>h
end
end Go.Proofs.YtmnephejhkfchaaGreat.Ka
