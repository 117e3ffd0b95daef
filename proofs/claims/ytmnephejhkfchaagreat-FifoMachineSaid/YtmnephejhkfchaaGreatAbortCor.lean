import Derived.Test.YtmnephejhkfchaaGreatCoVia
namespace Go.Proofs.YtmnephejhkfchaaGreat.Ka
set_option linter.unusedVariables false
set_option maxRecDepth 100000
theorem split_uniq {Q A A' X X':List Nat} {i:Nat} (hn:Q.Nodup) (h:Q=A++i::X) (h':Q=A'++i::X'):A=A'∧X=X':=by
 induction A generalizing Q A' with
 |nil=>
  cases A' with
  |nil=>rw [h] at h';exact ⟨rfl,by simpa using h'⟩
  |cons a r=>
   rw [h] at h' hn
   obtain ⟨rfl,e⟩:i=a∧X=r++i::X':=by simpa using h'
   rw [e] at hn
   simp at hn
 |cons a r ih=>
  cases A' with
  |nil=>
   rw [h'] at h hn
   obtain ⟨rfl,e⟩:i=a∧X'=r++i::X:=by simpa using h
   rw [e] at hn
   simp at hn
  |cons a' r'=>
   rw [h] at h' hn
   obtain ⟨rfl,e⟩:a=a'∧r++i::X=r'++i::X':=by simpa using h'
   obtain ⟨x,y⟩:=ih (List.nodup_cons.1 hn).2 rfl e
   exact ⟨by rw [x],y⟩
def Adj (Q:List Nat) (i j:Nat):Prop:=∃ A B,Q=A++i::j::B
def Last (Q:List Nat) (k:Nat):Prop:=∃ A,Q=A++[k]
section
variable {Q:List Nat} {i j k:Nat}
theorem adj_next (hn:Q.Nodup) {j':Nat} (h:Adj Q i j) (h':Adj Q i j'):j=j':=by
 obtain ⟨A,B,h⟩:=h
 obtain ⟨A',B',h'⟩:=h'
 have:=(split_uniq hn h h').2
 simp at this
 exact this.1
theorem adj_prev (hn:Q.Nodup) {i':Nat} (h:Adj Q i j) (h':Adj Q i' j):i=i':=by
 obtain ⟨A,B,h⟩:=h
 obtain ⟨A',B',h'⟩:=h'
 have:=(split_uniq hn (A:=A++[i]) (A':=A'++[i']) (i:=j) (X:=B) (X':=B') (by simpa using h) (by simpa using h')).1
 have:=congrArg List.getLast? this
 simpa using this
theorem adj_mem (h:Adj Q i j):i∈Q∧j∈Q:=by
 obtain ⟨A,B,rfl⟩:=h
 simp
theorem adj_ne (hn:Q.Nodup) (h:Adj Q i j):i≠j:=by
 obtain ⟨A,B,rfl⟩:=h
 intro e
 subst e
 have:=(List.nodup_append.1 hn).2.1
 simp at this
theorem adj_last (hn:Q.Nodup) (h:Adj Q i j):¬ Last Q i:=by
 obtain ⟨A,B,h⟩:=h
 rintro ⟨A',h'⟩
 have:=(split_uniq hn h (A':=A') (X':=[]) h').2
 cases this
theorem last_mem (h:Last Q k):k∈Q:=by obtain ⟨A,rfl⟩:=h;simp
theorem last_uniq {k':Nat} (h:Last Q k) (h':Last Q k'):k=k':=by
 obtain ⟨A,rfl⟩:=h
 obtain ⟨A',h'⟩:=h'
 have:=congrArg List.getLast? h'
 simpa using this
theorem last_ex (h:Q≠[]):∃ k,Last Q k:=⟨Q.getLast h,Q.dropLast,(List.dropLast_concat_getLast h).symm⟩
theorem adj_head {r:List Nat}:Adj (i::j::r) i j:=⟨[],r,rfl⟩
theorem adj_cons (h:Adj Q i j):Adj (k::Q) i j:=by obtain ⟨A,B,rfl⟩:=h;exact ⟨k::A,B,rfl⟩
theorem last_cons (h:Last Q i):Last (k::Q) i:=by obtain ⟨A,rfl⟩:=h;exact ⟨k::A,rfl⟩
theorem last_one:Last [i] i:=⟨[],rfl⟩
theorem last_of_one (h:Last [i] j):j=i:=by have:=last_uniq h last_one;exact this
theorem not_adj_one:¬ Adj [i] j k:=by
 rintro ⟨A,B,h⟩
 cases A with
 |nil=>simp at h
 |cons a r=>simp at h
theorem last_more (h:Last (Q++[k]) j):j=k:=last_uniq h ⟨Q,rfl⟩
theorem adj_more (h:Adj (Q++[k]) i j):Adj Q i j∨(Last Q i∧j=k):=by
 obtain ⟨A,B,h⟩:=h
 rcases List.eq_nil_or_concat B with rfl|⟨B',b,rfl⟩
 ·have h:Q++[k]=(A++[i])++[j]:=by simpa using h
  obtain ⟨e1,e2⟩:=List.append_inj' h rfl
  exact .inr ⟨⟨A,e1⟩,by simpa using e2.symm⟩
 ·have h:Q++[k]=(A++i::j::B')++[b]:=by simpa using h
  obtain ⟨e1,e2⟩:=List.append_inj' h rfl
  exact .inl ⟨A,B',e1⟩
theorem adj_of (h:j∈Q) (hh:∀ r,Q≠j::r):∃ i,Adj Q i j:=by
 obtain ⟨A,B,rfl⟩:=List.append_of_mem h
 rcases List.eq_nil_or_concat A with rfl|⟨A',a,rfl⟩
 ·exact absurd rfl (hh B)
 ·exact ⟨a,A',B,by simp⟩
theorem adj_not_head (hn:Q.Nodup) (h:Adj Q i j) (r:List Nat):Q≠j::r:=by
 obtain ⟨A,B,rfl⟩:=h
 intro e
 have:=(split_uniq hn (A:=A++[i]) (A':=[]) (i:=j) (X:=B) (X':=r) (by simp) e).1
 simp at this
end
inductive Ro where
 |idle
 |look
 |fresh (i p:Nat)
 |wait (i p a:Nat)
 |hold (i p b:Nat)
 |det (i:Nat)
def Lnk (ro:Nat→Ro) (own:Nat→Nat) (S N:Nat→Int) (i j:Nat):Prop:=
 (N i=0∧ro (own j)= .wait j 6 i∧S j=0)∨(N i=(j:Int)∧S j=0∧∃ p a,ro (own j)= .wait j p a∧(p=7∨p=8))∨(N i=(j:Int)∧S j=2)
structure Cor (n m:Nat) (own:Nat→Nat) (ro:Nat→Ro) (T:Int) (S N O:Nat→Int) (g:Option Nat) (Q:List Nat):Prop where
 nodup:Q.Nodup
 rng:∀ i∈Q,(1≤i∧i≤m)∧own i<n
 t0:Q=[]→T=0
 tl:∀ k,Last Q k→T=(k:Int)∧N k=0
 adj:∀ i j,Adj Q i j→Lnk ro own S N i j
 gs:∀ t,g=some t→t<n∧∃ (i:Nat) (r:List Nat) (p b:Nat),Q=i::r∧ro t= .hold i p b∧p≤5
 hd:g=none→∀ (i:Nat) (r:List Nat),Q=i::r→S i=1∧∃ p a,ro (own i)= .wait i p a∧(p=7∨p=8)
 wt:∀ u,u<n→∀ i p a,ro u= .wait i p a→own i=u∧(p=6∨p=7∨p=8)∧i∈Q∧S i≠2∧(g≠none→∀ r:List Nat,Q≠i::r)
 fr:∀ u,u<n→∀ i p,ro u= .fresh i p→own i=u∧(1≤i∧i≤m)∧i∉Q∧(2≤p∧p≤5)∧(p=2→O i=0)∧(3≤p→O i=1)∧(4≤p→S i=0)∧(p=5→N i=0)
 ho:∀ u,u<n→∀ i p b,ro u= .hold i p b→g=some u
 de:∀ u,u<n→∀ i,ro u= .det i→(1≤i∧i≤m)∧i∉Q∧O i=1
 dd:∀ u v,u<n→v<n→∀ i,ro u= .det i→ro v= .det i→u=v
 df:∀ u v,u<n→v<n→∀ i p,ro u= .det i→ro v= .fresh i p→False
 oq:∀ i∈Q,O i=1
 ob:∀ i,1≤i→i≤m→O i=0∨(O i=1∧(i∈Q∨(∃ u,u<n∧∃ p,3≤p∧ro u= .fresh i p)∨(∃ u,u<n∧ro u= .det i)))
 u3:∀ t i b,g=some t→ro t= .hold i 3 b→Q≠[i]
 u4:∀ t i b p,g=some t→ro t= .hold i p b→p=4∨p=5→∃ r,Q=i::b::r∧N i=(b:Int)∧(p=5→S b=2)
namespace Cor
variable {n m:Nat} {own:Nat→Nat} {ro ro':Nat→Ro} {T:Int} {S N O S' N' O':Nat→Int} {g:Option Nat} {Q:List Nat} {k i:Nat}
theorem s_plain (h:Cor n m own ro T S N O g Q) (hk:k<n) (hr:ro k= .idle∨ro k= .look) (e0:ro' k= .idle∨ro' k= .look) (e:∀ u,u≠k→ro' u=ro u):Cor n m own ro' T S N O g Q:=by
 refine ⟨h.nodup,h.rng,h.t0,h.tl,?_,?_,?_,?_,?_,?_,?_,?_,?_,h.oq,?_,?_,?_⟩
 ·have:=h.adj;unfold Lnk at*;grind
 ·have:=h.gs;grind
 ·have:=h.hd;grind
 ·have:=h.wt;grind
 ·have:=h.fr;intro u hu i' p' h';by_cases q:u=k<;>grind
 ·have:=h.ho;grind
 ·have:=h.de;grind
 ·have:=h.dd;grind
 ·have:=h.df;intro u v hu hv i' p' h1 h2;by_cases q:v=k<;>grind
 ·have:=h.ob;grind
 ·have:=h.u3;grind
 ·have:=h.u4;grind
theorem s_pick (h:Cor n m own ro T S N O g Q) (hk:k<n) (hr:ro k= .look) (hi:(1≤i∧i≤m)∧own i=k) (ho:O i=0) (e0:ro' k= .fresh i 2) (e:∀ u,u≠k→ro' u=ro u):Cor n m own ro' T S N O g Q:=by
 have hq:i∉Q:=λq=>by have:=h.oq i q;omega
 refine ⟨h.nodup,h.rng,h.t0,h.tl,?_,?_,?_,?_,?_,?_,?_,?_,?_,h.oq,?_,?_,?_⟩
 ·have:=h.adj;unfold Lnk at*;grind
 ·have:=h.gs;grind
 ·have:=h.hd;grind
 ·have:=h.wt;grind
 ·have:=h.fr;intro u hu i' p' h';by_cases q:u=k<;>grind
 ·have:=h.ho;grind
 ·have:=h.de;grind
 ·have:=h.dd;grind
 ·have:=h.df;have:=h.de;intro u v hu hv i' p' h1 h2;by_cases q:v=k<;>grind
 ·have:=h.ob;grind
 ·have:=h.u3;grind
 ·have:=h.u4;grind
theorem s_out (h:Cor n m own ro T S N O g Q) (hk:k<n) (hr:ro k= .fresh i 2) (e0:ro' k= .fresh i 3) (e:∀ u,u≠k→ro' u=ro u) (f0:O' i=1) (f:∀ j,j≠i→O' j=O j):Cor n m own ro' T S N O' g Q:=by
 obtain ⟨o1,o2,o3,o4,o5,o6,o7,o8⟩:=h.fr k hk i 2 hr
 refine ⟨h.nodup,h.rng,h.t0,h.tl,?_,?_,?_,?_,?_,?_,?_,?_,?_,?_,?_,?_,?_⟩
 ·have:=h.adj;unfold Lnk at*;grind
 ·have:=h.gs;grind
 ·have:=h.hd;grind
 ·have:=h.wt;grind
 ·have:=h.fr;intro u hu i' p' h';by_cases q:u=k<;>grind
 ·have:=h.ho;grind
 ·have:=h.de;grind
 ·have:=h.dd;grind
 ·have:=h.df;have:=h.de;intro u v hu hv i' p' h1 h2;by_cases q:v=k<;>grind
 ·have:=h.oq;grind
 ·have:=h.ob;grind
 ·have:=h.u3;grind
 ·have:=h.u4;grind
theorem s_st (h:Cor n m own ro T S N O g Q) (hk:k<n) (hr:ro k= .fresh i 3) (e0:ro' k= .fresh i 4) (e:∀ u,u≠k→ro' u=ro u) (f0:S' i=0) (f:∀ j,j≠i→S' j=S j):Cor n m own ro' T S' N O g Q:=by
 obtain ⟨o1,o2,o3,o4,o5,o6,o7,o8⟩:=h.fr k hk i 3 hr
 refine ⟨h.nodup,h.rng,h.t0,h.tl,?_,?_,?_,?_,?_,?_,?_,?_,?_,h.oq,?_,?_,?_⟩
 ·have:=h.adj;have ha:=λi j (h:Adj Q i j)=>adj_mem h;unfold Lnk at*;grind
 ·have:=h.gs;grind
 ·have:=h.hd;grind
 ·have:=h.wt;grind
 ·have:=h.fr;intro u hu i' p' h';by_cases q:u=k<;>grind
 ·have:=h.ho;grind
 ·have:=h.de;grind
 ·have:=h.dd;grind
 ·have:=h.df;have:=h.de;intro u v hu hv i' p' h1 h2;by_cases q:v=k<;>grind
 ·have:=h.ob;grind
 ·have:=h.u3;grind
 ·have:=h.u4;grind
theorem s_nx (h:Cor n m own ro T S N O g Q) (hk:k<n) (hr:ro k= .fresh i 4) (e0:ro' k= .fresh i 5) (e:∀ u,u≠k→ro' u=ro u) (f0:N' i=0) (f:∀ j,j≠i→N' j=N j):Cor n m own ro' T S N' O g Q:=by
 obtain ⟨o1,o2,o3,o4,o5,o6,o7,o8⟩:=h.fr k hk i 4 hr
 have ha:=λi j (h:Adj Q i j)=>adj_mem h
 have hl:=λk (h:Last Q k)=>last_mem h
 refine ⟨h.nodup,h.rng,h.t0,?_,?_,?_,?_,?_,?_,?_,?_,?_,?_,h.oq,?_,?_,?_⟩
 ·have:=h.tl;grind
 ·have:=h.adj;unfold Lnk at*;grind
 ·have:=h.gs;grind
 ·have:=h.hd;grind
 ·have:=h.wt;grind
 ·have:=h.fr;intro u hu i' p' h';by_cases q:u=k<;>grind
 ·have:=h.ho;grind
 ·have:=h.de;grind
 ·have:=h.dd;grind
 ·have:=h.df;have:=h.de;intro u v hu hv i' p' h1 h2;by_cases q:v=k<;>grind
 ·have:=h.ob;grind
 ·have:=h.u3;grind
 ·have:=h.u4;grind
theorem s_enq0 (h:Cor n m own ro T S N O none []) (hk:k<n) (hr:ro k= .fresh i 5) {c:Nat} (e0:ro' k= .hold i 0 c) (e:∀ u,u≠k→ro' u=ro u):Cor n m own ro' (i:Int) S N O (some k) [i]:=by
 obtain ⟨o1,o2,o3,o4,o5,o6,o7,o8⟩:=h.fr k hk i 5 hr
 refine ⟨by simp,?_,λq=>(by cases q),?_,λa b q=>absurd q not_adj_one,?_,λq=>(by cases q),?_,?_,?_,?_,?_,?_,?_,?_,?_,?_⟩
 ·grind
 ·intro j hj;have:=last_of_one hj;grind
 ·grind
 ·have:=h.wt;grind
 ·have:=h.fr;intro u hu i' p' h';by_cases q:u=k<;>grind
 ·have:=h.ho;grind
 ·have:=h.de;have:=h.df;grind
 ·have:=h.dd;grind
 ·have:=h.df;grind
 ·grind
 ·have:=h.ob;grind
 ·grind
 ·grind
theorem s_enq (h:Cor n m own ro T S N O g Q) (h0:Q≠[]) (hk:k<n) (hr:ro k= .fresh i 5) {a:Nat} (ha:Last Q a) (e0:ro' k= .wait i 6 a) (e:∀ u,u≠k→ro' u=ro u):Cor n m own ro' (i:Int) S N O g (Q++[i]):=by
 obtain ⟨o1,o2,o3,o4,o5,o6,o7,o8⟩:=h.fr k hk i 5 hr
 have hla:=λb (hb:Last Q b)=>last_uniq hb ha
 have hta:=h.tl a ha
 have hmm:=λi j (h:Adj Q i j)=>adj_mem h
 have hmo:=λx y (q:Adj (Q++[i]) x y)=>adj_more q
 have hlm:=λy (q:Last (Q++[i]) y)=>last_more q
 have hwt:=h.wt
 have hnl:=h.fr
 have hq:∃ x r,Q=x::r:=by cases Q with|nil=>exact absurd rfl h0|cons x r=>exact ⟨x,r,rfl⟩
 obtain ⟨x,r,hxr⟩:=hq
 have hq2:Q++[i]=x::(r++[i]):=by rw [hxr];rfl
 refine ⟨?_,?_,?_,?_,?_,?_,?_,?_,?_,?_,?_,?_,?_,?_,?_,?_,?_⟩
 ·have:=h.nodup;grind
 ·have:=h.rng;grind
 ·grind
 ·grind
 ·have:=h.adj;unfold Lnk at*;grind
 ·have:=h.gs;grind
 ·have:=h.hd;grind
 ·intro u hu i' p' a' h';by_cases q:u=k<;>grind
 ·intro u hu i' p' h';by_cases q:u=k<;>grind
 ·have:=h.ho;grind
 ·have:=h.de;have:=h.df;grind
 ·have:=h.dd;grind
 ·have:=h.df;intro u v hu hv i' p' h1 h2;by_cases q:v=k<;>grind
 ·have:=h.oq;grind
 ·have:=h.ob;grind
 ·intro t j b q1 q2 q3
  rw [hq2] at q3
  simp at q3
 ·intro t i0 b p0 q1 q2 q3
  obtain ⟨r0,x1,x2,x3⟩:=h.u4 t i0 b p0 q1 (by grind) q3
  exact ⟨r0++[i],by rw [x1];rfl,x2,x3⟩
theorem s_nxt (h:Cor n m own ro T S N O g Q) (hk:k<n) {a:Nat} (hr:ro k= .wait i 6 a) (e0:ro' k= .wait i 7 a) (e:∀ u,u≠k→ro' u=ro u) (f0:N' a=(i:Int)) (f:∀ j,j≠a→N' j=N j):Adj Q a i∧Cor n m own ro' T S N' O g Q:=by
 obtain ⟨o1,o2,o3,o4,o5⟩:=h.wt k hk i 6 a hr
 have hnh:∀ r,Q≠i::r:=by
  cases hg:g with
  |none=>intro r q;have:=h.hd hg i r q;grind
  |some t=>exact o5 (by rw [hg];simp)
 obtain ⟨a',ha'⟩:=adj_of o3 hnh
 have hlk:=h.adj a' i ha'
 obtain rfl:a'=a:=by unfold Lnk at hlk;rw [o1,hr] at hlk;grind
 refine ⟨ha',?_⟩
 have hnn:=λj (q:Adj Q a' j)=>adj_next h.nodup q ha'
 have hnp:=λj (q:Adj Q j i)=>adj_prev h.nodup q ha'
 have hnl:=adj_last h.nodup ha'
 have hma:=adj_mem ha'
 have hne:=adj_ne h.nodup ha'
 refine ⟨h.nodup,h.rng,h.t0,?_,?_,?_,?_,?_,?_,?_,?_,?_,?_,h.oq,?_,?_,?_⟩
 ·have:=h.tl;grind
 ·have:=h.adj;unfold Lnk at*;grind
 ·have:=h.gs;grind
 ·have:=h.hd;grind
 ·have:=h.wt;intro u hu i' p' a' h';by_cases q:u=k<;>grind
 ·have:=h.fr;intro u hu i' p' h';by_cases q:u=k<;>grind
 ·have:=h.ho;grind
 ·have:=h.de;grind
 ·have:=h.dd;grind
 ·have:=h.df;grind
 ·have:=h.ob;grind
 ·have:=h.u3;grind
 ·intro t i0 b p0 q1 q2 q3
  obtain ⟨r0,x1,x2,x3⟩:=h.u4 t i0 b p0 q1 (by grind) q3
  have hx:Adj Q i0 b:=by rw [x1];exact adj_head
  exact ⟨r0,x1,by grind,x3⟩
theorem state (h:Cor n m own ro T S N O g Q) (hk:k<n) {p a:Nat} (hr:ro k= .wait i p a) (hp:p=7∨p=8):(g=none∧(∃ r,Q=i::r)∧S i=1)∨(S i=0∧∀ r,Q≠i::r):=by
 obtain ⟨o1,o2,o3,o4,o5⟩:=h.wt k hk i p a hr
 by_cases hh:∃ r,Q=i::r
 ·obtain ⟨r,hh⟩:=hh
  cases hg:g with
  |none=>exact .inl ⟨rfl,⟨r,hh⟩,(h.hd hg i r hh).1⟩
  |some t=>exact absurd hh (o5 (by rw [hg];simp) r)
 ·have hh:∀ r,Q≠i::r:=λr q=>hh ⟨r,q⟩
  obtain ⟨a',ha'⟩:=adj_of o3 hh
  have hlk:=h.adj a' i ha'
  unfold Lnk at hlk
  exact .inr ⟨by grind,hh⟩
theorem s_late (h:Cor n m own ro T S N O g Q) (hk:k<n) {a:Nat} (hr:ro k= .wait i 7 a) (e0:ro' k= .wait i 8 a) (e:∀ u,u≠k→ro' u=ro u):Cor n m own ro' T S N O g Q:=by
 refine ⟨h.nodup,h.rng,h.t0,h.tl,?_,?_,?_,?_,?_,?_,?_,?_,?_,h.oq,?_,?_,?_⟩
 ·have:=h.adj;have:=h.wt k hk i 7 a hr;unfold Lnk at*;grind
 ·have:=h.gs;grind
 ·have:=h.hd;have:=h.wt k hk i 7 a hr;grind
 ·have:=h.wt;intro u hu i' p' a' h';by_cases q:u=k<;>grind
 ·have:=h.fr;grind
 ·have:=h.ho;grind
 ·have:=h.de;grind
 ·have:=h.dd;grind
 ·have:=h.df;grind
 ·have:=h.ob;grind
 ·have:=h.u3;grind
 ·have:=h.u4;grind
theorem s_grant {r:List Nat} (h:Cor n m own ro T S N O none (i::r)) (hk:k<n) {p a c:Nat} (hr:ro k= .wait i p a) (e0:ro' k= .hold i 0 c) (e:∀ u,u≠k→ro' u=ro u):Cor n m own ro' T S N O (some k) (i::r):=by
 obtain ⟨o1,o2,o3,o4,o5⟩:=h.wt k hk i p a hr
 have hnh:=λx j (q:Adj (i::r) x j) r'=>adj_not_head h.nodup q r'
 refine ⟨h.nodup,h.rng,h.t0,h.tl,?_,?_,λq=>(by cases q),?_,?_,?_,?_,?_,?_,h.oq,?_,?_,?_⟩
 ·have:=h.adj;unfold Lnk at*;intro x j hx;have:=hnh x j hx r;grind
 ·grind
 ·have:=h.wt;grind
 ·have:=h.fr;grind
 ·have:=h.ho;grind
 ·have:=h.de;grind
 ·have:=h.dd;grind
 ·have:=h.df;grind
 ·have:=h.ob;grind
 ·grind
 ·grind
theorem s_up (h:Cor n m own ro T S N O g Q) (hk:k<n) {a:Nat} (hr:ro k= .wait i 8 a) (h0:S i=0) (e0:ro' k= .idle) (e:∀ u,u≠k→ro' u=ro u) (f0:S' i=2) (f:∀ j,j≠i→S' j=S j):Cor n m own ro' T S' N O g Q:=by
 obtain ⟨o1,o2,o3,o4,o5⟩:=h.wt k hk i 8 a hr
 have hh:∀ r,Q≠i::r:=by rcases h.state hk hr (.inr rfl) with q|q;omega;exact q.2
 obtain ⟨a',ha'⟩:=adj_of o3 hh
 have hnp:=λj (q:Adj Q j i)=>adj_prev h.nodup q ha'
 refine ⟨h.nodup,h.rng,h.t0,h.tl,?_,?_,?_,?_,?_,?_,?_,?_,?_,h.oq,?_,?_,?_⟩
 ·have:=h.adj;have:=h.adj a' i ha';unfold Lnk at*;grind
 ·have:=h.gs;grind
 ·have:=h.hd;grind
 ·have:=h.wt;grind
 ·have:=h.fr;grind
 ·have:=h.ho;grind
 ·have:=h.de;grind
 ·have:=h.dd;grind
 ·have:=h.df;grind
 ·have:=h.ob;grind
 ·have:=h.u3;grind
 ·have:=h.u4;grind
theorem nextOf {r:List Nat} (h:Cor n m own ro T S N O g (i::r)):(r=[]∧N i=0)∨∃ j r',r=j::r'∧(1≤j∧j≤m)∧((N i=0∧ro (own j)= .wait j 6 i)∨(N i=(j:Int)∧(S j=0∨S j=2))):=by
 cases r with
 |nil=>exact .inl ⟨rfl,(h.tl i last_one).2⟩
 |cons j r'=>
  have hl:=h.adj i j adj_head
  have:=(h.rng j (by simp)).1
  unfold Lnk at hl
  exact .inr ⟨j,r',rfl,this,by grind⟩
theorem tailOf {r:List Nat} (h:Cor n m own ro T S N O g (i::r)):(T=(i:Int)↔r=[]):=by
 constructor
 ·intro q
  cases r with
  |nil=>rfl
  |cons j r'=>
   obtain ⟨k,hk⟩:=last_ex (Q:=j::r') (by simp)
   have:=(h.tl k (last_cons hk)).1
   have hm:=last_mem hk
   have hn:=(List.nodup_cons.1 h.nodup).1
   have:k=i:=by omega
   subst this
   exact absurd hm hn
 ·rintro rfl
  exact (h.tl i last_one).1
theorem s_un (h:Cor n m own ro T S N O (some k) Q) (hk:k<n) {p b p' b':Nat} (hr:ro k= .hold i p b) (e0:ro' k= .hold i p' b') (e:∀ u,u≠k→ro' u=ro u) (hp:p'≤5) (h3:p'=3→Q≠[i]) (h4:p'=4∨p'=5→∃ r,Q=i::b'::r∧N i=(b':Int)∧(p'=5→S b'=2)):Cor n m own ro' T S N O (some k) Q:=by
 refine ⟨h.nodup,h.rng,h.t0,h.tl,?_,?_,λq=>(by cases q),?_,?_,?_,?_,?_,?_,h.oq,?_,?_,?_⟩
 ·have:=h.adj;unfold Lnk at*;grind
 ·obtain ⟨q1,i0,r0,p0,b0,q2,q3,q4⟩:=h.gs k rfl
  intro t ht
  obtain rfl:k=t:=by simpa using ht
  exact ⟨hk,i,r0,p',b',by grind,e0,hp⟩
 ·have:=h.wt;grind
 ·have:=h.fr;grind
 ·have:=h.ho;grind
 ·have:=h.de;grind
 ·have:=h.dd;grind
 ·have:=h.df;grind
 ·have:=h.ob;grind
 ·grind
 ·grind
theorem s_free (h:Cor n m own ro T S N O (some k) [i]) (hk:k<n) {p b:Nat} (hr:ro k= .hold i p b) (e0:ro' k= .det i) (e:∀ u,u≠k→ro' u=ro u):Cor n m own ro' 0 S N O none []:=by
 have hi:=h.rng i (by simp)
 have hoi:=h.oq i (by simp)
 have hde:=h.de
 have hfr:=h.fr
 have hho:=h.ho
 have hwt:=h.wt
 refine ⟨by simp,by simp,λ_=>rfl,?_,?_,λt q=>(by cases q),?_,?_,?_,?_,?_,?_,?_,by simp,?_,λt _ _ q=>(by cases q),λt _ _ _ q=>(by cases q)⟩
 ·intro x hx;exact absurd (last_mem hx) (by simp)
 ·intro x y hx;exact absurd (adj_mem hx).1 (by simp)
 ·intro _ x r q;cases q
 ·intro u hu x p0 a q
  have:=hwt u hu x p0 a (by grind)
  grind
 ·intro u hu x p0 q;by_cases w:u=k<;>grind
 ·grind
 ·intro u hu x q;by_cases w:u=k<;>grind
 ·have:=h.dd;intro u v hu hv x q1 q2;by_cases w:u=k<;>by_cases w2:v=k<;>grind
 ·have:=h.df;intro u v hu hv x p0 q1 q2;by_cases w:u=k<;>by_cases w2:v=k<;>grind
 ·have:=h.ob;intro x hx1 hx2;by_cases w:x=i<;>grind
theorem s_hand {j:Nat} {r:List Nat} (h:Cor n m own ro T S N O (some k) (i::j::r)) (hk:k<n) {p b:Nat} (hr:ro k= .hold i p b) (hN:N i=(j:Int)) (hS:S j=0) (e0:ro' k= .det i) (e:∀ u,u≠k→ro' u=ro u) (f0:S' j=1) (f:∀ x,x≠j→S' x=S x):Cor n m own ro' T S' N O none (j::r):=by
 have hi:=h.rng i (by simp)
 have hj:=h.rng j (by simp)
 have hoi:=h.oq i (by simp)
 have hde:=h.de
 have hfr:=h.fr
 have hho:=h.ho
 have hwt:=h.wt
 have hnd:=List.nodup_cons.1 h.nodup
 have hlk:=h.adj i j adj_head
 have hlw:∃ p a,ro (own j)= .wait j p a∧(p=7∨p=8):=by unfold Lnk at hlk;grind
 obtain ⟨pj,aj,hwj,hpj⟩:=hlw
 have hno:own j≠k:=by grind
 refine ⟨hnd.2,λx hx=>h.rng x (List.mem_cons_of_mem _ hx),λq=>(by cases q),?_,?_,λt q=>(by cases q),?_,?_,?_,?_,?_,?_,?_,?_,?_,λt _ _ q=>(by cases q),λt _ _ _ q=>(by cases q)⟩
 ·intro x hx;exact h.tl x (last_cons hx)
 ·intro x y hx
  have hl:=h.adj x y (adj_cons hx)
  have hy:y≠j:=by have:=adj_not_head hnd.2 hx r;grind
  have hm:=adj_mem hx
  unfold Lnk at*
  grind
 ·intro _ x r' q
  obtain ⟨rfl,rfl⟩:j=x∧r=r':=by simpa using q
  exact ⟨f0,pj,aj,by rw [e _ hno];exact hwj,hpj⟩
 ·intro u hu x p0 a q
  have h1:=hwt u hu x p0 a (by grind)
  grind
 ·intro u hu x p0 q;by_cases w:u=k<;>grind
 ·grind
 ·intro u hu x q;by_cases w:u=k<;>grind
 ·have:=h.dd;intro u v hu hv x q1 q2;by_cases w:u=k<;>by_cases w2:v=k<;>grind
 ·have:=h.df;intro u v hu hv x p0 q1 q2;by_cases w:u=k<;>by_cases w2:v=k<;>grind
 ·have:=h.oq;grind
 ·have:=h.ob;intro x hx1 hx2;by_cases w:x=i<;>grind
theorem s_over {j:Nat} {r:List Nat} (h:Cor n m own ro T S N O (some k) (i::j::r)) (hk:k<n) {p b:Nat} (hr:ro k= .hold i p b) (hS:S j=2) {c:Nat} (e0:ro' k= .hold j 1 c) (e:∀ u,u≠k→ro' u=ro u) (f0:O' i=0) (f:∀ x,x≠i→O' x=O x):Cor n m own ro' T S N O' (some k) (j::r):=by
 have hi:=h.rng i (by simp)
 have hj:=h.rng j (by simp)
 have hoi:=h.oq i (by simp)
 have hde:=h.de
 have hfr:=h.fr
 have hho:=h.ho
 have hwt:=h.wt
 have hnd:=List.nodup_cons.1 h.nodup
 refine ⟨hnd.2,λx hx=>h.rng x (List.mem_cons_of_mem _ hx),λq=>(by cases q),λx hx=>h.tl x (last_cons hx),?_,?_,λq=>(by cases q),?_,?_,?_,?_,?_,?_,?_,?_,?_,?_⟩
 ·intro x y hx
  have hl:=h.adj x y (adj_cons hx)
  unfold Lnk at*
  grind
 ·intro t ht
  obtain rfl:k=t:=by simpa using ht
  exact ⟨hk,j,r,1,c,rfl,e0,by omega⟩
 ·intro u hu x p0 a q
  have h1:=hwt u hu x p0 a (by grind)
  grind
 ·intro u hu x p0 q;by_cases w:u=k<;>grind
 ·grind
 ·intro u hu x q;by_cases w:u=k<;>grind
 ·have:=h.dd;grind
 ·have:=h.df;grind
 ·have:=h.oq;grind
 ·have:=h.ob;intro x hx1 hx2;by_cases w:x=i<;>grind
 ·grind
 ·grind
theorem s_off (h:Cor n m own ro T S N O g Q) (hk:k<n) (hr:ro k= .det i) (e0:ro' k= .idle) (e:∀ u,u≠k→ro' u=ro u) (f0:O' i=0) (f:∀ x,x≠i→O' x=O x):Cor n m own ro' T S N O' g Q:=by
 obtain ⟨o1,o2,o3⟩:=h.de k hk i hr
 refine ⟨h.nodup,h.rng,h.t0,h.tl,?_,?_,?_,?_,?_,?_,?_,?_,?_,?_,?_,?_,?_⟩
 ·have:=h.adj;unfold Lnk at*;grind
 ·have:=h.gs;grind
 ·have:=h.hd;grind
 ·have:=h.wt;grind
 ·have:=h.fr;have:=h.df;intro u hu x p0 q;by_cases w:u=k<;>grind
 ·have:=h.ho;grind
 ·have:=h.de;have:=h.dd;intro u hu x q;by_cases w:u=k<;>grind
 ·have:=h.dd;grind
 ·have:=h.df;grind
 ·have:=h.oq;grind
 ·have:=h.ob;intro x hx1 hx2;by_cases w:x=i<;>grind
 ·have:=h.u3;grind
 ·have:=h.u4;grind
theorem waits (h:Cor n m own ro T S N O g Q) {j:Nat} (hj:j∈(match g with|none=>Q|some _=>Q.tail)) (h2:S j≠2):∃ p a,ro (own j)= .wait j p a:=by
 cases hg:g with
 |none=>
  rw [hg] at hj
  by_cases hh:∃ r,Q=j::r
  ·obtain ⟨r,hh⟩:=hh
   obtain ⟨_,p,a,q,_⟩:=h.hd hg j r hh
   exact ⟨p,a,q⟩
  ·obtain ⟨x,hx⟩:=adj_of hj λr q=>hh ⟨r,q⟩
   have:=h.adj x j hx
   unfold Lnk at this
   grind
 |some t=>
  rw [hg] at hj
  obtain ⟨_,i,r,p,b,hQ,_⟩:=h.gs t hg
  have hj:j∈r:=by rw [hQ] at hj;exact hj
  obtain ⟨x,hx⟩:=adj_of (Q:=Q) (j:=j) (by rw [hQ];exact List.mem_cons_of_mem _ hj) λr' q=>by
   rw [hQ] at q
   have hn:=h.nodup
   rw [hQ] at hn
   obtain ⟨rfl,_⟩:i=j∧r=r':=by simpa using q
   exact (List.nodup_cons.1 hn).1 hj
  have:=h.adj x j hx
  unfold Lnk at this
  grind
end Cor
def rest (g:Option Nat) (Q:List Nat):List Nat:=match g with|none=>Q|some _=>Q.tail
def wqL (own:Nat→Nat) (S:Nat→Int) (R:List Nat):List Nat:=(R.filter λj=>decide (S j≠2)).map own
section
variable {n m:Nat} {own:Nat→Nat} {ro:Nat→Ro} {T:Int} {S N O S':Nat→Int} {g:Option Nat} {Q R:List Nat} {i k:Nat}
theorem wq_yes (h:S i≠2):wqL own S (i::R)=own i::wqL own S R:=by unfold wqL;rw [List.filter_cons_of_pos (by simpa using h)];rfl
theorem wq_not (h:S i=2):wqL own S (i::R)=wqL own S R:=by unfold wqL;rw [List.filter_cons_of_neg (by simpa using h)]
theorem wq_more (h:S i≠2):wqL own S (R++[i])=wqL own S R++[own i]:=by unfold wqL;rw [List.filter_append,List.map_append,List.filter_cons_of_pos (by simpa using h)];rfl
theorem wq_mem {t:Nat}:t∈wqL own S R↔∃ j,j∈R∧S j≠2∧own j=t:=by
 unfold wqL
 rw [List.mem_map]
 constructor
 ·rintro ⟨j,hj,e⟩
  rw [List.mem_filter] at hj
  exact ⟨j,hj.1,by simpa using hj.2,e⟩
 ·rintro ⟨j,h1,h2,e⟩
  exact ⟨j,List.mem_filter.2 ⟨h1,by simpa using h2⟩,e⟩
theorem wq_same (h:∀ j∈R,(S' j=2↔S j=2)):wqL own S' R=wqL own S R:=by
 unfold wqL
 congr 1
 refine List.filter_congr λj hj=> ?_
 have:=h j hj
 by_cases q:S j=2<;>simp [q,this]
theorem wq_nodup (h:∀ j∈R,S j≠2→∃ p a,ro (own j)= .wait j p a) (hn:R.Nodup):(wqL own S R).Nodup:=by
 induction R with
 |nil=>exact List.nodup_nil
 |cons x r ih=>
  have hn2:=List.nodup_cons.1 hn
  have ih:=ih (λj hj=>h j (List.mem_cons_of_mem _ hj)) hn2.2
  by_cases q:S x=2
  ·rw [wq_not q];exact ih
  ·rw [wq_yes q]
   refine List.nodup_cons.2 ⟨λhm=> ?_,ih⟩
   obtain ⟨j,h1,h2,h3⟩:=wq_mem.1 hm
   obtain ⟨p,a,e⟩:=h x List.mem_cons_self q
   obtain ⟨p',a',e'⟩:=h j (List.mem_cons_of_mem _ h1) h2
   rw [h3,e] at e'
   obtain ⟨rfl,_⟩:x=j∧_:=by simpa using e'
   exact hn2.1 h1
theorem wq_up (h:∀ j∈R,S j≠2→∃ p a,ro (own j)= .wait j p a) (hi:S i≠2) (hR:i∈R) (f0:S' i=2) (f:∀ j,j≠i→S' j=S j):wqL own S' R=(wqL own S R).filter λt=>decide (t≠own i):=by
 obtain ⟨p,a,e⟩:=h i hR hi
 have key:∀ R',(∀ j∈R',j∈R)→wqL own S' R'=(wqL own S R').filter λt=>decide (t≠own i):=by
  intro R'
  induction R' with
  |nil=>intro _;rfl
  |cons x r ih=>
   intro hs
   have ih:=ih λj hj=>hs j (List.mem_cons_of_mem _ hj)
   by_cases w:x=i
   ·subst w
    rw [wq_not f0,wq_yes hi,List.filter_cons_of_neg (by simp)];exact ih
   ·by_cases q:S x=2
    ·rw [wq_not q,wq_not ((f x w).trans q)];exact ih
    ·rw [wq_yes q,wq_yes (by rw [f x w];exact q)]
     obtain ⟨p',a',e'⟩:=h x (hs x List.mem_cons_self) q
     have hne:own x≠own i:=λw2=>by
      rw [w2,e] at e'
      obtain ⟨w3,_⟩:i=x∧_:=by simpa using e'
      exact w w3.symm
     rw [List.filter_cons_of_pos (by simpa using hne),ih]
 exact key R λ_ h=>h
end
end Go.Proofs.YtmnephejhkfchaaGreat.Ka
