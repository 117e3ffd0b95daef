
import Derived.Test.YtmnephejhkfchaaGreatHierEnd
namespace Go.Proofs.YtmnephejhkfchaaGreat.Kh
set_option maxHeartbeats 8000000
set_option linter.unusedVariables false
set_option maxRecDepth 100000
theorem DD {Q A A' X X':List Nat} {i:Nat} (hn:Q.Nodup) (h:Q=A++i::X) (h':Q=A'++i::X'):A=A'/\X=X':=zz1a
def Dk (Q:List Nat) (i j:Nat):Prop:=∃ A B,Q=A++i::j::B
def CV (Q:List Nat) (k:Nat):Prop:=∃ A,Q=A++[k]
section
variable {Q:List Nat} {i j k:Nat}
theorem AU (h:Dk Q i j):i∈Q/\j∈Q:=by
 obtain ⟨A,B,rfl⟩:=h;simp
theorem GQ (hn:Q.Nodup) (h:Dk Q i j):¬ CV Q i:=zz5v
theorem C6 (h:CV Q k):k∈Q:=by obtain ⟨A,rfl⟩:=h;simp
theorem Dn {k':Nat} (h:CV Q k) (h':CV Q k'):k=k':=zz5q
theorem G0 (h:Q≠[]):∃ k,CV Q k:=⟨Q.getLast h,Q.dropLast,(List.dropLast_concat_getLast h).symm⟩
theorem Ff {r:List Nat}:Dk (i::j::r) i j:=⟨[],r,rfl⟩
theorem Fe (h:Dk Q i j):Dk (k::Q) i j:=by obtain ⟨A,B,rfl⟩:=h;exact ⟨k::A,B,rfl⟩
theorem F8 (h:CV Q i):CV (k::Q) i:=by obtain ⟨A,rfl⟩:=h;exact ⟨k::A,rfl⟩
theorem F9:CV [i] i:=⟨[],rfl⟩
theorem Fl (h:CV [i] j):j=i:=by have:=Dn h F9;exact this
theorem Fq:¬ Dk [i] j k:=zz6w
theorem Hw (h:CV (Q++[k]) j):j=k:=Dn h ⟨Q,rfl⟩
theorem J5 (h:Dk (Q++[k]) i j):Dk Q i j\/(CV Q i/\j=k):=zz21
theorem DR (h:j∈Q) (hh:∀ r,Q≠j::r):∃ i,Dk Q i j:=zz49
theorem Cm (hn:Q.Nodup) (h:Dk Q i j) (r:List Nat):Q≠j::r:=zz52
end
def Pre (Q:List Nat) (m z:Nat):Prop:=∃ A B,Q=A++m::B/\z∈m::B
section
variable {Q S B r:List Nat} {m z k x y:Nat}
theorem D9 (h:Pre Q m z):m∈Q/\z∈Q:=by
 obtain ⟨A,B,rfl,hz⟩:=h;exact ⟨by simp,List.mem_append_right _ hz⟩
theorem Td (h:Pre Q m z):Pre (Q++S) m z:=by
 obtain ⟨A,B,rfl,hz⟩:=h;exact ⟨A,B++S,by simp,by rw [<-List.cons_append];exact List.mem_append_left _ hz⟩
theorem WL (h:z∈k::S):Pre (Q++k::S) k z:=⟨Q,S,rfl,h⟩
theorem Mj (hn:(k::r).Nodup) (h:Pre (k::r) m k):m=k:=by
 obtain ⟨A,B,e,hz⟩:=h;cases A with
 |nil=>simp at e;exact e.1.symm
 |cons a A=>
  simp at e;obtain ⟨rfl,rfl⟩:=e;exact absurd (List.mem_append_right A hz) (List.nodup_cons.1 hn).1
theorem Te (h:Pre (k::r) m z) (hm:m≠k):Pre r m z:=by
 obtain ⟨A,B,e,hz⟩:=h;cases A with
 |nil=>simp at e;exact absurd e.1.symm hm
 |cons a A=>simp at e;exact ⟨A,B,e.2,hz⟩
theorem OT (h:Dk (Q++k::S) x y):Dk Q x y\/(CV Q x/\y=k)\/Dk (k::S) x y:=by
 obtain ⟨A,B,h⟩:=h;rcases List.append_eq_append_iff.1 h with ⟨a',h1,h2⟩|⟨a',h1,h2⟩
 ·exact .inr (.inr ⟨a',B,h2⟩)
 ·cases a' with
  |nil=>simp at h1 h2;subst h1;exact .inr (.inr ⟨[],B,by simp [h2]⟩)
  |cons p a'=>
   simp at h2;obtain ⟨rfl,h2⟩:=h2;cases a' with
   |nil=>simp at h2;exact .inr (.inl ⟨⟨A,h1⟩,h2.1⟩)
   |cons p a'=>
    simp at h2;obtain ⟨rfl,h2⟩:=h2;exact .inl ⟨A,a',h1⟩
theorem UY (h:Dk S x y):Dk (S++B) x y:=by
 obtain ⟨A,C,rfl⟩:=h;exact ⟨A,C++B,by simp⟩
theorem UZ (h:Dk B x y):Dk (S++B) x y:=by
 obtain ⟨A,C,rfl⟩:=h;exact ⟨S++A,C,by simp⟩
theorem MU (h:CV B x):CV (S++B) x:=by
 obtain ⟨A,rfl⟩:=h;exact ⟨S++A,by simp⟩
end
inductive Ro where
 |idle
 |fresh
 |loc
 |UQ
 |UM (o:Nat)
 |H_ (p o:Nat)
 |Cw
 |hold (p:Nat)
structure Cor (n:Nat) (cl nd A:Nat->Nat) (ro:Nat->Ro) (V:Nat->Int) (T:Int) (K:Nat->Int) (X:Nat->Int) (P:Nat->Nat) (F:Nat) (g:Option Nat) (Q:List Nat) (W:Nat->List Nat):Prop where
 nq:Q.Nodup
 nw:∀ c,(W c).Nodup
 mq:∀ x∈Q,x<n/\(ro x= .loc\/(∃ p o,ro x= .H_ p o)\/ro x= .Cw\/∃ p,ro x= .hold p)
 mw:∀ c,∀ x∈W c,x<n/\cl x=c/\x∉Q/\(ro x= .loc\/ro x= .UQ\/∃ o,ro x= .UM o)
 ri:∀ x,x<n->(ro x= .idle\/ro x= .fresh)->x∉Q/\x∉W (cl x)
 rl:∀ x,x<n->ro x= .loc->x∈Q\/x∈W (cl x)
 rm:∀ x,x<n->ro x= .UQ->∃ r,W (cl x)=x::r
 rb:∀ x,x<n->∀ o,ro x= .UM o->∃ r z,W (cl x)=x::r/\z∈x::r/\nd z=o
 rs:∀ x,x<n->∀ p o,ro x= .H_ p o->(p=5\/p=6)/\P (cl x)=o/\(∃ z,nd z=o/\Pre Q x z/\cl z=cl x)/\E7 (X o)=0/\(p=6->V x=X o)/\(∀ z y,nd z=o->Dk Q z y->ro y≠.loc)
 rw:∀ x,x<n->∀ p o,ro x= .H_ p o->∀ y r,W (cl x)=y::r->ro y= .loc
 ru:∀ x y,x<n->y<n->∀ p o p' o',ro x= .H_ p o->ro y= .H_ p' o'->cl x=cl y->x=y
 rg:∀ x,x<n->ro x= .Cw->x∈Q
 rh:∀ x,x<n->∀ p,ro x= .hold p->g=some x
 gs:∀ t,g=some t->t<n/\∃ r p,Q=t::r/\ro t= .hold p/\(p=0\/p=1)/\(p=1->V t=X (nd t))
 nr:∀ x,x<n->1<=nd x/\nd x<=n+1
 ni:∀ x y,x<n->y<n->nd x=nd y->x=y
 fr:1<=F/\F<=n+1
 fn:∀ x,x<n->nd x≠F
 xf:Dh (X F)=0
 xr:∀ x,x<n->ro x= .fresh->Ca (X (nd x))=cl x/\Dh (X (nd x))=1/\E7 (X (nd x))=0
 xq:∀ x∈Q,Ca (X (nd x))=cl x/\Dh (X (nd x))=1
 xw:∀ c,∀ x∈W c,Ca (X (nd x))=c/\Dh (X (nd x))=1/\E7 (X (nd x))=0
 t0:Q=[]->T=F
 tl:∀ k,CV Q k->T=nd k
 k0:∀ c,W c=[]->K c=P c
 kl:∀ c k,CV (W c) k->K c=nd k
 aq:∀ x y,Dk Q x y->A y=nd x/\(ro y= .loc->cl y=cl x/\E7 (X (nd x))=0)
 hq:∀ y r,Q=y::r->A y=F/\(ro y= .loc->Ca (X F)=cl y/\E7 (X F)=0)
 aw:∀ c x y,Dk (W c) x y->A y=nd x/\ro y= .loc
 hw:∀ c y r,W c=y::r->ro y= .loc->A y=P c/\P c≠0
 st:∀ c,P c≠0->P c<=n+1/\((E7 (X (P c))≠0\/Ca (X (P c))≠c)\/∃ m,m<n/\cl m=c/\∃ p,ro m= .H_ p (P c))
 f1:∀ x,x<n->x∉Q->nd x≠P (cl x)
 f2:∀ x∈Q,A x≠P (cl x)
namespace Cor
variable {n:Nat} {cl nd LY A A':Nat->Nat} {ro Be:Nat->Ro} {V V':Nat->Int} {T T':Int} {K K' X X':Nat->Int} {P P':Nat->Nat} {F F':Nat} {g:Option Nat} {Q:List Nat} {W W':Nat->List Nat} {k o:Nat}
theorem ql (h:Cor n cl nd A ro V T K X P F g Q W):∀ x∈Q,x<n:=λx hx=>(h.mq x hx).1
theorem wl (h:Cor n cl nd A ro V T K X P F g Q W):∀ c,∀ x∈W c,x<n/\cl x=c:=λc x hx=>⟨(h.mw c x hx).1,(h.mw c x hx).2.1⟩
theorem off (h:Cor n cl nd A ro V T K X P F g Q W) (hk:k<n) (hr:ro k= .idle\/ro k= .fresh):(∀ x∈Q,x≠k)/\(∀ c,∀ x∈W c,x≠k):=by
 have hi:=h.ri k hk hr;refine ⟨λx hx q=>hi.1 (q▸hx),λc x hx q=> ?_⟩;have:=(h.wl c x hx).2;subst q this;exact hi.2 hx
theorem RY (h:Cor n cl nd A ro V T K X P F g Q W) (hk:k<n) {x:Nat} (hx:x<n) (hn:x≠k):nd x≠nd k:=λq=>hn (h.ni x k hx hk q)
theorem WV (h:Cor n cl nd A ro V T K X P F g Q W) (hk:k<n) (hr:ro k= .idle) (e0:Be k= .fresh) (e:∀ u,u≠k->Be u=ro u) (x0:Ca (X' (nd k))=cl k/\Dh (X' (nd k))=1/\E7 (X' (nd k))=0) (x:∀ j,j≠nd k->X' j=X j):Cor n cl nd A Be V T K X' P F g Q W:=by
 obtain ⟨kQ,kW⟩:=h.off hk (.inl hr);have iQ:∀ y∈Q,X' (nd y)=X (nd y):=λy hy=>x _ (h.RY hk (h.ql y hy) (kQ y hy));have iW:∀ c,∀ y∈W c,X' (nd y)=X (nd y):=λc y hy=>x _ (h.RY hk (h.wl c y hy).1 (kW c y hy));have iF:X' F=X F:=x _ λq=>h.fn k hk q.symm;refine ⟨h.nq,h.nw,?mq,?mw,?ri,?rl,?rm,?rb,?rs,?rw,?ru,?rg,?rh,?gs,h.nr,h.ni,h.fr,h.fn,?xf,?xr,?xq,?xw,h.t0,h.tl,h.k0,h.kl,?aq,?hq,?aw,?hw,?st,h.f1,h.f2⟩
 case mq=>intro y hy;rw [e y (kQ y hy)];exact h.mq y hy
 case mw=>intro c y hy;rw [e y (kW c y hy)];exact h.mw c y hy
 case ri=>intro y hy hr';by_cases q:y=k
          ·exact q▸h.ri k hk (.inl hr)
          ·exact zz4k
 case rl=>have:=h.rl;grind
 case rm=>have:=h.rm;grind
 case rb=>have:=h.rb;grind
 case rs=>
  intro m hm p o hr';have hmk:m≠k:=by rintro rfl;rw [e0] at hr';cases hr'
  obtain ⟨a1,a2,⟨z,z1,z2,z3⟩,a4,a5,a6⟩:=h.rs m hm p o (by rw [<-e m hmk];exact hr');have ho:X' o=X o:=z1▸iQ z (D9 z2).2;refine ⟨a1,a2,⟨z,z1,z2,z3⟩,by rw [ho];exact a4,by rw [ho];exact a5,λz y hz hy=> ?_⟩;rw [e y (kQ y (AU hy).2)];exact a6 z y hz hy
 case rw=>
  exact zz3t
 case ru=>have:=h.ru;grind
 case rg=>have:=h.rg;grind
 case rh=>have:=h.rh;grind
 case gs=>have:=h.gs;grind
 case xf=>rw [iF];exact h.xf
 case xr=>have:=h.xr;have:=h.ni;grind
 case xq=>have:=h.xq;grind
 case xw=>have:=h.xw;grind
 case aq=>intro a b hab;rw [e b (kQ b (AU hab).2),iQ a (AU hab).1];exact h.aq a b hab
 case hq=>intro y r hy;rw [e y (kQ y (by rw [hy];exact List.mem_cons_self)),iF];exact h.hq y r hy
 case aw=>intro c a b hab;rw [e b (kW c b (AU hab).2)];exact h.aw c a b hab
 case hw=>intro c y r hy;rw [e y (kW c y (by rw [hy];exact List.mem_cons_self))];exact h.hw c y r hy
 case st=>
  intro c hc;obtain ⟨a1,a2⟩:=h.st c hc;refine ⟨a1,?_⟩;by_cases q:P c=nd k
  ·have:=h.f1 k hk (λq=>kQ k q rfl)
   grind
  ·rw [x _ q]
   rcases a2 with a2|⟨m,m1,m2,p,m3⟩
   ·exact .inl a2
   ·exact zz1q
theorem Ni (h:Cor n cl nd A ro V T K X P F g Q W) {c:Nat} (hc:W c≠[]):∃ z,CV (W c) z/\K c=nd z/\z<n/\cl z=c:=by
 obtain ⟨z,hz⟩:=G0 hc;exact ⟨z,hz,h.kl c z hz,(h.wl c z (C6 hz)).1,(h.wl c z (C6 hz)).2⟩
def Quiet (n:Nat) (cl:Nat->Nat) (ro:Nat->Ro) (c:Nat):Prop:=∀ m,m<n->cl m=c->∀ p o,ro m≠.H_ p o
theorem looks (h:Cor n cl nd A ro V T K X P F g Q W) (hk:k<n) (hr:ro k= .loc):
  (Ca (X (A k))=cl k/\E7 (X (A k))=0/\Dh (X (A k))=1)\/(Ca (X (A k))=cl k/\E7 (X (A k))=0/\Dh (X (A k))=0/\g=none/\∃ r,Q=k::r)\/(¬ (Ca (X (A k))=cl k/\E7 (X (A k))=0)/\Quiet n cl ro (cl k)/\∃ r,W (cl k)=k::r):=by
 rcases h.rl k hk hr with hm|hm
 ·by_cases hh:∃ r,Q=k::r
  ·obtain ⟨r,hh⟩:=hh
   obtain ⟨a1,a2⟩:=h.hq k r hh;obtain ⟨b1,b2⟩:=a2 hr;refine .inr (.inl ⟨by rw [a1];exact b1,by rw [a1];exact b2,by rw [a1];exact h.xf,?_,r,hh⟩);exact zz4b
  ·obtain ⟨x,hx⟩:=DR hm (λr hq=>hh ⟨r,hq⟩)
   obtain ⟨a1,a2⟩:=h.aq x k hx;obtain ⟨b1,b2⟩:=a2 hr;obtain ⟨c1,c2⟩:=h.xq x (AU hx).1;exact .inl ⟨by rw [a1,c1,b1],by rw [a1,b2],by rw [a1,c2]⟩
 ·by_cases hh:∃ r,W (cl k)=k::r
  ·obtain ⟨r,hh⟩:=hh
   obtain ⟨a1,a2⟩:=h.hw _ k r hh hr;by_cases hs:∃ m,m<n/\cl m=cl k/\∃ p o,ro m= .H_ p o
   ·obtain ⟨m,m1,m2,p,o,m3⟩:=hs
    obtain ⟨_,b2,⟨z,z1,z2,z3⟩,b4,_⟩:=h.rs m m1 p o m3;obtain ⟨c1,c2⟩:=h.xq z (D9 z2).2;rw [m2] at b2;rw [a1,b2,<-z1];exact .inl ⟨by rw [c1,z3,m2],by rw [z1];exact b4,c2⟩
   ·have Nc:Quiet n cl ro (cl k):=λm m1 m2 p o m3=>hs ⟨m,m1,m2,p,o,m3⟩
    refine .inr (.inr ⟨?_,Nc,r,hh⟩);rw [a1];rcases (h.st _ a2).2 with b|⟨m,m1,m2,p,m3⟩
    ·rintro ⟨q1,q2⟩
     rcases b with b|b
     ·exact b q2
     ·exact b q1
    ·exact absurd m3 (Nc m m1 m2 p _)
  ·obtain ⟨x,hx⟩:=DR hm (λr hq=>hh ⟨r,hq⟩)
   obtain ⟨a1,_⟩:=h.aw _ x k hx;obtain ⟨c1,c2,c3⟩:=h.xw _ x (AU hx).1;exact .inl ⟨by rw [a1,c1],by rw [a1,c3],by rw [a1,c2]⟩
theorem Xt (h:Cor n cl nd A ro V T K X P F g Q W) (hk:k<n) (hr:ro k= .Cw):Dh (X (A k))=1\/(Dh (X (A k))=0/\g=none/\∃ r,Q=k::r):=by
 have hm:=h.rg k hk hr;by_cases hh:∃ r,Q=k::r
 ·obtain ⟨r,hh⟩:=hh
  refine .inr ⟨by rw [(h.hq k r hh).1];exact h.xf,?_,r,hh⟩;exact zz4b
 ·obtain ⟨x,hx⟩:=DR hm (λr hq=>hh ⟨r,hq⟩)
  exact .inl (by rw [(h.aq x k hx).1];exact (h.xq x (AU hx).1).2)
theorem ik (h:Cor n cl nd A ro V T K X P F g Q W) (hk:k<n) (hr:ro k= .loc) (Nc:Quiet n cl ro (cl k)) {r:List Nat} (hw:W (cl k)=k::r) (e0:Be k= .UQ) (e:∀ u,u≠k->Be u=ro u):Cor n cl nd A Be V T K X P F g Q W:=by
 have kW:k∈W (cl k):=by rw [hw];exact List.mem_cons_self
 have kQ:∀ x∈Q,x≠k:=λx hx q=>(h.mw _ k kW).2.2.1 (q▸hx);refine ⟨h.nq,h.nw,?mq,?mw,?ri,?rl,?rm,?rb,?rs,?rw,?ru,?rg,?rh,?gs,h.nr,h.ni,h.fr,h.fn,h.xf,?xr,h.xq,h.xw,h.t0,h.tl,h.k0,h.kl,?aq,?hq,?aw,?hw,?st,h.f1,h.f2⟩
 case mq=>intro y hy;rw [e y (kQ y hy)];exact h.mq y hy
 case mw=>intro c y hy;obtain ⟨a1,a2,a3,a4⟩:=h.mw c y hy;refine ⟨a1,a2,a3,?_⟩;by_cases q:y=k<;>grind
 case ri=>intro y hy hr';by_cases q:y=k
          ·exact zz37
          ·exact zz4k
 case rl=>have:=h.rl;grind
 case rm=>have:=h.rm;grind
 case rb=>have:=h.rb;grind
 case rs=>
  exact zzw
 case rw=>
  exact zz2a
 case ru=>have:=h.ru;grind
 case rg=>have:=h.rg;grind
 case rh=>have:=h.rh;grind
 case gs=>have:=h.gs;grind
 case xr=>have:=h.xr;grind
 case aq=>intro a b hab;rw [e b (kQ b (AU hab).2)];exact h.aq a b hab
 case hq=>intro y r hy;rw [e y (kQ y (by rw [hy];exact List.mem_cons_self))];exact h.hq y r hy
 case aw=>
  exact zz4u
 case hw=>intro c y r hy hl;have q:y≠k:=by {rintro rfl;rw [e0] at hl;cases hl}
          rw [e y q] at hl;exact h.hw c y r hy hl
 case st=>
  exact zz16
theorem Tm (h:Cor n cl nd A ro V T K X P F none (k::Q) W) (hr:ro k= .loc\/ro k= .Cw) (e0:Be k= .hold 0) (e:∀ u,u≠k->Be u=ro u):Cor n cl nd A Be V T K X P F (some k) (k::Q) W:=by
 have hk:k<n:=h.ql k List.mem_cons_self;have kW:∀ c,∀ x∈W c,x≠k:=λc x hx q=>(h.mw c x hx).2.2.1 (by rw [q];exact List.mem_cons_self);have hns:∀ p o,ro k≠.H_ p o:=λp o q=>by rcases hr with hr|hr<;>(rw [hr] at q;cases q)
 refine ⟨h.nq,h.nw,?mq,?mw,?ri,?rl,?rm,?rb,?rs,?rw,?ru,?rg,?rh,?gs,h.nr,h.ni,h.fr,h.fn,h.xf,?xr,h.xq,h.xw,h.t0,h.tl,h.k0,h.kl,?aq,?hq,?aw,?hw,?st,h.f1,h.f2⟩
 case mq=>intro y hy;refine ⟨(h.mq y hy).1,?_⟩;by_cases q:y=k
          ·subst q;rw [e0];exact .inr (.inr (.inr ⟨_,rfl⟩))
          ·rw [e y q];exact (h.mq y hy).2
 case mw=>intro c y hy;rw [e y (kW c y hy)];exact h.mw c y hy
 case ri=>intro y hy hr';by_cases q:y=k
          ·exact zz37
          ·exact zz4k
 case rl=>have:=h.rl;grind
 case rm=>have:=h.rm;grind
 case rb=>have:=h.rb;grind
 case rs=>
  intro m hm p o hr';have hmk:m≠k:=by rintro rfl;rw [e0] at hr';cases hr'
  obtain ⟨a1,a2,a3,a4,a5,a6⟩:=h.rs m hm p o (by rw [<-e m hmk];exact hr');refine ⟨a1,a2,a3,a4,a5,λz y hz hy=> ?_⟩;exact zz68
 case rw=>
  exact zz3t
 case ru=>have:=h.ru;grind
 case rg=>have:=h.rg;grind
 case rh=>have:=h.rh;grind
 case gs=>intro t ht;cases ht;exact ⟨hk,Q,0,rfl,e0,.inl rfl,λq=>by cases q⟩
 case xr=>have:=h.xr;grind
 case aq=>
  intro a b hab;refine ⟨(h.aq a b hab).1,λhl=> ?_⟩;have q:b≠k:=by rintro rfl;rw [e0] at hl;cases hl
  rw [e b q] at hl;exact (h.aq a b hab).2 hl
 case hq=>
  intro y r hy;refine ⟨(h.hq y r hy).1,λhl=> ?_⟩;obtain ⟨rfl,_⟩:=List.cons.inj hy;rw [e0] at hl;cases hl
 case aw=>intro c a b hab;rw [e b (kW c b (AU hab).2)];exact h.aw c a b hab
 case hw=>intro c y r hy;rw [e y (kW c y (by rw [hy];exact List.mem_cons_self))];exact h.hw c y r hy
 case st=>
  intro c hc;obtain ⟨a1,a2⟩:=h.st c hc;refine ⟨a1,?_⟩;rcases a2 with a2|⟨m,m1,m2,p,m3⟩
  ·exact .inl a2
  ·exact .inr ⟨m,m1,m2,p,by rw [e m (by rintro rfl;exact hns _ _ m3)];exact m3⟩
theorem O4 (h:Cor n cl nd A ro V T K X P F g Q W) (hk:k<n) (hr:ro k= .fresh) (h0:K (cl k)=0) (e0:Be k= .UQ) (e:∀ u,u≠k->Be u=ro u) (k0:K' (cl k)=nd k) (kk:∀ c,c≠cl k->K' c=K c) (a:∀ u,u≠k->A' u=A u) (w0:W' (cl k)=W (cl k)++[k]) (w:∀ c,c≠cl k->W' c=W c):Cor n cl nd A' Be V T K' X P F g Q W':=by
 have hW:W (cl k)=[]:=by
  by_cases q:W (cl k)=[]
  ·exact q
  ·obtain ⟨z,_,z2,z3,_⟩:=h.Ni q
   have:=(h.nr z z3).1;omega
 have hP:P (cl k)=0:=by have:=h.k0 _ hW;omega
 rw [hW] at w0;simp only [List.nil_append] at w0;obtain ⟨kQ,kW⟩:=h.off hk (.inr hr);have Nc:Quiet n cl ro (cl k):=λm m1 m2 p o m3=>by
  obtain ⟨_,b2,⟨z,z1,z2,z3⟩,_⟩:=h.rs m m1 p o m3;have:=(h.nr z (h.ql z (D9 z2).2)).1;rw [m2] at b2;omega
 have wk:∀ c,∀ x∈W' c,x=k/\c=cl k\/x≠k/\x∈W c/\c≠cl k:=λc x hx=>by
  by_cases q:c=cl k
  ·subst q;rw [w0] at hx;exact .inl ⟨by simpa using hx,rfl⟩
  ·rw [w c q] at hx;exact .inr ⟨kW c x hx,hx,q⟩
 refine ⟨h.nq,?nw,?mq,?mw,?ri,?rl,?rm,?rb,?rs,?rw,?ru,?rg,?rh,?gs,h.nr,h.ni,h.fr,h.fn,h.xf,?xr,h.xq,?xw,h.t0,h.tl,?k0,?kl,?aq,?hq,?aw,?hw,?st,h.f1,?f2⟩
 case nw=>intro c;by_cases q:c=cl k
          ·subst q;rw [w0];simp
          ·rw [w c q];exact h.nw c
 case mq=>intro y hy;rw [e y (kQ y hy)];exact h.mq y hy
 case mw=>
  intro c y hy;rcases wk c y hy with ⟨rfl,rfl⟩|⟨q1,q2,q3⟩
  ·exact ⟨hk,rfl,λq=>kQ _ q rfl,.inr (.inl e0)⟩
  ·rw [e y q1];exact h.mw c y q2
 case ri=>
  intro y hy hr';by_cases q:y=k
  ·exact zz37
  ·rw [e y q] at hr'
   refine ⟨(h.ri y hy hr').1,λhm=> ?_⟩;rcases wk _ y hm with ⟨q1,_⟩|⟨_,q2,_⟩
   ·exact q q1
   ·exact (h.ri y hy hr').2 q2
 case rl=>
  intro y hy hl;have q:y≠k:=by rintro rfl;rw [e0] at hl;cases hl
  rw [e y q] at hl;rcases h.rl y hy hl with h1|h1
  ·exact .inl h1
  ·exact .inr (by rw [w (cl y) (λq2=>by rw [q2,hW] at h1;cases h1)];exact h1)
 case rm=>
  intro y hy hl;by_cases q:y=k
  ·subst q;exact ⟨[],w0⟩
  ·rw [e y q] at hl
   obtain ⟨r,h1⟩:=h.rm y hy hl;exact ⟨r,by rw [w (cl y) (λq2=>by rw [q2,hW] at h1;cases h1)];exact h1⟩
 case rb=>
  intro y hy o hl;have q:y≠k:=by rintro rfl;rw [e0] at hl;cases hl
  rw [e y q] at hl;obtain ⟨r,z,h1,h2,h3⟩:=h.rb y hy o hl;exact ⟨r,z,by rw [w (cl y) (λq2=>by rw [q2,hW] at h1;cases h1)];exact h1,h2,h3⟩
 case rs=>
  exact zzw
 case rw=>
  intro m hm p o hr' y r hy;have hr':ro m= .H_ p o:=by rw [<-e m (by rintro rfl;rw [e0] at hr';cases hr')];exact hr'
  have hc:cl m≠cl k:=λq=>Nc m hm q p o hr';rw [w _ hc] at hy;rw [e y (kW _ y (by rw [hy];exact List.mem_cons_self))];exact h.rw m hm p o hr' y r hy
 case ru=>have:=h.ru;grind
 case rg=>have:=h.rg;grind
 case rh=>have:=h.rh;grind
 case gs=>have:=h.gs;grind
 case xr=>have:=h.xr;grind
 case xw=>
  intro c y hy;rcases wk c y hy with ⟨rfl,rfl⟩|⟨q1,q2,q3⟩
  ·exact h.xr _ hk hr
  ·exact h.xw c y q2
 case k0=>
  intro c hc;have q:c≠cl k:=by rintro rfl;rw [w0] at hc;cases hc
  rw [w c q] at hc;rw [kk c q];exact h.k0 c hc
 case kl=>
  intro c z hz;by_cases q:c=cl k
  ·subst q;rw [w0] at hz;rw [Fl hz];exact k0
  ·rw [w c q] at hz;rw [kk c q];exact h.kl c z hz
 case aq=>intro x b hab;rw [e b (kQ b (AU hab).2),a b (kQ b (AU hab).2)];exact h.aq x b hab
 case hq=>intro y r hy;have q:=kQ y (by rw [hy];exact List.mem_cons_self);rw [e y q,a y q];exact h.hq y r hy
 case aw=>
  intro c x b hab;have q:c≠cl k:=by rintro rfl;rw [w0] at hab;exact Fq hab
  exact zz60
 case hw=>
  intro c y r hy hl;have q:c≠cl k:=by
   rintro rfl;rw [w0] at hy;obtain ⟨rfl,_⟩:=List.cons.inj hy;rw [e0] at hl;cases hl
  rw [w c q] at hy;have q2:=kW c y (by rw [hy];exact List.mem_cons_self);rw [e y q2] at hl;rw [a y q2];exact h.hw c y r hy hl
 case st=>
  exact zz16
 case f2=>intro y hy;rw [a y (kQ y hy)];exact h.f2 y hy
theorem YK (h:Cor n cl nd A ro V T K X P F g Q W) (hk:k<n) (hr:ro k= .fresh) (h0:K (cl k)≠0) (e0:Be k= .loc) (e:∀ u,u≠k->Be u=ro u) (k0:K' (cl k)=nd k) (kk:∀ c,c≠cl k->K' c=K c) (a0:(A' k:Int)=K (cl k)) (a:∀ u,u≠k->A' u=A u) (w0:W' (cl k)=W (cl k)++[k]) (w:∀ c,c≠cl k->W' c=W c):Cor n cl nd A' Be V T K' X P F g Q W':=by
 obtain ⟨kQ,kW⟩:=h.off hk (.inr hr);have wk:∀ c,∀ x∈W' c,x=k/\c=cl k\/x≠k/\x∈W c:=λc x hx=>by
  by_cases q:c=cl k
  ·subst q
   rw [w0,List.mem_append,List.mem_singleton] at hx;rcases hx with hx|hx
   ·exact .inr ⟨kW _ x hx,hx⟩
   ·exact .inl ⟨hx,rfl⟩
  ·rw [w c q] at hx;exact .inr ⟨kW c x hx,hx⟩
 have up:∀ c,∀ x∈W c,x∈W' c:=λc x hx=>by
  by_cases q:c=cl k
  ·subst q;rw [w0];exact List.mem_append_left _ hx
  ·rw [w c q];exact hx
 have ky:∀ c y r,W c=y::r->∃ r',W' c=y::r'/\∀ z∈y::r,z∈y::r':=λc y r hy=>by
  by_cases q:c=cl k
  ·subst q;rw [w0,hy];exact ⟨r++[k],rfl,λz hz=>by rw [<-List.cons_append];exact List.mem_append_left _ hz⟩
  ·rw [w c q];exact ⟨r,hy,λz hz=>hz⟩
 have jr:∀ c y r,W' c=y::r->(y=k/\c=cl k/\W c=[])\/∃ r',W c=y::r':=λc y r hy=>by
  by_cases q:c=cl k
  ·subst q
   rw [w0] at hy;cases hw:W (cl k) with
   |nil=>rw [hw] at hy;simp at hy;exact .inl ⟨hy.1.symm,rfl,rfl⟩
   |cons b s=>rw [hw] at hy;simp at hy;exact .inr ⟨s,by rw [hy.1]⟩
  ·rw [w c q] at hy;exact .inr ⟨r,hy⟩
 refine ⟨h.nq,?nw,?mq,?mw,?ri,?rl,?rm,?rb,?rs,?rw,?ru,?rg,?rh,?gs,h.nr,h.ni,h.fr,h.fn,h.xf,?xr,h.xq,?xw,h.t0,h.tl,?k0,?kl,?aq,?hq,?aw,?hw,?st,h.f1,?f2⟩
 case nw=>
  intro c;by_cases q:c=cl k
  ·subst q
   rw [w0,List.nodup_append];exact ⟨h.nw _,by simp,λx hx b hb q=>by rw [List.mem_singleton] at hb;exact kW _ x hx (q.trans hb)⟩
  ·rw [w c q];exact h.nw c
 case mq=>intro y hy;rw [e y (kQ y hy)];exact h.mq y hy
 case mw=>
  intro c y hy;rcases wk c y hy with ⟨rfl,rfl⟩|⟨q1,q2⟩
  ·exact ⟨hk,rfl,λq=>kQ _ q rfl,.inl e0⟩
  ·rw [e y q1];exact h.mw c y q2
 case ri=>
  intro y hy hr';by_cases q:y=k
  ·exact zz37
  ·rw [e y q] at hr'
   refine ⟨(h.ri y hy hr').1,λhm=> ?_⟩;rcases wk _ y hm with ⟨q1,_⟩|⟨_,q2⟩
   ·exact q q1
   ·exact (h.ri y hy hr').2 q2
 case rl=>
  intro y hy hl;by_cases q:y=k
  ·subst q;exact .inr (by rw [w0];simp)
  ·rw [e y q] at hl
   exact (h.rl y hy hl).imp id (up _ y)
 case rm=>
  intro y hy hl;have q:y≠k:=by rintro rfl;rw [e0] at hl;cases hl
  rw [e y q] at hl;obtain ⟨r,h1⟩:=h.rm y hy hl;obtain ⟨r',h2,_⟩:=ky _ y r h1;exact ⟨r',h2⟩
 case rb=>
  intro y hy o hl;have q:y≠k:=by rintro rfl;rw [e0] at hl;cases hl
  rw [e y q] at hl;obtain ⟨r,z,h1,h2,h3⟩:=h.rb y hy o hl;obtain ⟨r',h4,h5⟩:=ky _ y r h1;exact ⟨r',z,h4,h5 z h2,h3⟩
 case rs=>
  exact zzw
 case rw=>
  intro m hm p o hr' y r hy;have hr':ro m= .H_ p o:=by rw [<-e m (by rintro rfl;rw [e0] at hr';cases hr')];exact hr'
  rcases jr _ y r hy with ⟨rfl,_⟩|⟨r',hy⟩
  ·exact e0
  ·exact zz5w
 case ru=>have:=h.ru;grind
 case rg=>have:=h.rg;grind
 case rh=>have:=h.rh;grind
 case gs=>have:=h.gs;grind
 case xr=>have:=h.xr;grind
 case xw=>
  intro c y hy;rcases wk c y hy with ⟨rfl,rfl⟩|⟨q1,q2⟩
  ·exact h.xr _ hk hr
  ·exact h.xw c y q2
 case k0=>
  intro c hc;have q:c≠cl k:=by rintro rfl;rw [w0] at hc;simp at hc
  rw [w c q] at hc;rw [kk c q];exact h.k0 c hc
 case kl=>
  intro c z hz;by_cases q:c=cl k
  ·subst q;rw [w0] at hz;rw [Hw hz];exact k0
  ·rw [w c q] at hz;rw [kk c q];exact h.kl c z hz
 case aq=>intro x b hab;rw [e b (kQ b (AU hab).2),a b (kQ b (AU hab).2)];exact h.aq x b hab
 case hq=>intro y r hy;have q:=kQ y (by rw [hy];exact List.mem_cons_self);rw [e y q,a y q];exact h.hq y r hy
 case aw=>
  intro c x b hab;by_cases q:c=cl k
  ·subst q
   rw [w0] at hab;rcases J5 hab with hab|⟨hl,rfl⟩
   ·have q2:=kW _ b (AU hab).2
    rw [e b q2,a b q2];exact h.aw _ x b hab
   ·have:=h.kl _ x hl
    exact ⟨by omega,e0⟩
  ·exact zz60
 case hw=>
  intro c y r hy hl;rcases jr c y r hy with ⟨rfl,rfl,hn⟩|⟨r',hy⟩
  ·have:=h.k0 _ hn
   exact ⟨by omega,by omega⟩
  ·have q2:=kW c y (by rw [hy];exact List.mem_cons_self)
   rw [e y q2] at hl;rw [a y q2];exact h.hw c y r' hy hl
 case st=>
  exact zz16
 case f2=>intro y hy;rw [a y (kQ y hy)];exact h.f2 y hy
theorem quiet (h:Cor n cl nd A ro V T K X P F g Q W) (hk:k<n) (hr:ro k= .UQ\/∃ o,ro k= .UM o) {r:List Nat} (hw:W (cl k)=k::r):Quiet n cl ro (cl k):=λm m1 m2 p o m3=>by
 have:=h.rw m m1 p o m3 k r (by rw [m2];exact hw);rcases hr with q|⟨o',q⟩<;>(rw [q] at this;cases this)
theorem iq (h:Cor n cl nd A ro V T K X P F g Q W) (hk:k<n) (hr:ro k= .UQ) (h0:K (cl k)=(o:Int)) (e0:Be k= .UM o) (e:∀ u,u≠k->Be u=ro u):Cor n cl nd A Be V T K X P F g Q W:=by
 obtain ⟨r,hw⟩:=h.rm k hk hr;have kW:k∈W (cl k):=by rw [hw];exact List.mem_cons_self
 have kQ:∀ x∈Q,x≠k:=λx hx q=>(h.mw _ k kW).2.2.1 (q▸hx);have Nc:=h.quiet hk (.inl hr) hw;refine ⟨h.nq,h.nw,?mq,?mw,?ri,?rl,?rm,?rb,?rs,?rw,?ru,?rg,?rh,?gs,h.nr,h.ni,h.fr,h.fn,h.xf,?xr,h.xq,h.xw,h.t0,h.tl,h.k0,h.kl,?aq,?hq,?aw,?hw,?st,h.f1,h.f2⟩
 case mq=>intro y hy;rw [e y (kQ y hy)];exact h.mq y hy
 case mw=>intro c y hy;obtain ⟨a1,a2,a3,a4⟩:=h.mw c y hy;refine ⟨a1,a2,a3,?_⟩;by_cases q:y=k<;>grind
 case ri=>intro y hy hr';by_cases q:y=k
          ·exact zz37
          ·exact zz4k
 case rl=>have:=h.rl;grind
 case rm=>have:=h.rm;grind
 case rb=>
  intro y hy o' hl;by_cases q:y=k
  ·subst q
   rw [e0] at hl;cases hl;obtain ⟨z,z1,z2,_⟩:=h.Ni (c:=cl y) (by rw [hw];simp);exact ⟨r,z,hw,by rw [<-hw];exact C6 z1,by omega⟩
  ·rw [e y q] at hl;exact h.rb y hy o' hl
 case rs=>
  exact zzw
 case rw=>
  exact zz2a
 case ru=>have:=h.ru;grind
 case rg=>have:=h.rg;grind
 case rh=>have:=h.rh;grind
 case gs=>have:=h.gs;grind
 case xr=>have:=h.xr;grind
 case aq=>intro a b hab;rw [e b (kQ b (AU hab).2)];exact h.aq a b hab
 case hq=>intro y r hy;rw [e y (kQ y (by rw [hy];exact List.mem_cons_self))];exact h.hq y r hy
 case aw=>
  exact zz4u
 case hw=>intro c y r hy hl;have q:y≠k:=by {rintro rfl;rw [e0] at hl;cases hl}
          rw [e y q] at hl;exact h.hw c y r hy hl
 case st=>
  exact zz16
theorem Tk (h:Cor n cl nd A ro V T K X P F g Q W) (hk:k<n) (hQ:k∈Q) (hr:(∃ o,ro k= .H_ 5 o/\Be k= .H_ 6 o/\V' k=X o)\/(ro k= .hold 0/\Be k= .hold 1/\V' k=X (nd k))) (e:∀ u,u≠k->Be u=ro u) (v:∀ u,u≠k->V' u=V u):Cor n cl nd A Be V' T K X P F g Q W:=by
 have kW:∀ c,∀ x∈W c,x≠k:=λc x hx q=>(h.mw c x hx).2.2.1 (by rw [q];exact hQ);have nl:Be k≠.loc/\Be k≠.idle/\Be k≠.fresh/\Be k≠.UQ/\Be k≠.Cw/\(∀ o,Be k≠.UM o)/\ro k≠.loc:=by
  rcases hr with ⟨o,q1,q2,_⟩|⟨q1,q2,_⟩<;>(rw [q1,q2];simp)
 refine ⟨h.nq,h.nw,?mq,?mw,?ri,?rl,?rm,?rb,?rs,?rw,?ru,?rg,?rh,?gs,h.nr,h.ni,h.fr,h.fn,h.xf,?xr,h.xq,h.xw,h.t0,h.tl,h.k0,h.kl,?aq,?hq,?aw,?hw,?st,h.f1,h.f2⟩
 case mq=>
  intro y hy;by_cases q:y=k
  ·subst q
   refine ⟨hk,?_⟩;rcases hr with ⟨o,_,q2,_⟩|⟨_,q2,_⟩<;>rw [q2]
   ·exact .inr (.inl ⟨_,_,rfl⟩)
   ·exact .inr (.inr (.inr ⟨_,rfl⟩))
  ·rw [e y q];exact h.mq y hy
 case mw=>intro c y hy;rw [e y (kW c y hy)];exact h.mw c y hy
 case ri=>intro y hy hr';by_cases q:y=k
          ·subst q;exact absurd hr' (by simp [nl])
          ·exact zz4k
 case rl=>have:=h.rl;grind
 case rm=>have:=h.rm;grind
 case rb=>have:=h.rb;grind
 case rs=>
  intro m hm p o hr';by_cases hmk:m=k
  ·subst hmk
   rcases hr with ⟨o',q1,q2,q3⟩|⟨_,q2,_⟩
   ·rw [q2] at hr'
    cases hr';obtain ⟨a1,a2,a3,a4,a5,a6⟩:=h.rs m hm 5 o q1;refine ⟨.inr rfl,a2,a3,a4,λ_=>q3,λz y hz hy=> ?_⟩;by_cases q:y=m
    ·subst q;exact nl.1
    ·rw [e y q];exact a6 z y hz hy
   ·rw [q2] at hr';cases hr'
  ·obtain ⟨a1,a2,a3,a4,a5,a6⟩:=h.rs m hm p o (by rw [<-e m hmk];exact hr')
   refine ⟨a1,a2,a3,a4,by rw [v m hmk];exact a5,λz y hz hy=> ?_⟩;by_cases q:y=k
   ·subst q;exact nl.1
   ·rw [e y q];exact a6 z y hz hy
 case rw=>
  intro m hm p o hr' y r hy;rw [e y (kW _ y (by rw [hy];exact List.mem_cons_self))];by_cases q:m=k
  ·subst q
   rcases hr with ⟨o',q1,_,_⟩|⟨_,q2,_⟩
   ·exact h.rw m hm _ _ q1 y r hy
   ·rw [q2] at hr';cases hr'
  ·rw [e m q] at hr';exact h.rw m hm p o hr' y r hy
 case ru=>
  have back:∀ m p o,Be m= .H_ p o->∃ p' o',ro m= .H_ p' o':=λm p o q=>by
   by_cases hm:m=k
   ·subst hm
    rcases hr with ⟨o',q1,_,_⟩|⟨_,q2,_⟩
    ·exact ⟨_,_,q1⟩
    ·rw [q2] at q;cases q
   ·exact ⟨p,o,by rw [<-e m hm];exact q⟩
  intro a b ha hb p o p' o' r1 r2 hc;obtain ⟨_,_,r1⟩:=back a p o r1;obtain ⟨_,_,r2⟩:=back b p' o' r2;exact h.ru a b ha hb _ _ _ _ r1 r2 hc
 case rg=>have:=h.rg;grind
 case rh=>
  intro y hy p hl;by_cases q:y=k
  ·subst q
   rcases hr with ⟨o,_,q2,_⟩|⟨q1,_,_⟩
   ·rw [q2] at hl;cases hl
   ·exact h.rh y hy _ q1
  ·rw [e y q] at hl;exact h.rh y hy p hl
 case gs=>
  intro t ht;obtain ⟨a1,r,p,a2,a3,a4,a5⟩:=h.gs t ht;refine ⟨a1,?_⟩;by_cases q:t=k
  ·subst q
   rcases hr with ⟨o,q1,_,_⟩|⟨q1,q2,q3⟩
   ·rw [a3] at q1;cases q1
   ·exact ⟨r,1,a2,q2,.inr rfl,λ_=>q3⟩
  ·exact ⟨r,p,a2,by rw [e t q];exact a3,a4,by rw [v t q];exact a5⟩
 case xr=>have:=h.xr;grind
 case aq=>
  intro a b hab;refine ⟨(h.aq a b hab).1,λhl=> ?_⟩;have q:b≠k:=by rintro rfl;exact nl.1 hl
  rw [e b q] at hl;exact (h.aq a b hab).2 hl
 case hq=>
  intro y r hy;refine ⟨(h.hq y r hy).1,λhl=> ?_⟩;have q:y≠k:=by rintro rfl;exact nl.1 hl
  rw [e y q] at hl;exact (h.hq y r hy).2 hl
 case aw=>intro c a b hab;rw [e b (kW c b (AU hab).2)];exact h.aw c a b hab
 case hw=>intro c y r hy;rw [e y (kW c y (by rw [hy];exact List.mem_cons_self))];exact h.hw c y r hy
 case st=>
  intro c hc;obtain ⟨a1,a2⟩:=h.st c hc;refine ⟨a1,?_⟩;rcases a2 with a2|⟨m,m1,m2,p,m3⟩
  ·exact .inl a2
  ·by_cases q:m=k
   ·subst q
    rcases hr with ⟨o',q1,q2,_⟩|⟨q1,_,_⟩
    ·rw [q1] at m3;cases m3;exact .inr ⟨m,m1,m2,6,q2⟩
    ·rw [q1] at m3;cases m3
   ·exact .inr ⟨m,m1,m2,p,by rw [e m q];exact m3⟩
theorem cB (h:Cor n cl nd A ro V T K X P F g Q W) (hk:k<n) (hr:ro k= .H_ 6 o) (e0:Be k= .Cw) (e:∀ u,u≠k->Be u=ro u) (x0:Ca (X' o)=Ca (X o)/\Dh (X' o)=Dh (X o)/\E7 (X' o)=1) (x:∀ j,j≠o->X' j=X j):Cor n cl nd A Be V T K X' P F g Q W:=by
 obtain ⟨_,b2,⟨z0,z1,z2,z3⟩,b4,b5,b6⟩:=h.rs k hk 6 o hr;have hQ:k∈Q:=(D9 z2).1;have zQ:z0∈Q:=(D9 z2).2;have zn:=h.ql z0 zQ;have kW:∀ c,∀ x∈W c,x≠k:=λc x hx q=>(h.mw c x hx).2.2.1 (by rw [q];exact hQ);have xo:∀ y,y<n->y≠z0->X' (nd y)=X (nd y):=λy hy q=>x _ (by rw [<-z1];exact h.RY zn hy q);have xW:∀ c,∀ y∈W c,X' (nd y)=X (nd y):=λc y hy=>xo y (h.wl c y hy).1 λq=>(h.mw c y hy).2.2.1 (by rw [q];exact zQ);have iF:X' F=X F:=x _ λq=>h.fn z0 zn (by rw [z1,q]);have A9:∀ m,m<n->∀ p o',Be m= .H_ p o'->ro m= .H_ p o'/\m≠k/\o'≠o:=λm hm p o' hr'=>by
  have hmk:m≠k:=by rintro rfl;rw [e0] at hr';cases hr'
  rw [e m hmk] at hr';refine ⟨hr',hmk,λq=> ?_⟩;obtain ⟨_,_,⟨z,y1,y2,y3⟩,_⟩:=h.rs m hm p o' hr';have:z=z0:=h.ni z z0 (h.ql z (D9 y2).2) zn (by rw [y1,z1,q]);subst this;exact hmk (h.ru m k hm hk _ _ _ _ hr' hr (by rw [<-y3,<-z3]))
 refine ⟨h.nq,h.nw,?mq,?mw,?ri,?rl,?rm,?rb,?rs,?rw,?ru,?rg,?rh,?gs,h.nr,h.ni,h.fr,h.fn,?xf,?xr,?xq,?xw,h.t0,h.tl,h.k0,h.kl,?aq,?hq,?aw,?hw,?st,h.f1,h.f2⟩
 case mq=>
  intro y hy;by_cases q:y=k
  ·subst q;rw [e0];exact ⟨hk,.inr (.inr (.inl rfl))⟩
  ·rw [e y q];exact h.mq y hy
 case mw=>intro c y hy;rw [e y (kW c y hy)];exact h.mw c y hy
 case ri=>intro y hy hr';by_cases q:y=k
          ·exact zz37
          ·exact zz4k
 case rl=>have:=h.rl;grind
 case rm=>have:=h.rm;grind
 case rb=>have:=h.rb;grind
 case rs=>
  intro m hm p o' hr';obtain ⟨hr1,hmk,ho⟩:=A9 m hm p o' hr';obtain ⟨a1,a2,a3,a4,a5,a6⟩:=h.rs m hm p o' hr1;refine ⟨a1,a2,a3,by rw [x _ ho];exact a4,by rw [x _ ho];exact a5,λz y hz hy=> ?_⟩;exact zz68
 case rw=>
  intro m hm p o' hr' y r hy;obtain ⟨hr1,hmk,ho⟩:=A9 m hm p o' hr';rw [e y (kW _ y (by rw [hy];exact List.mem_cons_self))];exact h.rw m hm p o' hr1 y r hy
 case ru=>
  intro a b ha hb p o p' o' r1 r2 hc;exact h.ru a b ha hb _ _ _ _ (A9 a ha _ _ r1).1 (A9 b hb _ _ r2).1 hc
 case rg=>
  intro y hy hl;by_cases q:y=k
  ·rw [q];exact hQ
  ·rw [e y q] at hl;exact h.rg y hy hl
 case rh=>have:=h.rh;grind
 case gs=>
  intro t ht;obtain ⟨a1,r,p,a2,a3,a4,a5⟩:=h.gs t ht;have q:t≠k:=by rintro rfl;rw [hr] at a3;cases a3
  refine ⟨a1,r,p,a2,by rw [e t q];exact a3,a4,?_⟩;rw [xo t a1 (λq2=> ?_)]
  ·exact a5
  ·subst q2
   have hn:=h.nq;rw [a2] at z2 hn;exact q (Mj hn z2).symm
 case xf=>rw [iF];exact h.xf
 case xr=>
  intro y hy hl;have q:y≠k:=by rintro rfl;rw [e0] at hl;cases hl
  rw [e y q] at hl;rw [xo y hy (λq2=>(h.ri y hy (.inr hl)).1 (by rw [q2];exact zQ))];exact h.xr y hy hl
 case xq=>
  intro y hy;by_cases q:y=z0
  ·subst q
   rw [z1,x0.1,x0.2.1,<-z1];exact h.xq y hy
  ·rw [xo y (h.ql y hy) q];exact h.xq y hy
 case xw=>intro c y hy;rw [xW c y hy];exact h.xw c y hy
 case aq=>
  intro a b hab;refine ⟨(h.aq a b hab).1,λhl=> ?_⟩;have q:b≠k:=by rintro rfl;rw [e0] at hl;cases hl
  rw [e b q] at hl;have q2:a≠z0:=λq2=>b6 a b (by rw [q2];exact z1) hab hl;rw [xo a (h.ql a (AU hab).1) q2];exact (h.aq a b hab).2 hl
 case hq=>
  intro y r hy;refine ⟨(h.hq y r hy).1,λhl=> ?_⟩;have q:y≠k:=by rintro rfl;rw [e0] at hl;cases hl
  rw [e y q] at hl;rw [iF];exact (h.hq y r hy).2 hl
 case aw=>intro c a b hab;rw [e b (kW c b (AU hab).2)];exact h.aw c a b hab
 case hw=>intro c y r hy;rw [e y (kW c y (by rw [hy];exact List.mem_cons_self))];exact h.hw c y r hy
 case st=>
  intro c hc;obtain ⟨a1,a2⟩:=h.st c hc;refine ⟨a1,?_⟩;by_cases q:P c=o
  ·rw [q];exact .inl (.inl (by rw [x0.2.2];decide))
  ·rw [x _ q]
   rcases a2 with a2|⟨m,m1,m2,p,m3⟩
   ·exact .inl a2
   ·by_cases qm:m=k
    ·subst qm;rw [hr] at m3;cases m3;exact absurd rfl q
    ·exact .inr ⟨m,m1,m2,p,by rw [e m qm];exact m3⟩
theorem cut (h:Cor n cl nd A ro V T K X P F g Q W) (hk:k<n) (hr:ro k= .UM o):∃ z s B,W (cl k)=(k::s)++B/\CV (k::s) z/\nd z=o:=by
 obtain ⟨r,z,h1,h2,h3⟩:=h.rb k hk o hr;rw [<-h1] at h2;obtain ⟨S,B,hs⟩:=List.append_of_mem h2;have:∃ s,S++[z]=k::s:=by
  cases S with
  |nil=>rw [hs] at h1;simp at h1;exact ⟨[],by simp [h1.1]⟩
  |cons a S=>rw [hs] at h1;simp at h1;exact ⟨S++[z],by simp [h1.1]⟩
 obtain ⟨s,q⟩:=this;exact ⟨z,s,B,by rw [hs,<-q];simp,⟨S,q.symm⟩,h3⟩
theorem bz (h:Cor n cl nd A ro V T K X P F g Q W) (hk:k<n) (hr:ro k= .UM o) {z:Nat} {s B:List Nat} (hw:W (cl k)=(k::s)++B) (hz:CV (k::s) z) (ho:nd z=o) (e0:Be k= .H_ 5 o) (e:∀ u,u≠k->Be u=ro u) (t0:T'=(o:Int)) (a0:(A' k:Int)=T) (a:∀ u,u≠k->A' u=A u) (w0:W' (cl k)=B) (w:∀ c,c≠cl k->W' c=W c) (p0:P' (cl k)=o) (p:∀ c,c≠cl k->P' c=P c):
  Cor n cl nd A' Be V T' K X P' F g (Q++k::s) W':=by
 have hwk:∃ r,W (cl k)=k::r:=⟨s++B,hw⟩
 obtain ⟨rr,hwr⟩:=hwk;have Nc:=h.quiet hk (.inr ⟨o,hr⟩) hwr;have sW:∀ x∈k::s,x∈W (cl k):=λx hx=>by rw [hw];exact List.mem_append_left _ hx
 have bW:∀ x∈B,x∈W (cl k):=λx hx=>by rw [hw];exact List.mem_append_right _ hx
 have hnd:=h.nw (cl k);rw [hw,List.nodup_append] at hnd;obtain ⟨kS,ma,kT⟩:=hnd;have sQ:∀ x∈k::s,x∉Q:=λx hx=>(h.mw _ x (sW x hx)).2.2.1;have kQ:∀ x∈Q,x≠k:=λx hx q=>sQ k List.mem_cons_self (q▸hx);have bk:∀ x∈B,x≠k:=λx hx q=>kT k List.mem_cons_self x hx q.symm;have nh:∀ x y,Dk (W (cl k)) x y->y≠k:=λx y hxy q=>by subst q;exact Cm (h.nw _) hxy rr hwr
 have sA:∀ x y,Dk (k::s) x y->Dk (W (cl k)) x y:=λx y hxy=>by rw [hw];exact UY hxy
 have bA:∀ x y,Dk B x y->Dk (W (cl k)) x y:=λx y hxy=>by rw [hw];exact UZ hxy
 have zs:z∈k::s:=C6 hz;have zn:z<n:=(h.wl _ z (sW z zs)).1;have zc:cl z=cl k:=(h.wl _ z (sW z zs)).2;have zB:∀ y r,B=y::r->Dk (W (cl k)) z y:=λy r hy=>by
  obtain ⟨S',q⟩:=hz;rw [hw,q,hy];exact ⟨S',r,by simp⟩
 have sl:∀ x∈k::s,x≠k->ro x= .loc/\∃ x',x'∈k::s/\x'≠z/\A x=nd x':=λx hx hn=>by
  obtain ⟨x',hx'⟩:=DR hx (λr q=>hn (List.cons.inj q).1.symm);obtain ⟨b1,b2⟩:=h.aw _ x' x (sA _ _ hx');exact ⟨b2,x',(AU hx').1,λq=>GQ kS hx' (q▸hz),b1⟩
 have nQ:(Q++k::s).Nodup:=by
  rw [List.nodup_append];exact ⟨h.nq,kS,λx hx y hy q=>sQ y hy (q▸hx)⟩
 have lQ:∀ x∈Q++k::s,x<n:=λx hx=>by
  rcases List.mem_append.1 hx with hx|hx
  ·exact h.ql x hx
  ·exact (h.wl _ x (sW x hx)).1
 have zl:CV (Q++k::s) z:=MU hz;have di:∀ c,c≠cl k->∀ x∈W c,x≠k/\x∉k::s:=λc hc x hx=>⟨λq=>hc (by rw [<-q];exact ((h.wl c x hx).2).symm),λq=>hc (by rw [<-(h.wl _ x (sW x q)).2];exact ((h.wl c x hx).2).symm)⟩
 refine ⟨nQ,?nw,?mq,?mw,?ri,?rl,?rm,?rb,?rs,?rw,?ru,?rg,?rh,?gs,h.nr,h.ni,h.fr,h.fn,h.xf,?xr,?xq,?xw,?t0,?tl,?k0,?kl,?aq,?hq,?aw,?hw,?st,?f1,?f2⟩
 case nw=>intro c;by_cases q:c=cl k
          ·rw [q,w0];exact ma
          ·rw [w c q];exact h.nw c
 case mq=>
  intro y hy;rcases List.mem_append.1 hy with hy|hy
  ·rw [e y (kQ y hy)];exact h.mq y hy
  ·refine ⟨(h.wl _ y (sW y hy)).1,?_⟩
   by_cases q:y=k
   ·rw [q,e0];exact .inr (.inl ⟨_,_,rfl⟩)
   ·rw [e y q];exact .inl (sl y hy q).1
 case mw=>
  intro c y hy;by_cases q:c=cl k
  ·subst q
   rw [w0] at hy;rw [e y (bk y hy)];obtain ⟨b1,b2,b3,b4⟩:=h.mw _ y (bW y hy);exact ⟨b1,b2,λq=>(List.mem_append.1 q).elim b3 λq=>kT y q y hy rfl,b4⟩
  ·rw [w c q] at hy
   obtain ⟨q1,q2⟩:=di c q y hy;rw [e y q1];obtain ⟨b1,b2,b3,b4⟩:=h.mw _ y hy;exact ⟨b1,b2,λq=>(List.mem_append.1 q).elim b3 q2,b4⟩
 case ri=>
  intro y hy hr';have q:y≠k:=by rintro rfl;rw [e0] at hr';rcases hr' with q|q<;>cases q
  rw [e y q] at hr';obtain ⟨b1,b2⟩:=h.ri y hy hr';have b3:y∉k::s:=λq=>b2 (by rw [(h.wl _ y (sW y q)).2];exact sW y q);refine ⟨λq=>(List.mem_append.1 q).elim b1 b3,λq2=> ?_⟩;by_cases q3:cl y=cl k
  ·rw [q3,w0] at q2;exact b2 (by rw [q3];exact bW y q2)
  ·rw [w _ q3] at q2;exact b2 q2
 case rl=>
  intro y hy hl;have q:y≠k:=by rintro rfl;rw [e0] at hl;cases hl
  rw [e y q] at hl;rcases h.rl y hy hl with b|b
  ·exact .inl (List.mem_append_left _ b)
  ·by_cases q3:cl y=cl k
   ·rw [q3,hw] at b
    rcases List.mem_append.1 b with b|b
    ·exact .inl (List.mem_append_right _ b)
    ·exact .inr (by rw [q3,w0];exact b)
   ·exact .inr (by rw [w _ q3];exact b)
 case rm=>
  intro y hy hl;have q:y≠k:=by rintro rfl;rw [e0] at hl;cases hl
  rw [e y q] at hl;obtain ⟨r,b⟩:=h.rm y hy hl;refine ⟨r,?_⟩;exact zz65
 case rb=>
  intro y hy o' hl;have q:y≠k:=by rintro rfl;rw [e0] at hl;cases hl
  rw [e y q] at hl;obtain ⟨r,z',b,b2,b3⟩:=h.rb y hy o' hl;refine ⟨r,z',?_,b2,b3⟩;exact zz65
 case rs=>
  intro m hm p' o' hr';by_cases hmk:m=k
  ·subst hmk
   rw [e0] at hr';cases hr';refine ⟨.inl rfl,p0,⟨z,ho,WL zs,zc⟩,by rw [<-ho];exact (h.xw _ z (sW z zs)).2.2,λq=>(by cases q),λz' y hz' hy=> ?_⟩;have:z'=z:=h.ni z' z (lQ z' (AU hy).1) zn (by rw [hz',ho]);subst this;exact absurd zl (GQ nQ hy)
  ·rw [e m hmk] at hr'
   obtain ⟨a1,a2,⟨z1,z2,z3,z4⟩,a4,a5,a6⟩:=h.rs m hm p' o' hr';have hc:cl m≠cl k:=λq=>Nc m hm q p' o' hr';refine ⟨a1,by rw [p _ hc];exact a2,⟨z1,z2,Td z3,z4⟩,a4,a5,λz' y hz' hy=> ?_⟩;rcases OT hy with hy|⟨_,rfl⟩|hy
   ·rw [e y (kQ y (AU hy).2)];exact a6 z' y hz' hy
   ·rw [e0];intro q;cases q
   ·have hz2:=(AU hy).1
    have:z'=z1:=h.ni z' z1 (h.wl _ z' (sW z' hz2)).1 (h.ql z1 (D9 z3).2) (by rw [hz',z2]);subst this;exact absurd (D9 z3).2 (sQ z' hz2)
 case rw=>
  intro m hm p' o' hr' y r hy;by_cases hmk:m=k
  ·subst hmk
   rw [w0] at hy;have:=zB y r hy;rw [e y (nh _ _ this)];exact (h.aw _ z y this).2
  ·rw [e m hmk] at hr'
   have hc:cl m≠cl k:=λq=>Nc m hm q p' o' hr';rw [w _ hc] at hy;rw [e y (di _ hc y (by rw [hy];exact List.mem_cons_self)).1];exact h.rw m hm p' o' hr' y r hy
 case ru=>
  intro m m' hm hm' p1 o1 p2 o2 r1 r2 hc;by_cases q1:m=k
  ·by_cases q2:m'=k
   ·rw [q1,q2]
   ·rw [e m' q2] at r2
    exact absurd r2 (Nc m' hm' (by rw [<-hc,q1]) _ _)
  ·rw [e m q1] at r1
   by_cases q2:m'=k
   ·exact absurd r1 (Nc m hm (by rw [hc,q2]) _ _)
   ·rw [e m' q2] at r2
    exact h.ru m m' hm hm' _ _ _ _ r1 r2 hc
 case rg=>
  intro y hy hl;have q:y≠k:=by rintro rfl;rw [e0] at hl;cases hl
  rw [e y q] at hl;exact List.mem_append_left _ (h.rg y hy hl)
 case rh=>have:=h.rh;grind
 case gs=>
  intro t ht;obtain ⟨a1,r,p',a2,a3,a4,a5⟩:=h.gs t ht;have q:t≠k:=by rintro rfl;rw [hr] at a3;cases a3
  exact ⟨a1,r++k::s,p',by rw [a2];rfl,by rw [e t q];exact a3,a4,a5⟩
 case xr=>have:=h.xr;grind
 case xq=>
  intro y hy;rcases List.mem_append.1 hy with hy|hy
  ·exact h.xq y hy
  ·obtain ⟨b1,b2,_⟩:=h.xw _ y (sW y hy)
   rw [(h.wl _ y (sW y hy)).2];exact ⟨b1,b2⟩
 case xw=>
  intro c y hy;by_cases q:c=cl k
  ·subst q;rw [w0] at hy;exact h.xw _ y (bW y hy)
  ·rw [w c q] at hy;exact h.xw c y hy
 case t0=>intro q;simp at q
 case tl=>intro y hy;rw [Dn hy zl,ho];exact t0
 case k0=>
  intro c hc;by_cases q:c=cl k
  ·subst q
   rw [w0] at hc;rw [p0,<-ho];refine h.kl _ z ?_;rw [hw,hc,List.append_nil];exact hz
  ·rw [w c q] at hc;rw [p c q];exact h.k0 c hc
 case kl=>
  intro c y hy;by_cases q:c=cl k
  ·subst q
   rw [w0] at hy;exact h.kl _ y (by rw [hw];exact MU hy)
  ·rw [w c q] at hy;exact h.kl c y hy
 case aq=>
  intro x y hxy;rcases OT hxy with hy|⟨hl,rfl⟩|hy
  ·have q:=kQ y (AU hy).2
   rw [e y q,a y q];exact h.aq x y hy
  ·refine ⟨?_,λq=>by rw [e0] at q;cases q⟩
   have:=h.tl x hl;omega
  ·have hy2:=sA _ _ hy
   have q:=nh _ _ hy2;obtain ⟨b1,b2⟩:=h.aw _ x y hy2;rw [a y q];exact ⟨b1,λ_=>⟨by rw [(h.wl _ y (AU hy2).2).2,(h.wl _ x (AU hy2).1).2],(h.xw _ x (AU hy2).1).2.2⟩⟩
 case hq=>
  intro y r hy;cases hQ:Q with
  |nil=>
   rw [hQ] at hy;obtain ⟨rfl,_⟩:=List.cons.inj hy;have:=h.t0 hQ;exact ⟨by omega,λq=>by rw [e0] at q;cases q⟩
  |cons b Q1=>
   rw [hQ] at hy;obtain ⟨rfl,_⟩:=List.cons.inj hy;have q:=kQ b (by rw [hQ];exact List.mem_cons_self);rw [e b q,a b q];exact h.hq b Q1 hQ
 case aw=>
  intro c x y hxy;have:Dk (W c) x y/\y≠k:=by
   by_cases q:c=cl k
   ·subst q;rw [w0] at hxy;exact ⟨bA _ _ hxy,nh _ _ (bA _ _ hxy)⟩
   ·rw [w c q] at hxy;exact ⟨hxy,(di c q y (AU hxy).2).1⟩
  rw [e y this.2,a y this.2];exact h.aw c x y this.1
 case hw=>
  intro c y r hy hl;by_cases q:c=cl k
  ·subst q
   rw [w0] at hy;have kL:=zB y r hy;rw [a y (nh _ _ kL),p0,<-ho];exact ⟨(h.aw _ z y kL).1,λq=>by have:=(h.nr z zn).1;omega⟩
  ·rw [w c q] at hy
   have q2:=(di c q y (by rw [hy];exact List.mem_cons_self)).1;rw [e y q2] at hl;rw [a y q2,p c q];exact h.hw c y r hy hl
 case st=>
  intro c hc;by_cases q:c=cl k
  ·subst q
   rw [p0];exact ⟨by rw [<-ho];exact (h.nr z zn).2,.inr ⟨k,hk,rfl,5,e0⟩⟩
  ·rw [p c q] at hc ⊢
   obtain ⟨a1,a2⟩:=h.st c hc;refine ⟨a1,?_⟩;rcases a2 with a2|⟨m,m1,m2,p',m3⟩
   ·exact .inl a2
   ·exact .inr ⟨m,m1,m2,p',by rw [e m (by rintro rfl;exact q m2.symm)];exact m3⟩
 case f1=>
  intro y hy hn;have hn:y∉Q/\y∉k::s:=⟨λq=>hn (List.mem_append_left _ q),λq=>hn (List.mem_append_right _ q)⟩
  by_cases q:cl y=cl k
  ·rw [q,p0,<-ho]
   exact h.RY zn hy λq=>hn.2 (q▸zs)
  ·rw [p _ q];exact h.f1 y hy hn.1
 case f2=>
  intro y hy;by_cases q:cl y=cl k
  ·rw [q,p0,<-ho]
   by_cases qk:y=k
   ·subst qk
    by_cases hQ:Q=[]
    ·have:=h.t0 hQ
     have:=h.fn z zn;omega
    ·obtain ⟨l,hl⟩:=G0 hQ
     have:=h.tl l hl;have q3:=h.RY zn (h.ql l (C6 hl)) (λq=>sQ z zs (q▸C6 hl));omega
   ·rw [a y qk]
    rcases List.mem_append.1 hy with hy|hy
    ·by_cases hh:∃ r,Q=y::r
     ·obtain ⟨r,hh⟩:=hh
      rw [(h.hq y r hh).1];exact λq=>h.fn z zn q.symm
     ·obtain ⟨x,hx⟩:=DR hy (λr hq=>hh ⟨r,hq⟩)
      rw [(h.aq x y hx).1];exact h.RY zn (h.ql x (AU hx).1) λq=>sQ z zs (q▸(AU hx).1)
    ·obtain ⟨_,x',x1,x2,x3⟩:=sl y hy qk
     rw [x3];exact h.RY zn (h.wl _ x' (sW x' x1)).1 x2
  ·rw [p _ q,a y (λq2=>q (by rw [q2]))]
   rcases List.mem_append.1 hy with hy|hy
   ·exact h.f2 y hy
   ·exact absurd (h.wl _ y (sW y hy)).2 q
theorem O5 (h:Cor n cl nd A ro V T K X P F (some k) Q W) (e0:Be k= .idle) (e:∀ u,u≠k->Be u=ro u) (n0:LY k=A k) (nn:∀ u,u≠k->LY u=nd u) (x0:Ca (X' (nd k))=Ca (X (nd k))/\Dh (X' (nd k))=0/\E7 (X' (nd k))=E7 (X (nd k))) (x:∀ j,j≠nd k->X' j=X j):∃ r,Q=k::r/\Cor n cl LY A Be V T K X' P (nd k) none r W:=by
 obtain ⟨hk,r,p0,rfl,hr,_,_⟩:=h.gs k rfl;refine ⟨r,rfl,?_⟩;have hnd:=List.nodup_cons.1 h.nq;have kW:∀ c,∀ x∈W c,x≠k:=λc x hx q=>(h.mw c x hx).2.2.1 (by rw [q];exact List.mem_cons_self);have rk:∀ x∈r,x≠k:=λx hx q=>hnd.1 (q▸hx);have hA:A k=F:=(h.hq k r rfl).1;have rn:∀ y∈r,y<n:=λy hy=>h.ql y (List.mem_cons_of_mem _ hy);have xr:∀ y∈r,X' (LY y)=X (nd y):=λy hy=>by rw [nn y (rk y hy)];exact x _ (h.RY hk (rn y hy) (rk y hy))
 have xW:∀ c,∀ y∈W c,X' (LY y)=X (nd y):=λc y hy=>by rw [nn y (kW c y hy)];exact x _ (h.RY hk (h.wl c y hy).1 (kW c y hy))
 have hsp:∀ m,m<n->∀ p o,Be m= .H_ p o->ro m= .H_ p o/\m≠k:=λm hm p o hr'=>by
  have hmk:m≠k:=by rintro rfl;rw [e0] at hr';cases hr'
  exact ⟨by rw [<-e m hmk];exact hr',hmk⟩
 have aD:∀ m,m<n->∀ p o,ro m= .H_ p o->m≠k->X' o=X o/\∃ z,LY z=o/\Pre r m z/\cl z=cl m:=λm hm p o hr' hmk=>by
  obtain ⟨_,_,⟨z,z1,z2,z3⟩,_⟩:=h.rs m hm p o hr';have zk:z≠k:=λq=>hmk (Mj h.nq (q▸z2));have z2:=Te z2 hmk;exact ⟨by rw [<-z1];exact x _ (h.RY hk (rn z (D9 z2).2) zk),z,by rw [nn z zk];exact z1,z2,z3⟩
 refine ⟨hnd.2,h.nw,?mq,?mw,?ri,?rl,?rm,?rb,?rs,?rw,?ru,?rg,?rh,λt q=>(by cases q),?nr,?ni,h.nr k hk,?fn,x0.2.1,?xr,?xq,?xw,?t0,?tl,h.k0,?kl,?aq,?hq,?aw,?hw,?st,?f1,λy hy=>h.f2 y (List.mem_cons_of_mem _ hy)⟩
 case mq=>intro y hy;rw [e y (rk y hy)];exact h.mq y (List.mem_cons_of_mem _ hy)
 case mw=>
  intro c y hy;rw [e y (kW c y hy)];obtain ⟨b1,b2,b3,b4⟩:=h.mw c y hy;exact ⟨b1,b2,λq=>b3 (List.mem_cons_of_mem _ q),b4⟩
 case ri=>
  intro y hy hr';by_cases q:y=k
  ·subst q;exact ⟨hnd.1,λq=>kW _ y q rfl⟩
  ·rw [e y q] at hr'
   obtain ⟨b1,b2⟩:=h.ri y hy hr';exact ⟨λq=>b1 (List.mem_cons_of_mem _ q),b2⟩
 case rl=>
  intro y hy hl;have q:y≠k:=by rintro rfl;rw [e0] at hl;cases hl
  rw [e y q] at hl;exact (h.rl y hy hl).imp (λb=>(List.mem_cons.1 b).resolve_left q) id
 case rm=>have:=h.rm;grind
 case rb=>
  intro y hy o hl;have q:y≠k:=by rintro rfl;rw [e0] at hl;cases hl
  rw [e y q] at hl;obtain ⟨r',z,b1,b2,b3⟩:=h.rb y hy o hl;exact ⟨r',z,b1,b2,by rw [nn z (kW _ z (by rw [b1];exact b2))];exact b3⟩
 case rs=>
  intro m hm p o hr';obtain ⟨hr',hmk⟩:=hsp m hm p o hr';obtain ⟨a1,a2,_,a4,a5,a6⟩:=h.rs m hm p o hr';obtain ⟨b1,b2⟩:=aD m hm p o hr' hmk;refine ⟨a1,a2,b2,by rw [b1];exact a4,by rw [b1];exact a5,λz y hz hy=> ?_⟩;have q:=rk y (AU hy).2;have q2:=rk z (AU hy).1;rw [nn z q2] at hz;rw [e y q];exact a6 z y hz (Fe hy)
 case rw=>
  intro m hm p o hr' y r' hy;obtain ⟨hr',hmk⟩:=hsp m hm p o hr';exact zz5w
 case ru=>
  intro a b ha hb p o p' o' r1 r2 hc;exact h.ru a b ha hb _ _ _ _ (hsp a ha _ _ r1).1 (hsp b hb _ _ r2).1 hc
 case rg=>
  intro y hy hl;have q:y≠k:=by rintro rfl;rw [e0] at hl;cases hl
  rw [e y q] at hl;exact (List.mem_cons.1 (h.rg y hy hl)).resolve_left q
 case rh=>
  intro y hy p hl;have q:y≠k:=by rintro rfl;rw [e0] at hl;cases hl
  rw [e y q] at hl;exact absurd (Option.some.inj (h.rh y hy p hl)).symm q
 case nr=>
  intro y hy;by_cases q:y=k
  ·subst q;rw [n0,hA];exact h.fr
  ·rw [nn y q];exact h.nr y hy
 case ni=>
  intro y y' hy hy' hq;by_cases q:y=k
  ·by_cases q2:y'=k
   ·rw [q,q2]
   ·rw [q,n0,hA,nn y' q2] at hq
    exact absurd hq.symm (h.fn y' hy')
  ·by_cases q2:y'=k
   ·rw [q2,n0,hA,nn y q] at hq
    exact absurd hq (h.fn y hy)
   ·rw [nn y q,nn y' q2] at hq;exact h.ni y y' hy hy' hq
 case fn=>
  intro y hy;by_cases q:y=k
  ·subst q;rw [n0,hA];exact λq=>h.fn y hy q.symm
  ·rw [nn y q];exact h.RY hk hy q
 case xr=>
  intro y hy hl;have q:y≠k:=by rintro rfl;rw [e0] at hl;cases hl
  rw [e y q] at hl;rw [nn y q,x _ (h.RY hk hy q)];exact h.xr y hy hl
 case xq=>intro y hy;rw [xr y hy];exact h.xq y (List.mem_cons_of_mem _ hy)
 case xw=>intro c y hy;rw [xW c y hy];exact h.xw c y hy
 case t0=>intro q;subst q;exact h.tl k F9
 case tl=>intro y hy;rw [nn y (rk y (C6 hy))];exact h.tl y (F8 hy)
 case kl=>intro c y hy;rw [nn y (kW c y (C6 hy))];exact h.kl c y hy
 case aq=>
  intro a b hab;have q:=rk a (AU hab).1;rw [e b (rk b (AU hab).2),xr a (AU hab).1,nn a q];exact h.aq a b (Fe hab)
 case hq=>
  intro y r' hy;subst hy;obtain ⟨b1,b2⟩:=h.aq k y Ff;rw [e y (rk y List.mem_cons_self),x0.1,x0.2.2];refine ⟨b1,λhl=> ?_⟩;obtain ⟨c1,c2⟩:=b2 hl;exact ⟨by rw [(h.xq k List.mem_cons_self).1,c1],c2⟩
 case aw=>intro c a b hab;rw [e b (kW c b (AU hab).2),nn a (kW c a (AU hab).1)];exact h.aw c a b hab
 case hw=>intro c y r' hy;rw [e y (kW c y (by rw [hy];exact List.mem_cons_self))];exact h.hw c y r' hy
 case st=>
  intro c hc;obtain ⟨a1,a2⟩:=h.st c hc;refine ⟨a1,?_⟩;rcases a2 with a2|⟨m,m1,m2,p,m3⟩
  ·left
   by_cases q:P c=nd k
   ·rw [q,x0.1,x0.2.2,<-q];exact a2
   ·rw [x _ q];exact a2
  ·exact zz1q
 case f1=>
  intro y hy hn;by_cases q:y=k
  ·subst q;rw [n0];exact h.f2 y List.mem_cons_self
  ·rw [nn y q]
   exact h.f1 y hy λq2=>(List.mem_cons.1 q2).elim q hn
theorem fF (h:Cor n cl nd A ro V T K X P F g Q W) (hk:k<n) (hr:ro k= .loc\/ro k= .Cw):1<=A k/\A k<=n+1:=by
 have key:k∈Q->1<=A k/\A k<=n+1:=λhm=>by
  by_cases hh:∃ r,Q=k::r
  ·obtain ⟨r,hh⟩:=hh
   rw [(h.hq k r hh).1];exact h.fr
  ·obtain ⟨x,hx⟩:=DR hm (λr hq=>hh ⟨r,hq⟩)
   rw [(h.aq x k hx).1];exact h.nr x (h.ql x (AU hx).1)
 rcases hr with hr|hr
 ·rcases h.rl k hk hr with hm|hm
  ·exact key hm
  ·by_cases hh:∃ r,W (cl k)=k::r
   ·obtain ⟨r,hh⟩:=hh
    obtain ⟨a1,a2⟩:=h.hw _ k r hh hr;have:=h.st _ a2;omega
   ·obtain ⟨x,hx⟩:=DR hm (λr hq=>hh ⟨r,hq⟩)
    rw [(h.aw _ x k hx).1];exact h.nr x (h.wl _ x (AU hx).1).1
 ·exact key (h.rg k hk hr)
theorem kN (h:Cor n cl nd A ro V T K X P F g Q W) (c:Nat):∃ m:Nat,K c=(m:Int):=by
 by_cases q:W c=[]
 ·exact ⟨_,h.k0 c q⟩
 ·obtain ⟨z,_,z2,_⟩:=h.Ni q
  exact ⟨_,z2⟩
theorem n_ (h:Cor n cl nd A ro V T K X P F g Q W):∃ m:Nat,T=(m:Int):=by
 by_cases q:Q=[]
 ·exact ⟨_,h.t0 q⟩
 ·obtain ⟨z,hz⟩:=G0 q
  exact ⟨_,h.tl z hz⟩
theorem start (n:Nat) (cl A:Nat->Nat) (nd:Nat->Nat) (hnd:∀ t,nd t=t+1) (ro:Nat->Ro) (hro:∀ t,ro t= .idle) (V:Nat->Int) (K X:Nat->Int) (hK:∀ c,K c=0) (hX:Dh (X (n+1))=0):Cor n cl nd A ro V ((n+1:Nat):Int) K X (λ_=>0) (n+1) none [] (λ_=>[]):=by
 have b7:∀ {x y:Nat},¬ Dk [] x y:=λh=>by have:=(AU h).1;cases this
 refine ⟨List.nodup_nil,λ_=>List.nodup_nil,λx hx=>(by cases hx),λc x hx=>(by cases hx),λx _ _=>⟨by simp,by simp⟩,λx _ h=> ?_,λx _ h=> ?_,λx _ o h=> ?_,λx _ p o h=> ?_,λx _ p o h=> ?_,λx y _ _ p o p' o' h=> ?_,λx _ h=> ?_,λx _ p h=> ?_,λt h=>(by cases h),λx hx=> ?_,λx y _ _ h=> ?_,⟨by omega,by omega⟩,λx hx=> ?_,hX,λx _ h=> ?_,λx hx=>(by cases hx),λc x hx=>(by cases hx),λ_=>rfl,λk h=> ?_,λc _=>hK c,λc k h=> ?_,λx y h=>absurd h b7,λy r h=>(by cases h),λc x y h=>absurd h b7,λc y r h=>(by cases h),λc h=>absurd rfl h,λx _ _=> ?_,λx hx=>(by cases hx)⟩
 all_goals first|(rw [hro] at h;cases h)|(rw [hnd];omega)|(rw [hnd,hnd] at h;omega)|(have:=C6 h;cases this)
end Cor
theorem BL {ps:AK} {k i:Nat} {a:Int} (hk:k<ps.ac.length) (ha:a=((i:Nat):Int)) (hi:i<ps.ws.length):
  A6 ps k 1 a=ps.ws.getD i 0/\(A5 ps k 1 a 0 0).ws=ps.ws/\(A5 ps k 1 a 0 0).ac.length=ps.ac.length/\(A5 ps k 1 a 0 0).D.length=ps.D.length+1:=by
 subst ha;exact zzq
theorem BQ {ps:AK} {k i:Nat} {a v:Int} (hk:k<ps.ac.length) (ha:a=((i:Nat):Int)) (hi:i<ps.ws.length):
  (A5 ps k 2 a 0 v).ws=ps.ws.set i v/\(A5 ps k 2 a 0 v).ac.length=ps.ac.length/\(A5 ps k 2 a 0 v).D.length=ps.D.length+1:=by
 subst ha;exact zz10
theorem El {ps:AK} {k i:Nat} {a v:Int} (hk:k<ps.ac.length) (ha:a=((i:Nat):Int)) (hi:i<ps.ws.length):
  A6 ps k 3 a=ps.ws.getD i 0/\(A5 ps k 3 a 0 v).ws=ps.ws.set i v/\(A5 ps k 3 a 0 v).ac.length=ps.ac.length/\(A5 ps k 3 a 0 v).D.length=ps.D.length+1:=zz1l
theorem Fi {ps:AK} {k i:Nat} {a old v:Int} (hk:k<ps.ac.length) (ha:a=((i:Nat):Int)) (hi:i<ps.ws.length):
  (casT ps k a old=true↔ps.ws.getD i 0=old)/\(A5 ps k 4 a old v).ws=(if ps.ws.getD i 0=old then ps.ws.set i v else ps.ws)/\(A5 ps k 4 a old v).ac.length=ps.ac.length/\(A5 ps k 4 a old v).D.length=ps.D.length+1:=zzl
theorem BU {s:SS} {k:Nat} {ev:Int} (h:AH (s.st k) ev=none):s.fin k ev=s:=zz1c
theorem Aw {s:SS} {k:Nat} {ev y:Int} (hk:k<s.n) (h:AH (s.st k) ev=some y):s.fin k ev=s.set k y 0:=zz19
theorem Aq (s:SS) (t:Nat):s.fin t Dd.no.ev=s:=BU (by
 unfold AH;rw [Qq (λq=>absurd q.2 (by decide)),Qq (λq=>q.2.elim (λq=>absurd q (by decide)) λq=>absurd q (by decide)),Qq (λq=>absurd q.2 (by decide)),Qq (λq=>q.2.elim (λq=>absurd q (by decide)) λq=>absurd q (by decide))])
def wT (ps:AK):Int:=ps.ws.getD 0 0
def wK (ps:AK) (c:Nat):Int:=if c<8 then ps.ws.getD (c+1) 0 else 0
def wX (ps:AK):Nat->Int
 |0=>0
 |i+1=>ps.ws.getD (i+9) 0
theorem BI {l:List Int} {i:Nat} (v:Int) (h:i<l.length):(l.set i v).getD i 0=v:=by simp [h]
theorem AG {l:List Int} {i j:Nat} (v:Int) (h:i≠j):(l.set i v).getD j 0=l.getD j 0:=zz44
theorem Bq {ps ps':AK} (h:ps'.ws=ps.ws):wT ps'=wT ps/\wK ps'=wK ps/\wX ps'=wX ps:=by
 refine ⟨by unfold wT;rw [h],funext λi=>by unfold wK;rw [h],funext λi=>by cases i<;>simp [wX,h]⟩
theorem jK {ps ps':AK} {v:Int} (hl:0<ps.ws.length) (h:ps'.ws=ps.ws.set 0 v):wT ps'=v/\wK ps'=wK ps/\wX ps'=wX ps:=by
 refine ⟨by unfold wT;rw [h];exact BI v hl,funext λc=> ?_,funext λi=> ?_⟩
 ·unfold wK;rw [h,AG _ (by omega)]
 ·exact zz1w
theorem jJ {ps ps':AK} {v:Int} {c:Nat} (hl:c+1<ps.ws.length) (h8:c<8) (h:ps'.ws=ps.ws.set (c+1) v):wT ps'=wT ps/\(wK ps' c=v/\∀ j,j≠c->wK ps' j=wK ps j)/\wX ps'=wX ps:=by
 refine ⟨by unfold wT;rw [h];exact AG _ (by omega),⟨by unfold wK;rw [Qj h8,h];exact BI v hl,λj hj=>by unfold wK;rw [h,AG _ (by omega)]⟩,funext λi=> ?_⟩;exact zz1w
theorem Yq {ps ps':AK} {v:Int} {i:Nat} (hl:i+9<ps.ws.length) (h:ps'.ws=ps.ws.set (i+9) v):wT ps'=wT ps/\wK ps'=wK ps/\wX ps' (i+1)=v/\∀ j,j≠i+1->wX ps' j=wX ps j:=by
 refine ⟨by unfold wT;rw [h];exact AG _ (by omega),funext λc=> ?_,?_,λj hj=> ?_⟩
 ·unfold wK
  by_cases q:c<8
  ·rw [Qj q,Qj q,h,AG _ (by omega)]
  ·rw [Qq q,Qq q]
 ·show ps'.ws.getD _ 0=v;rw [h];exact BI v hl
 ·exact zzp
theorem Ls {c w s:Int} (hw:w=0\/w=1) (hs:s=0\/s=1):Ca (wd c w s)=c/\Dh (wd c w s)=w/\E7 (wd c w s)=s:=by
 unfold Ca Dh E7 wd;omega
def FL.ro (f:FL) (t:Nat):Ro:=
 if f.s.st t=1 then (if f.pc t=0 then .idle else if f.pc t=1 then .fresh else if f.pc t=2 then .loc else if f.pc t=3 then .UQ else if f.pc t=4 then .UM (f.of t).toNat else if f.pc t<=6 then .H_ (f.pc t).toNat (f.of t).toNat else .Cw)
 else if f.s.st t=2 then .hold 0
 else if f.s.st t=3 then .hold (f.pc t).toNat
 else .idle
section
variable {f:FL} {t:Nat}
theorem iY (h:f.s.st t=1) (p:f.pc t=0):f.ro t= .idle:=by unfold FL.ro;rw [Qj h,Qj p]
theorem kv (h:f.s.st t=1) (p:f.pc t=1):f.ro t= .fresh:=by unfold FL.ro;rw [Qj h,Qq (by omega),Qj p]
theorem iZ (h:f.s.st t=1) (p:f.pc t=2):f.ro t= .loc:=by unfold FL.ro;rw [Qj h,Qq (by omega),Qq (by omega),Qj p]
theorem ib (h:f.s.st t=1) (p:f.pc t=3):f.ro t= .UQ:=by unfold FL.ro;rw [Qj h,Qq (by omega),Qq (by omega),Qq (by omega),Qj p]
theorem kx {o:Nat} (h:f.s.st t=1) (p:f.pc t=4) (ho:f.of t=(o:Int)):f.ro t= .UM o:=by unfold FL.ro;rw [Qj h,Qq (by omega),Qq (by omega),Qq (by omega),Qq (by omega),Qj p,ho];rfl
theorem eN {o p:Nat} (h:f.s.st t=1) (e:f.pc t=(p:Int)) (hp:p=5\/p=6) (ho:f.of t=(o:Int)):f.ro t= .H_ p o:=by unfold FL.ro;rw [Qj h,Qq (by omega),Qq (by omega),Qq (by omega),Qq (by omega),Qq (by omega),Qj (by omega),ho,e];rfl
theorem ie (h:f.s.st t=1) (p:f.pc t=7):f.ro t= .Cw:=by unfold FL.ro;rw [Qj h,Qq (by omega),Qq (by omega),Qq (by omega),Qq (by omega),Qq (by omega),Qq (by omega)]
theorem ZA (h:f.s.st t=2):f.ro t= .hold 0:=by unfold FL.ro;rw [Qq (by omega),Qj h]
theorem bt {p:Nat} (h:f.s.st t=3) (e:f.pc t=(p:Int)):f.ro t= .hold p:=by unfold FL.ro;rw [Qq (by omega),Qq (by omega),Qj h,e];rfl
theorem eP (h:f.s.st t=0):f.ro t= .idle:=by unfold FL.ro;rw [Qq (by omega),Qq (by omega),Qq (by omega)]
end
def rest (g:Option Nat) (Q:List Nat):List Nat:=match g with
 |none=>Q
 |some _=>Q.tail
def Xp:Ro->Bool
 | .H_ _ _=>true
 | .Cw=>true
 |_=>false
def row (ro:Nat->Ro) (g:Option Nat) (Q:List Nat):List Nat:=(rest g Q).filter λt=>Xp (ro t)
def Qy (cl:Nat->Nat) (g:Option Nat) (Q:List Nat) (W:Nat->List Nat) (c:Nat):List Nat:=(rest g Q).filter (λt=>decide (cl t=c))++W c
def FL.cN (f:FL) (t:Nat):Nat:=(f.cl t).toNat
def FL.nN (f:FL) (t:Nat):Nat:=(f.nd t).toNat
def FL.aN (f:FL) (t:Nat):Nat:=(f.AL t).toNat
structure OrdJ (f:FL) (g:Option Nat) (Q:List Nat) (W:Nat->List Nat):Prop where
 n8:f.s.n<=8
 np:f.s.Af=false
 len:f.ps.ws.length=f.s.n+10
 ac:f.ps.ac.length=f.s.n
 Ae:∃ P F,Cor f.s.n f.cN f.nN f.aN f.ro f.wv (wT f.ps) (wK f.ps) (wX f.ps) P F g Q W
 cls:∀ t,t<f.s.n->0<=f.cl t/\f.cl t<=7
 Ev:∀ t,0<=f.pc t/\f.pc t<=7
 dR:∀ t,t<f.s.n->0<=f.s.st t/\f.s.st t<=3
 KG:∀ t,t<f.s.n->f.s.st t=3->f.pc t<=1
 Iu:∀ t,t<f.s.n->f.s.st t≠1->f.s.st t≠3->f.pc t=0
 Di:∀ t,0<=f.nd t
 N9:∀ t,0<=f.AL t
 Lb:∀ t,0<=f.of t
def EA (x p:Int):Nat:=if x=1 then (12-p).toNat else if x=2 then 4 else if x=3 then (3-p).toNat else 0
inductive OrdJ.J2 (q:Nat->List Nat) (c k:Nat) (d:Dd) (q':Nat->List Nat):Prop where
 |same (h0:d.BW=false) (h1:d.ev≠1) (e:∀ j,q' j=q j):J2 q c k d q'
 |BW (hd:d=⟨0,true,false,false⟩) (e0:q' c=q c++[k]) (e:∀ j,j≠c->q' j=q j):J2 q c k d q'
 |Bs (hd:∃ b,d=⟨1,false,false,b⟩) (e0:q c=k::q' c) (e:∀ j,j≠c->q' j=q j):J2 q c k d q'
inductive OrdJ.BC (W:List Nat) (k:Nat) (d:Dd) (W':List Nat):Prop where
 |same (h0:d.arr=false) (h1:d.lead=false) (e:W'=W):BC W k d W'
 |arr (hd:d=⟨0,false,true,false⟩) (e:W'=W++[k]):BC W k d W'
 |lead (hd:d=⟨1,false,false,true⟩) (e:W=k::W'):BC W k d W'
def Halt (f:FL) (k:Nat):Prop:=f.s.st k=0\/f.s.st k=2\/(f.s.st k=1/\f.pc k=2/\(Ca (wX f.ps (f.aN k))=f.cl k/\E7 (wX f.ps (f.aN k))=0)/\Dh (wX f.ps (f.aN k))=1)\/(f.s.st k=1/\f.pc k=7/\Dh (wX f.ps (f.aN k))=1)
structure Fc (f f':FL) (g:Option Nat) (Q:List Nat) (W:Nat->List Nat) (k:Nat) (d:Dd) (g':Option Nat) (Q':List Nat) (W':Nat->List Nat) (y:Int):Prop where
 ord:OrdJ f' g' Q' W'
 q:OrdJ.J2 (Qy f.cN g Q W) (f.cN k) k d (Qy f.cN g' Q' W')
 r:OrdJ.BC (row f.ro g Q) k d (row f'.ro g' Q')
 st:∀ j,f'.s.st j=upd f.s.st k y j
 n:f'.s.n=f.s.n
 cl:f'.cl=f.cl
 A9:∀ j,j≠k->f'.pc j=f.pc j/\f'.AL j=f.AL j
 D:f'.ps.D.length<=f.ps.D.length+1
 on:EA y (f'.pc k)+1<=EA (f.s.st k) (f.pc k)\/(Halt f k/\f'.s=f.s/\f'.pc k=f.pc k/\f'.AL k=f.AL k/\f'.ps.ws=f.ps.ws)
 ev:d.ev=1->f.s.st k=1/\y=2/\∃ b,d=⟨1,false,false,b⟩
 ZW:d.ev≠1->y≠2\/f.s.st k=2
namespace OrdJ
variable {f:FL} {g:Option Nat} {Q:List Nat} {W:Nat->List Nat} {L:Lp}
theorem Dc {f f':FL} {k:Nat} {y:Int} (st:∀ j,f'.s.st j=upd f.s.st k y j) (hp:∀ j,j≠k->f'.pc j=f.pc j) (ho:∀ j,j≠k->f'.of j=f.of j):∀ u,u≠k->f'.ro u=f.ro u:=λu hu=>by
 unfold FL.ro;rw [st u,A0 _ _ hu,hp u hu,ho u hu]
theorem put (h:OrdJ f g Q W) {f':FL} {g':Option Nat} {Q':List Nat} {W':Nat->List Nat} {k:Nat} {y:Int} (hn:f'.s.n=f.s.n) (hb:f'.s.Af=f.s.Af) (he:f'.cl=f.cl) (hl:f'.ps.ws.length=f.ps.ws.length) (ha:f'.ps.ac.length=f.ps.ac.length)
  (st:∀ j,f'.s.st j=upd f.s.st k y j) (ho:∀ j,j≠k->f'.pc j=f.pc j/\f'.nd j=f.nd j/\f'.AL j=f.AL j/\f'.of j=f.of j)
  (k1:0<=f'.pc k/\f'.pc k<=7) (k2:0<=y/\y<=3) (k3:y=3->f'.pc k<=1) (k4:y≠1->y≠3->f'.pc k=0) (k5:0<=f'.nd k/\0<=f'.AL k/\0<=f'.of k)
  (hc:∃ P F,Cor f.s.n f.cN f'.nN f'.aN f'.ro f'.wv (wT f'.ps) (wK f'.ps) (wX f'.ps) P F g' Q' W'):OrdJ f' g' Q' W':=by
 have Jm:f'.cN=f.cN:=by unfold FL.cN;rw [he]
 refine ⟨by rw [hn];exact h.n8,by rw [hb];exact h.np,by rw [hl,hn];exact h.len,by rw [ha,hn];exact h.ac,by rw [hn,Jm];exact hc,λt ht=>by rw [he];exact h.cls t (by omega),λt=> ?_,λt ht=> ?_,λt ht hs=> ?_,λt ht h1 h3=> ?_,λt=> ?_,λt=> ?_,λt=> ?_⟩
 ·by_cases q:t=k
  ·subst q;exact k1
  ·rw [(ho t q).1];exact h.Ev t
 ·exact zz5n
 ·rw [st t] at hs
  by_cases q:t=k
  ·subst q;rw [upd_same] at hs;exact k3 hs
  ·rw [A0 _ _ q] at hs;rw [(ho t q).1];exact h.KG t (by omega) hs
 ·rw [st t] at h1 h3
  by_cases q:t=k
  ·subst q;rw [upd_same] at h1 h3;exact k4 h1 h3
  ·rw [A0 _ _ q] at h1 h3;rw [(ho t q).1];exact h.Iu t (by omega) h1 h3
 ·by_cases q:t=k
  ·subst q;exact k5.1
  ·rw [(ho t q).2.1];exact h.Di t
 ·by_cases q:t=k
  ·subst q;exact k5.2.1
  ·rw [(ho t q).2.2.1];exact h.N9 t
 ·by_cases q:t=k
  ·subst q;exact k5.2.2
  ·rw [(ho t q).2.2.2];exact h.Lb t
theorem F4 {n:Nat} {cl nd A:Nat->Nat} {ro Be:Nat->Ro} {V:Nat->Int} {T:Int} {K X:Nat->Int} {P:Nat->Nat} {F:Nat} (h:Cor n cl nd A ro V T K X P F g Q W) (e:∀ u,Be u=ro u):Cor n cl nd A Be V T K X P F g Q W:=by
 rw [show Be=ro from funext e];exact h
theorem I4 {f f':FL} {k:Nat} (h0:f'.ro k=f.ro k) (h:∀ u,u≠k->f'.ro u=f.ro u):∀ u,f'.ro u=f.ro u:=λu=>by
 by_cases q:u=k
 ·rw [q];exact h0
 ·exact h u q
theorem lock (h:OrdJ f g Q W) (t d:Int):OrdJ (f.lock t d) g Q W:=by
 unfold FL.lock SS.lock;split
 ·rename_i he
  unfold BZ at he;split at he
  ·rename_i hc
   split at he
   ·rename_i hs
    have hk:t.toNat<f.s.n:=by omega
    have p0:=h.Iu _ hk (by omega) (by omega);obtain ⟨P,F,c⟩:=h.Ae;exact h.put (k:=t.toNat) (y:=1) rfl rfl rfl rfl rfl (λ_=>rfl) (λ_ _=>⟨rfl,rfl,rfl,rfl⟩) (h.Ev _) (by omega) (by omega) (λq=>absurd rfl q) ⟨h.Di _,h.N9 _,h.Lb _⟩ ⟨P,F,F4 c (I4 (f':={f with s:=f.s.set t.toNat 1 d}) (k:=t.toNat) ((iY (f:={f with s:=f.s.set t.toNat 1 d}) (upd_same _ _ _) p0).trans (eP hs).symm) (Dc (y:=1) (λ_=>rfl) (λ_ _=>rfl) λ_ _=>rfl))⟩
   ·omega
  ·omega
 ·exact h
theorem turn (h:OrdJ f g Q W) (t:Int):OrdJ (f.turn t 3) g Q W:=by
 unfold FL.turn SS.turn;split
 ·rename_i he
  unfold BR at he;split at he
  ·rename_i hc
   split at he
   ·omega
   ·split at he
    ·rename_i hs
     have hk:t.toNat<f.s.n:=by omega
     have p0:=h.Iu _ hk (by omega) (by omega);obtain ⟨P,F,c⟩:=h.Ae;exact h.put (k:=t.toNat) (y:=3) rfl rfl rfl rfl rfl (λ_=>rfl) (λ_ _=>⟨rfl,rfl,rfl,rfl⟩) (h.Ev _) (by omega) (λ_=>by show f.pc _<=1;omega) (λ_ q=>absurd rfl q) ⟨h.Di _,h.N9 _,h.Lb _⟩ ⟨P,F,F4 c (I4 (f':={f with s:=f.s.set t.toNat 3 (f.s.dl t.toNat)}) (k:=t.toNat) ((bt (f:={f with s:=f.s.set t.toNat 3 (f.s.dl t.toNat)}) (p:=0) (upd_same _ _ _) p0).trans (ZA hs).symm) (Dc (y:=3) (λ_=>rfl) (λ_ _=>rfl) λ_ _=>rfl))⟩
    ·omega
  ·omega
 ·exact h
theorem D6 {t:Int} (hk:¬ ((0:Int)<=t/\t<f.s.n)):f.did L t t=Dd.no/\f.step L t t=f:=zzr
theorem D5 {k:Nat} (hk:k<f.s.n) (s1:f.s.st k≠1) (s3:f.s.st k≠3):f.did L k k=Dd.no/\f.step L k k=f:=by
 have ht:(0:Int)<=(k:Int)/\(k:Int)<f.s.n:=by omega
 have e:f.did L k k=Dd.no:=by unfold FL.did;rw [Qj ht,Int.toNat_natCast,Qq s1,Qq s3]
 have em:f.mid L k k=f:=by unfold FL.mid;rw [Qj ht,Int.toNat_natCast,Qq s1,Qq s3]
 refine ⟨e,?_⟩;unfold FL.step;rw [e,em,Aq]
theorem at_one {k:Nat} (hk:k<f.s.n) (s1:f.s.st k=1):f.did L k k=f.A7 L k k/\f.step L k k={f.acq L k k with s:=f.s.fin k (f.A7 L k k).ev}:=zz2l
theorem B6 {k:Nat} (hk:k<f.s.n) (s3:f.s.st k=3):f.did L k k=f.AX L k k/\f.step L k k={f.rel L k k with s:=f.s.fin k (f.AX L k k).ev}:=zz28
theorem BV {α:Type} (f:Nat->α) (k:Nat):∀ j,f j=upd f k (f k) j:=λj=>zz6n
theorem CL (h:OrdJ f g Q W) {f':FL} {k:Nat} {d:Dd} {g':Option Nat} {Q':List Nat} {W':Nat->List Nat} {y:Int} (hs:(f'.s=f.s/\y=f.s.st k)\/f'.s=f.s.set k y 0) (he:f'.cl=f.cl) (hl:f'.ps.ws.length=f.ps.ws.length) (ha:f'.ps.ac.length=f.ps.ac.length) (hD:f'.ps.D.length=f.ps.D.length+1)
  (ho:∀ j,j≠k->f'.pc j=f.pc j/\f'.nd j=f.nd j/\f'.AL j=f.AL j/\f'.of j=f.of j)
  (k1:0<=f'.pc k/\f'.pc k<=7) (k2:0<=y/\y<=3) (k3:y=3->f'.pc k<=1) (k4:y≠1->y≠3->f'.pc k=0) (k5:0<=f'.nd k/\0<=f'.AL k/\0<=f'.of k)
  (hc:f'.s.st k=y->(∀ u,u≠k->f'.ro u=f.ro u)->(∃ P F,Cor f.s.n f.cN f'.nN f'.aN f'.ro f'.wv (wT f'.ps) (wK f'.ps) (wX f'.ps) P F g' Q' W')/\J2 (Qy f.cN g Q W) (f.cN k) k d (Qy f.cN g' Q' W')/\BC (row f.ro g Q) k d (row f'.ro g' Q'))
  (on:EA y (f'.pc k)+1<=EA (f.s.st k) (f.pc k)\/(Halt f k/\f'.s=f.s/\f'.pc k=f.pc k/\f'.AL k=f.AL k/\f'.ps.ws=f.ps.ws))
  (ev:d.ev=1->f.s.st k=1/\y=2/\∃ b,d=⟨1,false,false,b⟩) (ZW:d.ev≠1->y≠2\/f.s.st k=2):Fc f f' g Q W k d g' Q' W' y:=by
 have st:∀ j,f'.s.st j=upd f.s.st k y j:=λj=>zz6v;have hn:f'.s.n=f.s.n:=by rcases hs with ⟨e,_⟩|e<;>rw [e];rfl
 have hb:f'.s.Af=f.s.Af:=by rcases hs with ⟨e,_⟩|e<;>rw [e];rfl
 have hro:=Dc st (λj e=>(ho j e).1) (λj e=>(ho j e).2.2.2);have hk':f'.s.st k=y:=(st k).trans (upd_same _ _ _);obtain ⟨c1,c2,c3⟩:=hc hk' hro;exact ⟨h.put hn hb he hl ha st ho k1 k2 k3 k4 k5 c1,c2,c3,st,hn,he,λj e=>⟨(ho j e).1,(ho j e).2.2.1⟩,Nat.le_of_eq hD,on,ev,ZW⟩
theorem jV (h2:L.a2=1) (c:Nat):L.cA (c:Int)=((c+1:Nat):Int):=by unfold Lp.cA;rw [h2];omega
theorem RX (h2:L.a2=1) (i:Nat):L.nA ((i+1:Nat):Int)=((i+9:Nat):Int):=by unfold Lp.nA;rw [h2];omega
theorem H9 {ro Be:Nat->Ro} {g:Option Nat} {Q:List Nat} (h:∀ u∈rest g Q,Xp (Be u)=Xp (ro u)):row Be g Q=row ro g Q:=List.filter_congr h
theorem JY {j:Nat} (h:j∈rest g Q):j∈Q:=zz73
theorem La (h:OrdJ f g Q W) {k:Nat} (hk:k<f.s.n):∃ i,f.nd k=((i+1:Nat):Int)/\f.nN k=i+1/\i+9<f.ps.ws.length:=by
 obtain ⟨P,F,c⟩:=h.Ae;have:=c.nr k hk;have:=h.Di k;have:=h.len;unfold FL.nN at*;exact ⟨(f.nd k).toNat-1,by omega,by omega,by omega⟩
theorem Ur (h:OrdJ f g Q W) {k:Nat} (hk:k<f.s.n):∃ c:Nat,f.cl k=(c:Int)/\f.cN k=c/\c<8/\c+1<f.ps.ws.length:=by
 have:=h.cls k hk;have:=h.len;unfold FL.cN;exact ⟨(f.cl k).toNat,by omega,rfl,by omega,by omega⟩
theorem OU (h:OrdJ f g Q W) {k:Nat} (hk:k<f.s.n) (hr:f.ro k= .loc\/f.ro k= .Cw):∃ i,f.AL k=((i+1:Nat):Int)/\f.aN k=i+1/\i+9<f.ps.ws.length:=by
 obtain ⟨P,F,c⟩:=h.Ae;have:=c.fF hk hr;have:=h.N9 k;have:=h.len;unfold FL.aN at*;exact ⟨(f.AL k).toNat-1,by omega,by omega,by omega⟩
theorem XO {ps:AK} {c:Nat} (h:c<8):wK ps c=ps.ws.getD (c+1) 0:=Qj h
theorem OI {α:Type} (f:Nat->α) (k:Nat) (v:α):(upd f k v k=v)/\∀ j,j≠k->upd f k v j=f j:=⟨upd_same _ _ _,λj hj=>A0 _ _ hj⟩
theorem Iv {ro Be:Nat->Ro} {g:Option Nat} {Q:List Nat} {k:Nat} (hk:k∉Q) (h:∀ u,u≠k->Be u=ro u):row Be g Q=row ro g Q:=H9 λu hu=>by rw [h u λq=>hk (q▸JY hu)]
theorem GG {ro Be:Nat->Ro} {g:Option Nat} {Q:List Nat} {k:Nat} (hk:Xp (Be k)=Xp (ro k)) (h:∀ u,u≠k->Be u=ro u):row Be g Q=row ro g Q:=H9 λu hu=>by
 by_cases q:u=k
 ·rw [q,hk]
 ·rw [h u q]
theorem Ml {ro Be:Nat->Ro} {Q:List Nat} {k:Nat} (hk:k∉Q) (h:∀ u,u≠k->Be u=ro u):row ro none (k::Q)=(if Xp (ro k) then [k] else [])++row Be (some k) (k::Q):=by
 have e:row Be (some k) (k::Q)=row ro none Q:=H9 (g:=none) (Q:=Q) λu hu=>by rw [h u λq=>hk (q▸hu)]
 rw [e];show List.filter _ (k::Q)=_;rw [List.filter_cons];split<;>rfl
theorem Gy {cl:Nat->Nat} {Q:List Nat} {k:Nat} (j:Nat):Qy cl none (k::Q) W j=(if cl k=j then [k] else [])++Qy cl (some k) (k::Q) W j:=by
 show List.filter _ (k::Q)++W j=_;rw [List.filter_cons];by_cases q:cl k=j
 ·rw [Qj (by simpa using q),Qj q];rfl
 ·rw [Qq (by simpa using q),Qq q];rfl
theorem Ti {s:List Nat} (h:∀ t,g=some t->Q≠[]):rest g (Q++s)=rest g Q++s:=by
 cases g with
 |none=>rfl
 |some t=>
  cases Q with
  |nil=>exact absurd rfl (h t rfl)
  |cons a r=>rfl
theorem dA (h:OrdJ f g Q W) (h1:L.a1=0) (h2:L.a2=1) {k:Nat} (hk:k<f.s.n) (sk:f.s.st k=1) (pk:f.pc k=0):∃ g' Q' W' y,Fc f (f.step L k k) g Q W k (f.did L k k) g' Q' W' y:=by
 obtain ⟨ed,es⟩:=at_one (L:=L) hk sk;rw [ed,es];have CY:k<f.ps.ac.length:=by rw [h.ac];exact hk
 have hlen:=h.len;obtain ⟨P,F,c⟩:=h.Ae;have hr:=iY sk pk;obtain ⟨i,hi,hN,hil⟩:=h.La hk;obtain ⟨cc,hcl,Jm,VU,QI⟩:=h.Ur hk;obtain ⟨b,lc,ld⟩:=BQ (v:=wd (f.cl k) 1 0) CY ((congrArg L.nA hi).trans (RX h2 i)) hil;obtain ⟨wt,wk,f0,ff⟩:=Yq hil b;have e1:f.acq L k k={f with pc:=upd f.pc k 1,ps:=A5 f.ps k 2 (L.nA (f.nd k)) 0 (wd (f.cl k) 1 0)}:=by unfold FL.acq;rw [Qj pk]
 have e2:f.A7 L k k=Dd.no:=by unfold FL.A7;rw [Qj pk]
 rw [e1,e2,Aq];have eF:=(c.ri k hk (.inl hr)).1;refine ⟨g,Q,W,1,h.CL (.inl ⟨rfl,sk.symm⟩) rfl (by show (A5 _ _ _ _ _ _).ws.length=_;rw [b,List.length_set]) lc ld (λj e=>⟨A0 _ _ e,rfl,rfl,rfl⟩) (by simp only [upd_same];omega) (by omega) (λ_=>by simp only [upd_same];omega) (λ_ _=>by first|exact upd_same _ _ _|omega) ⟨h.Di k,h.N9 k,h.Lb k⟩ (λhy hro=>⟨⟨P,F,?_⟩,.same rfl (by decide) (λ_=>rfl),.same rfl rfl (Iv eF hro)⟩) (.inl (by simp only [upd_same];rw [sk,pk];simp [EA]<;>omega)) (λw=>absurd w (by decide)) (λ_=> .inl (by decide))⟩;show Cor _ f.cN f.nN _ _ _ (wT (A5 _ _ _ _ _ _)) (wK (A5 _ _ _ _ _ _)) (wX (A5 _ _ _ _ _ _)) _ _ _ _ _;rw [wt,wk];refine c.WV hk hr (kv hy (upd_same _ _ _)) hro ?_ (by rw [hN];exact ff);rw [hN,f0,Jm,hcl];exact Ls (.inr rfl) (.inl rfl)
theorem Tw (h:OrdJ f g Q W) (h1:L.a1=0) (h2:L.a2=1) {k:Nat} (hk:k<f.s.n) (sk:f.s.st k=1) (pk:f.pc k=1):∃ g' Q' W' y,Fc f (f.step L k k) g Q W k (f.did L k k) g' Q' W' y:=by
 obtain ⟨ed,es⟩:=at_one (L:=L) hk sk;rw [ed,es];have CY:k<f.ps.ac.length:=by rw [h.ac];exact hk
 have hlen:=h.len;obtain ⟨P,F,c⟩:=h.Ae;have hr:=kv sk pk;obtain ⟨i,hi,hN,hil⟩:=h.La hk;obtain ⟨cc,hcl,Jm,VU,QI⟩:=h.Ur hk;obtain ⟨a1,b,lc,ld⟩:=El (v:=f.nd k) CY ((congrArg L.cA hcl).trans (jV h2 cc)) QI;obtain ⟨wt,⟨k0,kk⟩,wx⟩:=jJ QI VU b;have hv:A6 f.ps k 3 (L.cA (f.cl k))=wK f.ps cc:=a1.trans (XO VU).symm;obtain ⟨m,hm⟩:=c.kN cc;have eF:=(c.ri k hk (.inr hr)).1;obtain ⟨w0,ww⟩:=OI W cc (W cc++[k]);have e2:f.A7 L k k=⟨0,true,false,false⟩:=by unfold FL.A7;rw [Qq (by omega),Qj pk]
 have kE:J2 (Qy f.cN g Q W) (f.cN k) k ⟨0,true,false,false⟩ (Qy f.cN g Q (upd W cc (W cc++[k]))):=by
  rw [Jm];refine .BW rfl ?_ λj hj=> ?_
  ·unfold Qy;rw [w0,List.append_assoc]
  ·unfold Qy;rw [ww j hj]
 have hnn:f.nd k=((f.nN k:Nat):Int):=by rw [hi,hN]
 by_cases q:wK f.ps cc=0
 ·have e1:f.acq L k k={f with pc:=upd f.pc k 3,AL:=upd f.AL k (wK f.ps cc),ps:=A5 f.ps k 3 (L.cA (f.cl k)) 0 (f.nd k)}:=by unfold FL.acq;rw [Qq (by omega),Qj pk,hv,Qj q]
  rw [e1,e2,BU (by rw [sk];rfl)];refine ⟨g,Q,upd W cc (W cc++[k]),1,h.CL (.inl ⟨rfl,sk.symm⟩) rfl (by show (A5 _ _ _ _ _ _).ws.length=_;rw [b,List.length_set]) lc ld (λj e=>⟨A0 _ _ e,rfl,A0 _ _ e,rfl⟩) (by simp only [upd_same];omega) (by omega) (λ_=>by simp only [upd_same];omega) (λ_ _=>by first|exact upd_same _ _ _|omega) ⟨h.Di k,by simp only [upd_same];omega,h.Lb k⟩ (λhy hro=>⟨⟨P,F,?_⟩,kE,.same rfl rfl (Iv eF hro)⟩) (.inl (by simp only [upd_same];rw [sk,pk];simp [EA]<;>omega)) (λw=>absurd w (by decide)) (λ_=> .inl (by decide))⟩;show Cor _ f.cN f.nN _ _ _ (wT (A5 _ _ _ _ _ _)) (wK (A5 _ _ _ _ _ _)) (wX (A5 _ _ _ _ _ _)) _ _ _ _ _;rw [wt,wx];exact c.O4 hk hr (by rw [Jm];exact q) (ib hy (upd_same _ _ _)) hro (by rw [Jm,k0];exact hnn) (by rw [Jm];exact kk) (λu hu=>by show Int.toNat (upd _ _ _ u)=_;rw [A0 _ _ hu];rfl) (by rw [Jm];exact w0) (by rw [Jm];exact ww)
 ·have e1:f.acq L k k={f with pc:=upd f.pc k 2,AL:=upd f.AL k (wK f.ps cc),ps:=A5 f.ps k 3 (L.cA (f.cl k)) 0 (f.nd k)}:=by unfold FL.acq;rw [Qq (by omega),Qj pk,hv,Qq q]
  rw [e1,e2,BU (by rw [sk];rfl)];refine ⟨g,Q,upd W cc (W cc++[k]),1,h.CL (.inl ⟨rfl,sk.symm⟩) rfl (by show (A5 _ _ _ _ _ _).ws.length=_;rw [b,List.length_set]) lc ld (λj e=>⟨A0 _ _ e,rfl,A0 _ _ e,rfl⟩) (by simp only [upd_same];omega) (by omega) (λ_=>by simp only [upd_same];omega) (λ_ _=>by first|exact upd_same _ _ _|omega) ⟨h.Di k,by simp only [upd_same];omega,h.Lb k⟩ (λhy hro=>⟨⟨P,F,?_⟩,kE,.same rfl rfl (Iv eF hro)⟩) (.inl (by simp only [upd_same];rw [sk,pk];simp [EA]<;>omega)) (λw=>absurd w (by decide)) (λ_=> .inl (by decide))⟩;show Cor _ f.cN f.nN _ _ _ (wT (A5 _ _ _ _ _ _)) (wK (A5 _ _ _ _ _ _)) (wX (A5 _ _ _ _ _ _)) _ _ _ _ _;rw [wt,wx];exact c.YK hk hr (by rw [Jm];exact q) (iZ hy (upd_same _ _ _)) hro (by rw [Jm,k0];exact hnn) (by rw [Jm];exact kk) (by show ((Int.toNat (upd _ _ _ k):Nat):Int)=_;rw [upd_same,Jm];omega) (λu hu=>by show Int.toNat (upd _ _ _ u)=_;rw [A0 _ _ hu];rfl) (by rw [Jm];exact w0) (by rw [Jm];exact ww)
theorem Tx (h:OrdJ f g Q W) (h1:L.a1=0) (h2:L.a2=1) {k:Nat} (hk:k<f.s.n) (sk:f.s.st k=1) (pk:f.pc k=2):∃ g' Q' W' y,Fc f (f.step L k k) g Q W k (f.did L k k) g' Q' W' y:=by
 obtain ⟨ed,es⟩:=at_one (L:=L) hk sk;rw [ed,es];have CY:k<f.ps.ac.length:=by rw [h.ac];exact hk
 have hlen:=h.len;obtain ⟨P,F,c⟩:=h.Ae;have hr:=iZ sk pk;obtain ⟨i,hi,hA,hil⟩:=h.OU hk (.inl hr);obtain ⟨cc,hcl,Jm,VU,QI⟩:=h.Ur hk;obtain ⟨a1,b,lc,ld⟩:=BL CY ((congrArg L.nA hi).trans (RX h2 i)) hil;obtain ⟨wt,wk,wx⟩:=Bq b;have hv:A6 f.ps k 1 (L.nA (f.AL k))=wX f.ps (f.aN k):=by rw [hA];exact a1
 have hlo:=c.looks hk hr;rw [Jm,<-hcl] at hlo;rcases hlo with ⟨q1,q2,q3⟩|⟨q1,q2,q3,rfl,r,rfl⟩|⟨q,Nc,r,hw⟩
 ·have e1:f.acq L k k={f with pc:=upd f.pc k 2,ps:=A5 f.ps k 1 (L.nA (f.AL k)) 0 0}:=by unfold FL.acq;rw [Qq (by omega),Qq (by omega),Qj pk,hv,Qj ⟨q1,q2⟩,Qq (by rw [q3];decide)]
  have e2:f.A7 L k k=Dd.no:=by unfold FL.A7;rw [Qq (by omega),Qq (by omega),Qj pk,hv,Qq (λw=>by rw [q3] at w;exact absurd w.2 (by decide))]
  rw [e1,e2,Aq];refine ⟨g,Q,W,1,h.CL (.inl ⟨rfl,sk.symm⟩) rfl (by show (A5 _ _ _ _ _ _).ws.length=_;rw [b]) lc ld (λj e=>⟨A0 _ _ e,rfl,rfl,rfl⟩) (by simp only [upd_same];omega) (by omega) (λ_=>by simp only [upd_same];omega) (λ_ _=>by first|exact upd_same _ _ _|omega) ⟨h.Di k,h.N9 k,h.Lb k⟩ (λhy hro=> ?_) (.inr ⟨.inr (.inr (.inl ⟨sk,pk,⟨q1,q2⟩,q3⟩)),rfl,(upd_same _ _ _).trans pk.symm,rfl,b⟩) (λw=>absurd w (by decide)) (λ_=> .inl (by decide))⟩;have CN:FL.ro {f with pc:=upd f.pc k 2,ps:=A5 f.ps k 1 (L.nA (f.AL k)) 0 0} k= .loc:=iZ hy (upd_same _ _ _);exact zz2n
 ·have e1:f.acq L k k={f with pc:=upd f.pc k 0,ps:=A5 f.ps k 1 (L.nA (f.AL k)) 0 0}:=by unfold FL.acq;rw [Qq (by omega),Qq (by omega),Qj pk,hv,Qj ⟨q1,q2⟩,Qj q3]
  have e2:f.A7 L k k=⟨1,false,false,false⟩:=by unfold FL.A7;rw [Qq (by omega),Qq (by omega),Qj pk,hv,Qj ⟨⟨q1,q2⟩,q3⟩]
  rw [e1,e2,Aw hk (by rw [sk];rfl:AH (f.s.st k) 1=some 2)];have hn:=(List.nodup_cons.1 c.nq).1;refine ⟨some k,k::r,W,2,h.CL (.inr rfl) rfl (by show (A5 _ _ _ _ _ _).ws.length=_;rw [b]) lc ld (λj e=>⟨A0 _ _ e,rfl,rfl,rfl⟩) (by simp only [upd_same];omega) (by omega) (λ_=>by simp only [upd_same];omega) (λ_ _=>by first|exact upd_same _ _ _|omega) ⟨h.Di k,h.N9 k,h.Lb k⟩ (λhy hro=>⟨⟨P,F,?_⟩,.Bs ⟨_,rfl⟩ ?_ λj hj=> ?_,.same rfl rfl ?_⟩) (.inl (by simp only [upd_same];rw [sk,pk];simp [EA]<;>omega)) (λ_=>⟨sk,rfl,false,rfl⟩) (λw=>absurd rfl w)⟩
  ·show Cor _ f.cN f.nN _ _ _ (wT (A5 _ _ _ _ _ _)) (wK (A5 _ _ _ _ _ _)) (wX (A5 _ _ _ _ _ _)) _ _ _ _ _
   rw [wt,wk,wx];exact c.Tm (.inl hr) (ZA hy) hro
  ·rw [Gy,Qj rfl];rfl
  ·rw [Gy j,Qq λq=>hj q.symm];rfl
  ·rw [Ml hn hro,hr];rfl
 ·have e1:f.acq L k k={f with pc:=upd f.pc k 3,ps:=A5 f.ps k 1 (L.nA (f.AL k)) 0 0}:=by unfold FL.acq;rw [Qq (by omega),Qq (by omega),Qj pk,hv,Qq q]
  have e2:f.A7 L k k=Dd.no:=by unfold FL.A7;rw [Qq (by omega),Qq (by omega),Qj pk,hv,Qq (λw=>q w.1)]
  rw [e1,e2,Aq];refine ⟨g,Q,W,1,h.CL (.inl ⟨rfl,sk.symm⟩) rfl (by show (A5 _ _ _ _ _ _).ws.length=_;rw [b]) lc ld (λj e=>⟨A0 _ _ e,rfl,rfl,rfl⟩) (by simp only [upd_same];omega) (by omega) (λ_=>by simp only [upd_same];omega) (λ_ _=>by first|exact upd_same _ _ _|omega) ⟨h.Di k,h.N9 k,h.Lb k⟩ (λhy hro=> ?_) (.inl (by simp only [upd_same];rw [sk,pk];simp [EA]<;>omega)) (λw=>absurd w (by decide)) (λ_=> .inl (by decide))⟩;have CN:FL.ro {f with pc:=upd f.pc k 3,ps:=A5 f.ps k 1 (L.nA (f.AL k)) 0 0} k= .UQ:=ib hy (upd_same _ _ _);refine ⟨⟨P,F,?_⟩,.same rfl (by decide) (λ_=>rfl),.same rfl rfl (GG (by rw [CN,hr];rfl) hro)⟩;show Cor _ f.cN f.nN _ _ _ (wT (A5 _ _ _ _ _ _)) (wK (A5 _ _ _ _ _ _)) (wX (A5 _ _ _ _ _ _)) _ _ _ _ _;rw [wt,wk,wx];exact c.ik hk hr (by rw [Jm];exact Nc) (by rw [Jm];exact hw) CN hro
theorem Ty (h:OrdJ f g Q W) (h1:L.a1=0) (h2:L.a2=1) {k:Nat} (hk:k<f.s.n) (sk:f.s.st k=1) (pk:f.pc k=3):∃ g' Q' W' y,Fc f (f.step L k k) g Q W k (f.did L k k) g' Q' W' y:=by
 obtain ⟨ed,es⟩:=at_one (L:=L) hk sk;rw [ed,es];have CY:k<f.ps.ac.length:=by rw [h.ac];exact hk
 have hlen:=h.len;obtain ⟨P,F,c⟩:=h.Ae;have hr:=ib sk pk;obtain ⟨cc,hcl,Jm,VU,QI⟩:=h.Ur hk;obtain ⟨a1,b,lc,ld⟩:=BL CY ((congrArg L.cA hcl).trans (jV h2 cc)) QI;obtain ⟨wt,wk,wx⟩:=Bq b;have hv:A6 f.ps k 1 (L.cA (f.cl k))=wK f.ps cc:=a1.trans (XO VU).symm;obtain ⟨m,hm⟩:=c.kN cc;have e1:f.acq L k k={f with pc:=upd f.pc k 4,of:=upd f.of k (wK f.ps cc),ps:=A5 f.ps k 1 (L.cA (f.cl k)) 0 0}:=by unfold FL.acq;rw [Qq (by omega),Qq (by omega),Qq (by omega),Qj pk,hv]
 have e2:f.A7 L k k=Dd.no:=by unfold FL.A7;rw [Qq (by omega),Qq (by omega),Qq (by omega),Qj pk]
 rw [e1,e2,Aq];refine ⟨g,Q,W,1,h.CL (.inl ⟨rfl,sk.symm⟩) rfl (by show (A5 _ _ _ _ _ _).ws.length=_;rw [b]) lc ld (λj e=>⟨A0 _ _ e,rfl,rfl,A0 _ _ e⟩) (by simp only [upd_same];omega) (by omega) (λ_=>by simp only [upd_same];omega) (λ_ _=>by first|exact upd_same _ _ _|omega) ⟨h.Di k,h.N9 k,by simp only [upd_same];omega⟩ (λhy hro=> ?_) (.inl (by simp only [upd_same];rw [sk,pk];simp [EA]<;>omega)) (λw=>absurd w (by decide)) (λ_=> .inl (by decide))⟩;have CN:FL.ro {f with pc:=upd f.pc k 4,of:=upd f.of k (wK f.ps cc),ps:=A5 f.ps k 1 (L.cA (f.cl k)) 0 0} k= .UM m:=kx hy (upd_same _ _ _) ((upd_same _ _ _).trans hm);refine ⟨⟨P,F,?_⟩,.same rfl (by decide) (λ_=>rfl),.same rfl rfl (GG (by rw [CN,hr];rfl) hro)⟩;show Cor _ f.cN f.nN _ _ _ (wT (A5 _ _ _ _ _ _)) (wK (A5 _ _ _ _ _ _)) (wX (A5 _ _ _ _ _ _)) _ _ _ _ _;rw [wt,wk,wx];exact c.iq hk hr (by rw [Jm];exact hm) CN hro
theorem Tz (h:OrdJ f g Q W) (h1:L.a1=0) (h2:L.a2=1) {k:Nat} (hk:k<f.s.n) (sk:f.s.st k=1) (pk:f.pc k=4):∃ g' Q' W' y,Fc f (f.step L k k) g Q W k (f.did L k k) g' Q' W' y:=by
 obtain ⟨ed,es⟩:=at_one (L:=L) hk sk;rw [ed,es];have CY:k<f.ps.ac.length:=by rw [h.ac];exact hk
 have hlen:=h.len;obtain ⟨P,F,c⟩:=h.Ae;obtain ⟨o,ho⟩:=Qx (h.Lb k);have hr:=kx sk pk ho;obtain ⟨a1,b,lc,ld⟩:=El (v:=f.of k) (i:=0) CY h1 (by omega);obtain ⟨wt,wk,wx⟩:=jK (by omega) b;have hv:A6 f.ps k 3 L.a1=wT f.ps:=a1;obtain ⟨m,hm⟩:=c.n_;obtain ⟨z,s,B,hw,hz,mD⟩:=c.cut hk hr;have e1:f.acq L k k={f with pc:=upd f.pc k 5,AL:=upd f.AL k (wT f.ps),ps:=A5 f.ps k 3 L.a1 0 (f.of k)}:=by unfold FL.acq;rw [Qq (by omega),Qq (by omega),Qq (by omega),Qq (by omega),Qj pk,hv]
 have e2:f.A7 L k k=⟨0,false,true,false⟩:=by unfold FL.A7;rw [Qq (by omega),Qq (by omega),Qq (by omega),Qq (by omega),Qj pk]
 rw [e1,e2,BU (by rw [sk];rfl)];obtain ⟨w0,ww⟩:=OI W (f.cN k) B;obtain ⟨p0,pp⟩:=OI P (f.cN k) o;have hrest:rest g (Q++k::s)=rest g Q++k::s:=Ti λt ht=>by
  obtain ⟨_,r,p,hQ,_⟩:=c.gs t ht;rw [hQ];simp
 have sW:∀ x∈k::s,x∈W (f.cN k):=λx hx=>by rw [hw];exact List.mem_append_left _ hx
 have kQ:k∉Q:=λq=>(c.mw _ k (sW k List.mem_cons_self)).2.2.1 q;have hnd:=c.nw (f.cN k);rw [hw] at hnd;have ks:k∉s:=λq=>(List.nodup_cons.1 hnd).1 (List.mem_append_left _ q);have hsl:∀ x∈s,f.ro x= .loc:=λx hx=>by
  obtain ⟨x',hx'⟩:=DR (Q:=(k::s)++B) (j:=x) (List.mem_append_left _ (List.mem_cons_of_mem _ hx)) (λr q=>ks (by rw [(List.cons.inj q).1];exact hx));rw [<-hw] at hx';exact (c.aw _ x' x hx').2
 refine ⟨g,Q++k::s,upd W (f.cN k) B,1,h.CL (.inl ⟨rfl,sk.symm⟩) rfl (by show (A5 _ _ _ _ _ _).ws.length=_;rw [b,List.length_set]) lc ld (λj e=>⟨A0 _ _ e,rfl,A0 _ _ e,rfl⟩) (by simp only [upd_same];omega) (by omega) (λ_=>by simp only [upd_same];omega) (λ_ _=>by first|exact upd_same _ _ _|omega) ⟨h.Di k,by simp only [upd_same];omega,h.Lb k⟩ (λhy hro=> ?_) (.inl (by simp only [upd_same];rw [sk,pk];simp [EA]<;>omega)) (λw=>absurd w (by decide)) (λ_=> .inl (by decide))⟩;have CN:FL.ro {f with pc:=upd f.pc k 5,AL:=upd f.AL k (wT f.ps),ps:=A5 f.ps k 3 L.a1 0 (f.of k)} k= .H_ 5 o:=eN (p:=5) hy (upd_same _ _ _) (.inl rfl) ho;refine ⟨⟨upd P (f.cN k) o,F,?_⟩,.same rfl (by decide) (λj=> ?_),.arr rfl ?_⟩
 ·show Cor _ f.cN f.nN _ _ _ (wT (A5 _ _ _ _ _ _)) (wK (A5 _ _ _ _ _ _)) (wX (A5 _ _ _ _ _ _)) _ _ _ _ _
  rw [wk,wx];exact c.bz hk hr hw hz mD CN hro (wt.trans ho) (by show ((Int.toNat (upd _ _ _ k):Nat):Int)=_;rw [upd_same];omega) (λu hu=>by show Int.toNat (upd _ _ _ u)=_;rw [A0 _ _ hu];rfl) w0 ww p0 pp
 ·unfold Qy
  rw [hrest,List.filter_append,List.append_assoc]
  congr 1
  by_cases q:j=f.cN k
  ·subst q
   rw [w0,List.filter_eq_self.2 (λx hx=>by simpa using (c.wl _ x (sW x hx)).2),<-hw]
  ·rw [ww j q,List.filter_eq_nil_iff.2 (λx hx=>by rw [(c.wl _ x (sW x hx)).2];simpa using λe=>q e.symm)];rfl
 ·unfold row
  have hs0:List.filter (λt=>Xp (FL.ro {f with pc:=upd f.pc k 5,AL:=upd f.AL k (wT f.ps),ps:=A5 f.ps k 3 L.a1 0 (f.of k)} t)) s=[]:=List.filter_eq_nil_iff.2 λx hx=>by rw [hro x (λq=>ks (q▸hx)),hsl x hx];decide
  rw [hrest,List.filter_append,List.filter_cons,Qj (by rw [CN];rfl),hs0]
  congr 1
  exact Iv kQ hro
theorem U0 (h:OrdJ f g Q W) (h1:L.a1=0) (h2:L.a2=1) {k:Nat} (hk:k<f.s.n) (sk:f.s.st k=1) (pk:f.pc k=5):∃ g' Q' W' y,Fc f (f.step L k k) g Q W k (f.did L k k) g' Q' W' y:=by
 obtain ⟨ed,es⟩:=at_one (L:=L) hk sk;rw [ed,es];have CY:k<f.ps.ac.length:=by rw [h.ac];exact hk
 have hlen:=h.len;obtain ⟨P,F,c⟩:=h.Ae;obtain ⟨o,ho⟩:=Qx (h.Lb k);have hr:=eN (p:=5) sk pk (.inl rfl) ho;obtain ⟨_,_,⟨z,z1,z2,z3⟩,_⟩:=c.rs k hk 5 o hr;have zn:=c.nr z (c.ql z (D9 z2).2);obtain ⟨i,rfl⟩:∃ i,o=i+1:=⟨o-1,by omega⟩
 obtain ⟨a1,b,lc,ld⟩:=BL CY ((congrArg L.nA ho).trans (RX h2 i)) (show i+9<f.ps.ws.length by omega);obtain ⟨wt,wk,wx⟩:=Bq b;have hv:A6 f.ps k 1 (L.nA (f.of k))=wX f.ps (i+1):=a1;have e1:f.acq L k k={f with pc:=upd f.pc k 6,wv:=upd f.wv k (wX f.ps (i+1)),ps:=A5 f.ps k 1 (L.nA (f.of k)) 0 0}:=by unfold FL.acq;rw [Qq (by omega),Qq (by omega),Qq (by omega),Qq (by omega),Qq (by omega),Qj pk,hv]
 have e2:f.A7 L k k=Dd.no:=by unfold FL.A7;rw [Qq (by omega),Qq (by omega),Qq (by omega),Qq (by omega),Qq (by omega),Qj pk]
 rw [e1,e2,Aq];refine ⟨g,Q,W,1,h.CL (.inl ⟨rfl,sk.symm⟩) rfl (by show (A5 _ _ _ _ _ _).ws.length=_;rw [b]) lc ld (λj e=>⟨A0 _ _ e,rfl,rfl,rfl⟩) (by simp only [upd_same];omega) (by omega) (λ_=>by simp only [upd_same];omega) (λ_ _=>by first|exact upd_same _ _ _|omega) ⟨h.Di k,h.N9 k,h.Lb k⟩ (λhy hro=> ?_) (.inl (by simp only [upd_same];rw [sk,pk];simp [EA]<;>omega)) (λw=>absurd w (by decide)) (λ_=> .inl (by decide))⟩;have CN:FL.ro {f with pc:=upd f.pc k 6,wv:=upd f.wv k (wX f.ps (i+1)),ps:=A5 f.ps k 1 (L.nA (f.of k)) 0 0} k= .H_ 6 (i+1):=eN (p:=6) hy (upd_same _ _ _) (.inr rfl) ho;refine ⟨⟨P,F,?_⟩,.same rfl (by decide) (λ_=>rfl),.same rfl rfl (GG (by rw [CN,hr];rfl) hro)⟩;show Cor _ f.cN f.nN _ _ _ (wT (A5 _ _ _ _ _ _)) (wK (A5 _ _ _ _ _ _)) (wX (A5 _ _ _ _ _ _)) _ _ _ _ _;rw [wt,wk,wx];exact c.Tk hk (D9 z2).1 (.inl ⟨_,hr,CN,upd_same _ _ _⟩) hro (λu hu=>A0 _ _ hu)
theorem U1 (h:OrdJ f g Q W) (h1:L.a1=0) (h2:L.a2=1) {k:Nat} (hk:k<f.s.n) (sk:f.s.st k=1) (pk:f.pc k=6):∃ g' Q' W' y,Fc f (f.step L k k) g Q W k (f.did L k k) g' Q' W' y:=by
 obtain ⟨ed,es⟩:=at_one (L:=L) hk sk;rw [ed,es];have CY:k<f.ps.ac.length:=by rw [h.ac];exact hk
 have hlen:=h.len;obtain ⟨P,F,c⟩:=h.Ae;obtain ⟨o,ho⟩:=Qx (h.Lb k);have hr:=eN (p:=6) sk pk (.inr rfl) ho;obtain ⟨_,_,⟨z,z1,z2,z3⟩,_,hV,_⟩:=c.rs k hk 6 o hr;have hV:=hV rfl;have zn:=c.nr z (c.ql z (D9 z2).2);obtain ⟨i,rfl⟩:∃ i,o=i+1:=⟨o-1,by omega⟩
 obtain ⟨a1,b,lc,ld⟩:=Fi (old:=f.wv k) (v:=wd (Ca (f.wv k)) (Dh (f.wv k)) 1) CY ((congrArg L.nA ho).trans (RX h2 i)) (show i+9<f.ps.ws.length by omega);have hw:f.ps.ws.getD (i+9) 0=f.wv k:=hV.symm;rw [Qj hw] at b;obtain ⟨wt,wk,f0,ff⟩:=Yq (by omega) b;have e1:f.acq L k k={f with pc:=upd f.pc k 7,ps:=A5 f.ps k 4 (L.nA (f.of k)) (f.wv k) (wd (Ca (f.wv k)) (Dh (f.wv k)) 1)}:=by unfold FL.acq;rw [Qq (by omega),Qq (by omega),Qq (by omega),Qq (by omega),Qq (by omega),Qq (by omega),Qj pk,Qj (a1.2 hw)]
 have e2:f.A7 L k k=Dd.no:=by unfold FL.A7;rw [Qq (by omega),Qq (by omega),Qq (by omega),Qq (by omega),Qq (by omega),Qq (by omega),Qj pk]
 rw [e1,e2,Aq];refine ⟨g,Q,W,1,h.CL (.inl ⟨rfl,sk.symm⟩) rfl (by show (A5 _ _ _ _ _ _).ws.length=_;rw [b,List.length_set]) lc ld (λj e=>⟨A0 _ _ e,rfl,rfl,rfl⟩) (by simp only [upd_same];omega) (by omega) (λ_=>by simp only [upd_same];omega) (λ_ _=>by first|exact upd_same _ _ _|omega) ⟨h.Di k,h.N9 k,h.Lb k⟩ (λhy hro=> ?_) (.inl (by simp only [upd_same];rw [sk,pk];simp [EA]<;>omega)) (λw=>absurd w (by decide)) (λ_=> .inl (by decide))⟩;have CN:FL.ro {f with pc:=upd f.pc k 7,ps:=A5 f.ps k 4 (L.nA (f.of k)) (f.wv k) (wd (Ca (f.wv k)) (Dh (f.wv k)) 1)} k= .Cw:=ie hy (upd_same _ _ _);refine ⟨⟨P,F,?_⟩,.same rfl (by decide) (λ_=>rfl),.same rfl rfl (GG (by rw [CN,hr];rfl) hro)⟩;show Cor _ f.cN f.nN _ _ _ (wT (A5 _ _ _ _ _ _)) (wK (A5 _ _ _ _ _ _)) (wX (A5 _ _ _ _ _ _)) _ _ _ _ _;rw [wt,wk];refine c.cB hk hr CN hro ?_ ff;rw [f0,hV];exact Ls (by unfold Dh;omega) (.inr rfl)
theorem U2 (h:OrdJ f g Q W) (h1:L.a1=0) (h2:L.a2=1) {k:Nat} (hk:k<f.s.n) (sk:f.s.st k=1) (pk:f.pc k=7):∃ g' Q' W' y,Fc f (f.step L k k) g Q W k (f.did L k k) g' Q' W' y:=by
 obtain ⟨ed,es⟩:=at_one (L:=L) hk sk;rw [ed,es];have CY:k<f.ps.ac.length:=by rw [h.ac];exact hk
 have hlen:=h.len;obtain ⟨P,F,c⟩:=h.Ae;have hr:=ie sk pk;obtain ⟨i,hi,hA,hil⟩:=h.OU hk (.inr hr);obtain ⟨a1,b,lc,ld⟩:=BL CY ((congrArg L.nA hi).trans (RX h2 i)) hil;obtain ⟨wt,wk,wx⟩:=Bq b;have hv:A6 f.ps k 1 (L.nA (f.AL k))=wX f.ps (f.aN k):=by rw [hA];exact a1
 rcases c.Xt hk hr with q3|⟨q3,rfl,r,rfl⟩
 ·have e1:f.acq L k k={f with pc:=upd f.pc k 7,ps:=A5 f.ps k 1 (L.nA (f.AL k)) 0 0}:=by unfold FL.acq;rw [Qq (by omega),Qq (by omega),Qq (by omega),Qq (by omega),Qq (by omega),Qq (by omega),Qq (by omega),hv,Qq (by rw [q3];decide)]
  have e2:f.A7 L k k=Dd.no:=by unfold FL.A7;rw [Qq (by omega),Qq (by omega),Qq (by omega),Qq (by omega),Qq (by omega),Qq (by omega),Qq (by omega),hv,Qq (by rw [q3];decide)]
  rw [e1,e2,Aq];refine ⟨g,Q,W,1,h.CL (.inl ⟨rfl,sk.symm⟩) rfl (by show (A5 _ _ _ _ _ _).ws.length=_;rw [b]) lc ld (λj e=>⟨A0 _ _ e,rfl,rfl,rfl⟩) (by simp only [upd_same];omega) (by omega) (λ_=>by simp only [upd_same];omega) (λ_ _=>by first|exact upd_same _ _ _|omega) ⟨h.Di k,h.N9 k,h.Lb k⟩ (λhy hro=> ?_) (.inr ⟨.inr (.inr (.inr ⟨sk,pk,q3⟩)),rfl,(upd_same _ _ _).trans pk.symm,rfl,b⟩) (λw=>absurd w (by decide)) (λ_=> .inl (by decide))⟩;have CN:FL.ro {f with pc:=upd f.pc k 7,ps:=A5 f.ps k 1 (L.nA (f.AL k)) 0 0} k= .Cw:=ie hy (upd_same _ _ _);exact zz2n
 ·have e1:f.acq L k k={f with pc:=upd f.pc k 0,ps:=A5 f.ps k 1 (L.nA (f.AL k)) 0 0}:=by unfold FL.acq;rw [Qq (by omega),Qq (by omega),Qq (by omega),Qq (by omega),Qq (by omega),Qq (by omega),Qq (by omega),hv,Qj q3]
  have e2:f.A7 L k k=⟨1,false,false,true⟩:=by unfold FL.A7;rw [Qq (by omega),Qq (by omega),Qq (by omega),Qq (by omega),Qq (by omega),Qq (by omega),Qq (by omega),hv,Qj q3]
  rw [e1,e2,Aw hk (by rw [sk];rfl:AH (f.s.st k) 1=some 2)];have hn:=(List.nodup_cons.1 c.nq).1;refine ⟨some k,k::r,W,2,h.CL (.inr rfl) rfl (by show (A5 _ _ _ _ _ _).ws.length=_;rw [b]) lc ld (λj e=>⟨A0 _ _ e,rfl,rfl,rfl⟩) (by simp only [upd_same];omega) (by omega) (λ_=>by simp only [upd_same];omega) (λ_ _=>by first|exact upd_same _ _ _|omega) ⟨h.Di k,h.N9 k,h.Lb k⟩ (λhy hro=>⟨⟨P,F,?_⟩,.Bs ⟨_,rfl⟩ ?_ λj hj=> ?_,.lead rfl ?_⟩) (.inl (by simp only [upd_same];rw [sk,pk];simp [EA]<;>omega)) (λ_=>⟨sk,rfl,true,rfl⟩) (λw=>absurd rfl w)⟩
  ·show Cor _ f.cN f.nN _ _ _ (wT (A5 _ _ _ _ _ _)) (wK (A5 _ _ _ _ _ _)) (wX (A5 _ _ _ _ _ _)) _ _ _ _ _
   rw [wt,wk,wx];exact c.Tm (.inr hr) (ZA hy) hro
  ·rw [Gy,Qj rfl];rfl
  ·rw [Gy j,Qq λq=>hj q.symm];rfl
  ·rw [Ml hn hro,hr];rfl
theorem dC (h:OrdJ f g Q W) (h1:L.a1=0) (h2:L.a2=1) {k:Nat} (hk:k<f.s.n) (sk:f.s.st k=3) (pk:f.pc k=0):∃ g' Q' W' y,Fc f (f.step L k k) g Q W k (f.did L k k) g' Q' W' y:=by
 obtain ⟨ed,es⟩:=B6 (L:=L) hk sk;rw [ed,es];have CY:k<f.ps.ac.length:=by rw [h.ac];exact hk
 have hlen:=h.len;obtain ⟨P,F,c⟩:=h.Ae;have hr:=bt (p:=0) sk pk;have hg:=c.rh k hk 0 hr;obtain ⟨_,r,p,hQ,hr2,_⟩:=c.gs k hg;obtain ⟨i,hi,hN,hil⟩:=h.La hk;obtain ⟨a1,b,lc,ld⟩:=BL CY ((congrArg L.nA hi).trans (RX h2 i)) hil;obtain ⟨wt,wk,wx⟩:=Bq b;have hv:A6 f.ps k 1 (L.nA (f.nd k))=wX f.ps (f.nN k):=by rw [hN];exact a1
 have e1:f.rel L k k={f with pc:=upd f.pc k 1,wv:=upd f.wv k (wX f.ps (f.nN k)),ps:=A5 f.ps k 1 (L.nA (f.nd k)) 0 0}:=by unfold FL.rel;rw [Qj pk,hv]
 have e2:f.AX L k k=Dd.no:=by unfold FL.AX;rw [Qj pk]
 rw [e1,e2,Aq];refine ⟨g,Q,W,3,h.CL (.inl ⟨rfl,sk.symm⟩) rfl (by show (A5 _ _ _ _ _ _).ws.length=_;rw [b]) lc ld (λj e=>⟨A0 _ _ e,rfl,rfl,rfl⟩) (by simp only [upd_same];omega) (by omega) (λ_=>by simp only [upd_same];omega) (λ_ _=>by first|exact upd_same _ _ _|omega) ⟨h.Di k,h.N9 k,h.Lb k⟩ (λhy hro=> ?_) (.inl (by simp only [upd_same];rw [sk,pk];simp [EA]<;>omega)) (λw=>absurd w (by decide)) (λ_=> .inl (by decide))⟩;have CN:FL.ro {f with pc:=upd f.pc k 1,wv:=upd f.wv k (wX f.ps (f.nN k)),ps:=A5 f.ps k 1 (L.nA (f.nd k)) 0 0} k= .hold 1:=bt (p:=1) hy (upd_same _ _ _);refine ⟨⟨P,F,?_⟩,.same rfl (by decide) (λ_=>rfl),.same rfl rfl (GG (by rw [CN,hr];rfl) hro)⟩;show Cor _ f.cN f.nN _ _ _ (wT (A5 _ _ _ _ _ _)) (wK (A5 _ _ _ _ _ _)) (wX (A5 _ _ _ _ _ _)) _ _ _ _ _;rw [wt,wk,wx];exact c.Tk hk (by rw [hQ];exact List.mem_cons_self) (.inr ⟨hr,CN,upd_same _ _ _⟩) hro (λu hu=>A0 _ _ hu)
theorem U3 (h:OrdJ f g Q W) (h1:L.a1=0) (h2:L.a2=1) {k:Nat} (hk:k<f.s.n) (sk:f.s.st k=3) (pk:f.pc k=1):∃ g' Q' W' y,Fc f (f.step L k k) g Q W k (f.did L k k) g' Q' W' y:=by
 obtain ⟨ed,es⟩:=B6 (L:=L) hk sk;rw [ed,es];have CY:k<f.ps.ac.length:=by rw [h.ac];exact hk
 have hlen:=h.len;obtain ⟨P,F,c⟩:=h.Ae;have hr:=bt (p:=1) sk pk;obtain rfl:=c.rh k hk 1 hr;obtain ⟨_,r,p,rfl,hr2,_,hV⟩:=c.gs k rfl;have hV:=hV (by rw [hr] at hr2;cases hr2;rfl);obtain ⟨i,hi,hN,hil⟩:=h.La hk;obtain ⟨a1,b,lc,ld⟩:=Fi (old:=f.wv k) (v:=wd (Ca (f.wv k)) 0 (E7 (f.wv k))) CY ((congrArg L.nA hi).trans (RX h2 i)) hil;have hw:f.ps.ws.getD (i+9) 0=f.wv k:=by rw [hV,hN];rfl
 rw [Qj hw] at b;obtain ⟨wt,wk,f0,ff⟩:=Yq hil b;have e1:f.rel L k k={f with pc:=upd f.pc k 0,nd:=upd f.nd k (f.AL k),ps:=A5 f.ps k 4 (L.nA (f.nd k)) (f.wv k) (wd (Ca (f.wv k)) 0 (E7 (f.wv k)))}:=by unfold FL.rel;rw [Qq (by omega),Qj (a1.2 hw)]
 have e2:f.AX L k k=⟨3,false,false,false⟩:=by unfold FL.AX;rw [Qq (by omega),Qj (a1.2 hw)]
 rw [e1,e2,Aw hk (by rw [sk];rfl:AH (f.s.st k) 3=some 0)];refine ⟨none,r,W,0,h.CL (.inr rfl) rfl (by show (A5 _ _ _ _ _ _).ws.length=_;rw [b,List.length_set]) lc ld (λj e=>⟨A0 _ _ e,A0 _ _ e,rfl,rfl⟩) (by simp only [upd_same];omega) (by omega) (λ_=>by simp only [upd_same];omega) (λ_ _=>by first|exact upd_same _ _ _|omega) ⟨by simp only [upd_same];exact h.N9 k,h.N9 k,h.Lb k⟩ (λhy hro=> ?_) (.inl (by simp only [upd_same];rw [sk,pk];simp [EA]<;>omega)) (λw=>absurd w (by decide)) (λ_=> .inl (by decide))⟩;have hkr:k∉r:=(List.nodup_cons.1 c.nq).1;refine ⟨⟨P,f.nN k,?_⟩,.same rfl (by decide) (λ_=>rfl),.same rfl rfl (H9 (g:=none) (Q:=r) λu hu=>by rw [hro u λq=>hkr (q▸hu)])⟩;show Cor _ f.cN _ _ _ _ (wT (A5 _ _ _ _ _ _)) (wK (A5 _ _ _ _ _ _)) (wX (A5 _ _ _ _ _ _)) _ _ _ _ _;rw [wt,wk];obtain ⟨r',hr',hc⟩:=c.O5 (Be:=FL.ro {f with s:=f.s.set k 0 0,pc:=upd f.pc k 0,nd:=upd f.nd k (f.AL k),ps:=A5 f.ps k 4 (L.nA (f.nd k)) (f.wv k) (wd (Ca (f.wv k)) 0 (E7 (f.wv k)))}) (LY:=FL.nN {f with nd:=upd f.nd k (f.AL k)}) (X':=wX (A5 f.ps k 4 (L.nA (f.nd k)) (f.wv k) (wd (Ca (f.wv k)) 0 (E7 (f.wv k))))) (eP hy) hro (by show Int.toNat (upd _ _ _ k)=_;rw [upd_same];rfl) (λu hu=>by show Int.toNat (upd _ _ _ u)=_;rw [A0 _ _ hu];rfl) (by rw [hN,f0,hV,hN];exact Ls (.inl rfl) (by unfold E7;omega)) (by rw [hN];exact ff);obtain rfl:=(List.cons.inj hr').2;exact hc
theorem Lz (h:OrdJ f g Q W) (h1:L.a1=0) (h2:L.a2=1) {k:Nat} (hk:k<f.s.n):∃ g' Q' W' y,Fc f (f.step L k k) g Q W k (f.did L k k) g' Q' W' y:=by
 have hp:=h.Ev k;have hst:=h.dR k hk;by_cases s1:f.s.st k=1
 ·have:f.pc k=0\/f.pc k=1\/f.pc k=2\/f.pc k=3\/f.pc k=4\/f.pc k=5\/f.pc k=6\/f.pc k=7:=by omega
  rcases this with p|p|p|p|p|p|p|p
  ·exact h.dA h1 h2 hk s1 p
  ·exact h.Tw h1 h2 hk s1 p
  ·exact h.Tx h1 h2 hk s1 p
  ·exact h.Ty h1 h2 hk s1 p
  ·exact h.Tz h1 h2 hk s1 p
  ·exact h.U0 h1 h2 hk s1 p
  ·exact h.U1 h1 h2 hk s1 p
  ·exact h.U2 h1 h2 hk s1 p
 by_cases s3:f.s.st k=3
 ·have:=h.KG k hk s3
  have:f.pc k=0\/f.pc k=1:=by omega
  rcases this with p|p
  ·exact h.dC h1 h2 hk s3 p
  ·exact h.U3 h1 h2 hk s3 p
 obtain ⟨d1,d2⟩:=D5 (L:=L) hk s1 s3;rw [d1,d2];exact ⟨g,Q,W,f.s.st k,h,.same rfl (by decide) (λ_=>rfl),.same rfl rfl rfl,BV _ _,rfl,rfl,λ_ _=>⟨rfl,rfl⟩,Nat.le_succ _,.inr ⟨by unfold Halt;omega,rfl,rfl,rfl,rfl⟩,λw=>absurd w (by decide),λ_=>by omega⟩
theorem step (h:OrdJ f g Q W) (h1:L.a1=0) (h2:L.a2=1) (t:Int):
  (∃ (k:Nat) (g':Option Nat) (Q':List Nat) (W':Nat->List Nat),k<f.s.n/\t=(k:Int)/\OrdJ (f.step L t t) g' Q' W'/\(f.step L t t).ps.D.length<=f.ps.D.length+1/\J2 (Qy f.cN g Q W) (f.cN k) k (f.did L t t) (Qy f.cN g' Q' W')/\BC (row f.ro g Q) k (f.did L t t) (row (f.step L t t).ro g' Q')/\(f.step L t t).cl=f.cl)\/(f.did L t t=Dd.no/\f.step L t t=f):=by
 by_cases ht:0<=t/\t<f.s.n
 ·obtain ⟨k,rfl⟩:=Qx ht.1
  obtain ⟨g',Q',W',y,hs⟩:=h.Lz h1 h2 (show k<f.s.n by omega);exact .inl ⟨k,g',Q',W',by omega,rfl,hs.ord,hs.D,hs.q,hs.r,hs.cl⟩
 ·exact .inr (D6 (L:=L) ht)
theorem Vk (h:OrdJ f g Q W) (t d:Int):(f.lock t d).ro=f.ro:=by
 unfold FL.lock SS.lock;split
 ·rename_i he
  unfold BZ at he;split at he
  ·rename_i hc
   split at he
   ·rename_i hs
    have hk:t.toNat<f.s.n:=by omega
    have p0:=h.Iu _ hk (by omega) (by omega);exact funext (I4 (f':={f with s:=f.s.set t.toNat 1 d}) (k:=t.toNat) ((iY (f:={f with s:=f.s.set t.toNat 1 d}) (upd_same _ _ _) p0).trans (eP hs).symm) (Dc (y:=1) (λ_=>rfl) (λ_ _=>rfl) λ_ _=>rfl))
   ·omega
  ·omega
 ·rfl
theorem Wf (h:OrdJ f g Q W) (t:Int):(f.turn t 3).ro=f.ro:=by
 unfold FL.turn SS.turn;split
 ·rename_i he
  unfold BR at he;split at he
  ·rename_i hc
   split at he
   ·omega
   ·split at he
    ·rename_i hs
     have hk:t.toNat<f.s.n:=by omega
     have p0:=h.Iu _ hk (by omega) (by omega);exact funext (I4 (f':={f with s:=f.s.set t.toNat 3 (f.s.dl t.toNat)}) (k:=t.toNat) ((bt (f:={f with s:=f.s.set t.toNat 3 (f.s.dl t.toNat)}) (p:=0) (upd_same _ _ _) p0).trans (ZA hs).symm) (Dc (y:=3) (λ_=>rfl) (λ_ _=>rfl) λ_ _=>rfl))
    ·omega
  ·omega
 ·rfl
theorem one (h:OrdJ f g Q W) {j k:Nat} (hj:j<f.s.n) (hk:k<f.s.n) (ej:f.s.st j=2) (ek:f.s.st k=2):j=k:=by
 obtain ⟨P,F,c⟩:=h.Ae;have w1:=c.rh j hj _ (ZA ej);have w2:=c.rh k hk _ (ZA ek);rw [w1] at w2;simpa using w2
end OrdJ
def OrdI (f:FL) (R:List Nat):Prop:=∃ g Q W,OrdJ f g Q W/\R=row f.ro g Q
namespace OrdI
variable {f:FL} {R:List Nat} {L:Lp}
theorem lock (h:OrdI f R) (t d:Int):OrdI (f.lock t d) R:=by obtain ⟨g,Q,W,h,e⟩:=h;exact ⟨g,Q,W,h.lock t d,by rw [h.Vk];exact e⟩
theorem unlock (h:OrdI f R) (t:Int):OrdI (f.turn t 3) R:=by obtain ⟨g,Q,W,h,e⟩:=h;exact ⟨g,Q,W,h.turn t,by rw [h.Wf];exact e⟩
theorem step (h:OrdI f R) (h1:L.a1=0) (h2:L.a2=1) (t:Int):∃ R',OrdI (f.step L t t) R'/\(f.step L t t).ps.D.length<=f.ps.D.length+1/\((∃ k:Nat,t=k/\OrdJ.BC R k (f.did L t t) R')\/(f.did L t t=Dd.no/\R'=R)):=by
 obtain ⟨g,Q,W,h,rfl⟩:=h;rcases h.step h1 h2 t with ⟨k,g',Q',W',hk,rfl,a,b,_,c,_⟩|⟨a,b⟩
 ·exact ⟨_,⟨g',Q',W',a,rfl⟩,b,.inl ⟨k,rfl,c⟩⟩
 ·rw [a,b]
  exact ⟨_,⟨g,Q,W,h,rfl⟩,Nat.le_succ _,.inr ⟨rfl,rfl⟩⟩
theorem one (h:OrdI f R) {j k:Nat} (hj:j<f.s.n) (hk:k<f.s.n) (ej:f.s.st j=2) (ek:f.s.st k=2):j=k:=by
 obtain ⟨g,Q,W,h,_⟩:=h;exact h.one hj hk ej ek
end OrdI
open _root_.Go.Proofs.Tryz Go.Deep
open Go.RowKit Go.BigFrame
abbrev FC (p:Nat) (x:Int) (tb n:Nat):Array Value:= #[.pointer (some ⟨p,0,none⟩),.pointer none,.int .i64 x,.slice (some ⟨tb,0,none⟩) n n]
def Z':Pc:=⟨0,0,0,0,0,0⟩
def NB (zs:List Int) (k j:Nat):Pc:=if j<k then ⟨zs.getD j 0,(j:Int)+1,0,0,0,0⟩ else Z'
theorem TZ (zs:List Int) (k:Nat):upd (NB zs k) k ⟨zs.getD k 0,(k:Int)+1,0,0,0,0⟩=NB zs (k+1):=by
 funext j
 unfold NB upd;by_cases e:j=k
 ·subst e;simp
 ·rw [Qq e]
  show (if j<k then _ else _)=if j<k+1 then _ else _;exact zz70
theorem bM (zs:List Int):NB zs 0=λ_=>Z':=by funext j;unfold NB;rw [Qq (by omega)]
theorem YD (zs:List Int) (k:Nat):NB zs k k=Z':=by unfold NB;rw [Qq (by omega)]
abbrev upTo (k:Nat):List Int:=(List.range k).map λi=>((i:Nat):Int)
theorem RM (k:Nat):upTo (k+1)=upTo k++[(k:Int)]:=by unfold upTo;rw [List.range_succ,List.map_append];rfl
theorem Hf (k:Nat):(upTo k).length=k:=by simp [upTo]
theorem WJ (W:World):Calls prog 74 #[.int .i64 1073741823,.bool false,.bool false] W λe w'=>e= .returned (.int .u32 4294967292)/\W=w':=by
 have:=Mg 1073741823 false false W;rw [show N6 1073741823 false false=4294967292 from by decide] at this;exact this
theorem WZ (n:Nat) (G:Nat->Pc) (k:Nat) (c0 c1 c2 c3 c4 c5:Int):
  (((((((BS n G).set (k*6) (.int .i64 c0)).set (k*6+1) (.int .u32 c1)).set (k*6+2) (.int .u32 c2)).set (k*6+3) (.int .i64 c3)).set (k*6+4) (.int .u32 c4)).set (k*6+5) (.int .u32 c5))=BS n (upd G k ⟨c0,c1,c2,c3,c4,c5⟩):=by
 have e0:(BS n G).set (k*6) (.int .i64 c0)=BS n (upd G k {G k with cl:=c0}):=BD n G k 0 _ _ (by decide) rfl;have e1:(BS n (upd G k {G k with cl:=c0})).set (k*6+1) (.int .u32 c1)=BS n (upd G k {G k with cl:=c0,nd:=c1}):=by rw [BD n (upd G k {G k with cl:=c0}) k 1 _ {G k with cl:=c0,nd:=c1} (by decide) (by rw [upd_same];rfl),BF]
 have e2:(BS n (upd G k {G k with cl:=c0,nd:=c1})).set (k*6+2) (.int .u32 c2)=BS n (upd G k {G k with cl:=c0,nd:=c1,ah:=c2}):=by rw [BD n (upd G k {G k with cl:=c0,nd:=c1}) k 2 _ {G k with cl:=c0,nd:=c1,ah:=c2} (by decide) (by rw [upd_same];rfl),BF]
 have e3:(BS n (upd G k {G k with cl:=c0,nd:=c1,ah:=c2})).set (k*6+3) (.int .i64 c3)=BS n (upd G k {G k with cl:=c0,nd:=c1,ah:=c2,st:=c3}):=by rw [BD n (upd G k {G k with cl:=c0,nd:=c1,ah:=c2}) k 3 _ {G k with cl:=c0,nd:=c1,ah:=c2,st:=c3} (by decide) (by rw [upd_same];rfl),BF]
 have e4:(BS n (upd G k {G k with cl:=c0,nd:=c1,ah:=c2,st:=c3})).set (k*6+4) (.int .u32 c4)=BS n (upd G k {G k with cl:=c0,nd:=c1,ah:=c2,st:=c3,la:=c4}):=by rw [BD n (upd G k {G k with cl:=c0,nd:=c1,ah:=c2,st:=c3}) k 4 _ {G k with cl:=c0,nd:=c1,ah:=c2,st:=c3,la:=c4} (by decide) (by rw [upd_same];rfl),BF]
 have e5:(BS n (upd G k {G k with cl:=c0,nd:=c1,ah:=c2,st:=c3,la:=c4})).set (k*6+5) (.int .u32 c5)=BS n (upd G k ⟨c0,c1,c2,c3,c4,c5⟩):=by rw [BD n (upd G k {G k with cl:=c0,nd:=c1,ah:=c2,st:=c3,la:=c4}) k 5 _ ⟨c0,c1,c2,c3,c4,c5⟩ (by decide) (by rw [upd_same];rfl),BF]
 rw [e0,e1,e2,e3,e4,e5]
structure LaySt (w:World) (q:Pl) (t:Int) (lb tb b o n:Nat) (zs:List Int) (cs:Array Value) (m:Nat) (hs vs:List Int) (wr:World):Prop where
 plan:∃ q':Pl,q'.p=q.p/\PlanAt wr q' t hs vs/\Came w q.F q'.F
 kp:Wr (λj=>q.F j\/j=lb\/j=tb) w wr
 obj:wr.heap[lb]? =some (.cells cs 137 (0,0))
 tick:wr.heap[tb]? =some (.cells (BS n (NB zs m)).toArray 170 (0,0))
 row:Ad .i64 wr (some ⟨b,o,none⟩) n zs
 lt:lb<w.heap.size/\b<w.heap.size/\tb<w.heap.size
 ne:¬ q.F lb/\¬ q.F b/\¬ q.F tb/\b≠lb/\b≠tb/\lb≠tb
namespace LaySt
variable {w wr w':World} {q:Pl} {t:Int} {lb tb b o n m:Nat} {zs:List Int} {cs:Array Value} {hs vs:List Int}
theorem far (h:LaySt w q t lb tb b o n zs cs m hs vs wr) {q':Pl} (c:Came w q.F q'.F):¬ q'.F lb/\¬ q'.F b/\¬ q'.F tb:=zz3a
theorem set (h:LaySt w q t lb tb b o n zs cs m hs vs wr) (i:Nat) (v:Value):LaySt w q t lb tb b o n zs (cs.setIfInBounds i v) m hs vs (wr.setCell ⟨lb,i,none⟩ v):=zz1n
theorem FR (h:LaySt w q t lb tb b o n zs cs m hs vs wr):LaySt w q t lb tb b o n zs cs (m+1) hs vs ((((((wr.setCell ⟨tb,m*6,none⟩ (.int .i64 (zs.getD m 0))).setCell ⟨tb,m*6+1,none⟩ (.int .u32 ((m:Int)+1))).setCell ⟨tb,m*6+2,none⟩ (.int .u32 0)).setCell ⟨tb,m*6+3,none⟩ (.int .i64 0)).setCell ⟨tb,m*6+4,none⟩ (.int .u32 0)).setCell ⟨tb,m*6+5,none⟩ (.int .u32 0)):=by
 obtain ⟨q',hq,hP,hC⟩:=h.plan;obtain ⟨f1,f2,f3⟩:=h.far hC;have k:Wr (One tb) wr ((((((wr.setCell ⟨tb,m*6,none⟩ (.int .i64 (zs.getD m 0))).setCell ⟨tb,m*6+1,none⟩ (.int .u32 ((m:Int)+1))).setCell ⟨tb,m*6+2,none⟩ (.int .u32 0)).setCell ⟨tb,m*6+3,none⟩ (.int .i64 0)).setCell ⟨tb,m*6+4,none⟩ (.int .u32 0)).setCell ⟨tb,m*6+5,none⟩ (.int .u32 0)):=((((((Wr.refl (One tb) wr).setCell ⟨tb,m*6,none⟩ (.int .i64 (zs.getD m 0)) λ_=>rfl).setCell ⟨tb,m*6+1,none⟩ (.int .u32 ((m:Int)+1)) λ_=>rfl).setCell ⟨tb,m*6+2,none⟩ (.int .u32 0) λ_=>rfl).setCell ⟨tb,m*6+3,none⟩ (.int .i64 0) λ_=>rfl).setCell ⟨tb,m*6+4,none⟩ (.int .u32 0) λ_=>rfl).setCell ⟨tb,m*6+5,none⟩ (.int .u32 0) λ_=>rfl;refine ⟨⟨q',hq,hP.wrote k λj hj e=>by cases e;exact f3 hj,hC⟩,h.kp.trans k λj _ e=> .inr (.inr e),(k.block _ (A2 h.obj) h.ne.2.2.2.2.2).trans h.obj,?_,h.row.wrote k λa ha e=> ?_,h.lt,h.ne⟩
 ·rw [A3 (A3 (A3 (A3 (A3 (A3 h.tick _ _) _ _) _ _) _ _) _ _) _ _,List.setIfInBounds_toArray,List.setIfInBounds_toArray,List.setIfInBounds_toArray,List.setIfInBounds_toArray,List.setIfInBounds_toArray,List.setIfInBounds_toArray,WZ,TZ]
 ·cases ha
  exact h.ne.2.2.2.2.1 e
theorem home (h:LaySt w q t lb tb b o n zs cs m hs vs wr) {j:Nat} (hj:j<n):wr.cell? ⟨b,o+j,none⟩=some (.int .i64 (zs.getD j 0)):=zz2m
theorem K1 (h:LaySt w q t lb tb b o n zs cs m hs vs wr) (hn:0<n):wr.cell? ⟨b,o,none⟩=some (.int .i64 (zs.getD 0 0)):=h.home hn
theorem place {p r:Nat} {x:Int} (h:LaySt w q t lb tb b o n zs (FC p x tb r) m hs vs wr):wr.cell? ⟨lb,3,none⟩=some (.slice (some ⟨tb,0,none⟩) r r):=by rw [A1 h.obj];rfl
theorem cells (h:LaySt w q t lb tb b o n zs cs m hs vs wr) (hm:m<n):wr.cell? ⟨tb,m*6,none⟩=some (.int .i64 0)/\wr.cell? ⟨tb,m*6+1,none⟩=some (.int .u32 0)/\wr.cell? ⟨tb,m*6+2,none⟩=some (.int .u32 0)/\wr.cell? ⟨tb,m*6+3,none⟩=some (.int .i64 0)/\wr.cell? ⟨tb,m*6+4,none⟩=some (.int .u32 0)/\wr.cell? ⟨tb,m*6+5,none⟩=some (.int .u32 0):=by
 have e:=YD zs m;refine ⟨?_,?_,?_,?_,?_,?_⟩
 ·rw [A1 h.tick,List.getElem?_toArray,show (BS n (NB zs m))[m*6]? =_ from BB n _ hm (j:=0) (by decide),e];rfl
 ·rw [A1 h.tick,List.getElem?_toArray,BB n _ hm (j:=1) (by decide),e];rfl
 ·rw [A1 h.tick,List.getElem?_toArray,BB n _ hm (j:=2) (by decide),e];rfl
 ·rw [A1 h.tick,List.getElem?_toArray,BB n _ hm (j:=3) (by decide),e];rfl
 ·rw [A1 h.tick,List.getElem?_toArray,BB n _ hm (j:=4) (by decide),e];rfl
 ·rw [A1 h.tick,List.getElem?_toArray,BB n _ hm (j:=5) (by decide),e];rfl
end LaySt
def Ax (w:World) (q:Pl) (t:Int) (lb tb b o n:Nat) (zs:List Int) (cs:Array Value) (m:Nat) (hs vs:List Int) (r:Value) (e:Ending) (w':World):Prop:=e= .returned r/\LaySt w q t lb tb b o n zs cs m hs vs w'
section
variable {w wr:World} {q:Pl} {t:Int} {lb tb b o n m:Nat} {zs:List Int} {cs:Array Value} {hs vs:List Int}
theorem DY (h:LaySt w q t lb tb b o n zs cs m hs vs wr) (x v:Int) (hL:hs.length<=1000000):
  Calls prog 50 #[.pointer (some ⟨q.p,0,none⟩),.int .i64 x,.int .u32 v] wr (Ax w q t lb tb b o n zs cs m (hs++[x]) (vs++[v]) (.int .i64 (hs.length:Nat))):=zz1i
end
theorem GH (zs:List Int) {k:Nat} (hk:k<zs.length):zs.take (k+1)=zs.take k++[zs.getD k 0]:=zz5a
theorem CT (k:Nat) (x:Int):List.replicate (k+1) x=List.replicate k x++[x]:=by rw [List.replicate_succ']
abbrev Dm (zs:List Int):List Int:=[zs.getD 0 0]++upTo 8++zs++[zs.getD 0 0]
abbrev Dy (n:Nat):List Int:=[(n:Int)+1]++List.replicate 8 0++List.replicate n 0++[4294967292]
theorem Gp {w:World} {q:Pl} {t:Int} {lb b o n cap p tb:Nat} {zs:List Int} {hs vs:List Int} (h:LaySt w q t lb tb b o n zs (FC p 0 tb n) 0 hs vs w) (n1:1<=n) (n2:n<=64) (hL:hs.length<=900000):
  Calls prog 59 #[.pointer (some ⟨lb,0,none⟩),.pointer (some ⟨q.p,0,none⟩),.slice (some ⟨b,o,none⟩) n cap] w
   (Ax w q t lb tb b o n zs (FC p (hs.length:Nat) tb n) n (hs++Dm zs) (vs++Dy n) (.tuple #[])):=by
 have hc:=h.K1 n1;have hlen:=h.row.len;obtain ⟨x,hx⟩:∃ x,x=zs.getD 0 0:=⟨_,rfl⟩
 unfold Dm Dy;rw [<-hx] at hc ⊢;have cW:=DY h x ((n:Int)+1) (by omega);have hwn:IntKind.u32.wrap ((n:Int)+1)=(n:Int)+1:=by show ((n:Int)+1)%4294967296=_;omega
 have gS:IntKind.i64.wrap ((n:Int)+1)=(n:Int)+1:=by rw [IntKind.wrap_i64];omega
 have o0:=A1 h.obj;have f2:=A4 h.obj 2;have HH:=Qw (Qz h hx);clear h hx;have n0:(0:Nat)<n:=n1
 go_in
 go_wp2_with (first
  |((with_reducible refine cW.mono ?_);intro e w2 hq;unfold Ax at hq;obtain ⟨rfl,hA⟩:=hq;have g2:=A4 hA.obj 2;have q2:w2.cell? ⟨lb,2,none⟩=some (.int .i64 0):=(A1 hA.obj 2).trans rfl;have Im:LaySt w q t lb tb b o n zs (FC p (hs.length:Nat) tb n) 0 (hs++[x]) (vs++[(n:Int)+1]) (w2.setCell ⟨lb,2,none⟩ (.int .i64 (hs.length:Nat))):=hA.set 2 (.int .i64 (hs.length:Nat));have HA:=Qw Im;clear hA Im))
 clear cW hc o0 f2 g2 q2 hwn gS;go_loopw [7,23] (λ_ i wr=>∃ k:Nat,k<=8/\i= .int .i64 k/\LaySt w q t lb tb b o n zs (FC p (hs.length:Nat) tb n) 0 (hs++[x]++upTo k) (vs++[(n:Int)+1]++List.replicate k 0) wr) (λ_ i _=>8-(intOf i).toNat)
 case atStart=>exact ⟨0,Nat.zero_le _,rfl,by simpa [upTo] using HA.out⟩
 case round=>
  clear HA;obtain ⟨k,hk,rfl,hl⟩:=hrel;by_cases hlt:k<8
  ·have DI:=CT k 0
   have cW:=DY hl (k:Int) 0 (by simp only [List.length_append,List.length_singleton,Hf];omega);rw [List.append_assoc (hs++[x]),<-RM,List.append_assoc (vs++[(n:Int)+1]),<-DI] at cW;clear hl DI HH
   go_wp2_with (first
    |((with_reducible refine cW.mono ?_);intro e w2 hq;unfold Ax at hq;obtain ⟨rfl,hA⟩:=hq;have HA:=Qw hA;clear hA))
   exact zz14
  ·have e8:k=8:=by omega
   have jk:(k:Int)=8:=by omega
   rw [e8] at hl;rw [jk];have jP:=Qw hl;clear hl e8 jk hlt hk;go_wp2;go_loopw [8,9,32] (λ_ _ i wr=>∃ k:Nat,k<=n/\i= .int .i64 k/\LaySt w q t lb tb b o n zs (FC p (hs.length:Nat) tb n) k (hs++[x]++upTo 8++zs.take k) (vs++[(n:Int)+1]++List.replicate 8 0++List.replicate k 0) wr) (λ_ _ i _=>n-(intOf i).toNat)
   case atStart=>exact ⟨0,Nat.zero_le _,rfl,by simpa using jP.out⟩
   case round=>
    clear jP;obtain ⟨k,hk,rfl,hl⟩:=hrel;by_cases hlt:k<n
    ·have yc:=hl.home hlt
     have DG:=GH zs (k:=k) (by omega);have DI:=CT k 0;have cW:=DY hl (zs.getD k 0) 0 (by simp only [List.length_append,List.length_singleton,List.length_take,Hf];omega);rw [List.append_assoc (hs++[x]++upTo 8),<-DG,List.append_assoc (vs++[(n:Int)+1]++List.replicate 8 0),<-DI] at cW;have HZ:=Qw (λ(Y:World) (g:LaySt w q t lb tb b o n zs (FC p (hs.length:Nat) tb n) k (hs++[x]++upTo 8++zs.take (k+1)) (vs++[(n:Int)+1]++List.replicate 8 0++List.replicate (k+1) 0) Y)=>g.FR);generalize hy:zs.getD k 0=y at*;have mA:IntKind.u32.wrap ((k:Int)+1)=(k:Int)+1:=by show ((k:Int)+1)%4294967296=_;omega
     have Cy:(k:Int)<n:=by omega
     clear hl DG DI HH hy
     go_wp2_with (first
      |((with_reducible refine cW.mono ?_);intro e w2 hq;unfold Ax at hq;obtain ⟨rfl,hA⟩:=hq;have j4:=hA.place;obtain ⟨j0,j1,j2,j3,j5,j6⟩:=hA.cells hlt;have z0:=A4 hA.tick (k*6);have z1:=A4 hA.tick (k*6+1);have z2:=A4 hA.tick (k*6+2);have z3:=A4 hA.tick (k*6+3);have z4:=A4 hA.tick (k*6+4);have z5:=A4 hA.tick (k*6+5);have HA:=Qw (HZ.out _ hA);clear hA))
     exact zz14
    ·obtain rfl:k=n:=by omega
     have e:=hl;rw [List.take_of_length_le (by omega)] at e;have yc:=e.K1 n0;rw [<-HH.out.2] at yc;have ee:LaySt w q t lb tb b o k zs (FC p (hs.length:Nat) tb k) k (hs++[x]++upTo 8++zs) (vs++[(k:Int)+1]++List.replicate 8 0++List.replicate k 0) wr.drew:=by
      obtain ⟨q',hq,hP,hC⟩:=e.plan;have kd:Wr Nil wr wr.drew:=(Wr.refl Nil wr).drew;exact ⟨⟨q',hq,hP.after kd,hC⟩,e.kp.trans kd λ_ _ z=>z.elim,e.obj,e.tick,e.row.after kd,e.lt,e.ne⟩
     have cW:=DY ee x 4294967292 (by simp only [List.length_append,List.length_singleton,Hf];omega);have cP:=WJ;replace yc:wr.drew.cell? ⟨b,o,none⟩=some (.int .i64 x):=yc;clear hl e ee;go_wp2
     go_region_held3 (λw'=>w'.cell? ⟨b,o,none⟩=some (.int .i64 x)) (first|with_reducible exact y1|exact yc) (first
      |((with_reducible refine (cP _).mono ?_);rintro e w' ⟨rfl,rfl⟩)
      |((with_reducible refine cW.mono ?_);intro e w2 hq;unfold Ax at hq;obtain ⟨rfl,hA⟩:=hq;have y1:=hA.K1 n0;rw [<-HH.out.2] at y1;have HA:=Qw hA;clear hA))
     go_wp2
     go_end0
     exact ⟨rfl,by simpa only [List.append_assoc,List.cons_append,List.nil_append] using HA.out⟩
theorem LP:(prog.info? 170).map (λi=>(i.zero,i.size,i.bytes))=some (some (.agg #[.int .i64 0,.int .u32 0,.int .u32 0,.int .i64 0,.int .u32 0,.int .u32 0]),6,32):=by kernel_rfl
theorem DZ (zs:List Int) (n:Nat):madeCells (Value.agg #[.int .i64 0,.int .u32 0,.int .u32 0,.int .i64 0,.int .u32 0,.int .u32 0]).cells (n*6)=(BS n (NB zs 0)).toArray:=by
 rw [bM];apply Array.ext';show (madeCells (#[.int .i64 0,.int .u32 0,.int .u32 0,.int .i64 0,.int .u32 0,.int .u32 0]:Array Value) (n*6)).toList=BS n (λ_=>Z');apply List.ext_getElem?;intro m;by_cases hm:m<n*6
 ·have ha:m/6<n:=by omega
  have e:m=m/6*6+m%6:=by omega
  have h2:=BB n (λ_=>Z') (k:=m/6) ha (j:=m%6) (Nat.mod_lt _ (by decide));rw [<-e] at h2;rw [h2];unfold madeCells;rw [Array.toList_map,List.getElem?_map,Array.toList_range,List.getElem?_range hm];have:m%6=0\/m%6=1\/m%6=2\/m%6=3\/m%6=4\/m%6=5:=by omega
  rcases this with h|h|h|h|h|h<;>simp [h,Pc.cells,Z']
 ·exact zz4s
def Y8 (zs:List Int) (j:Nat):Ab:=⟨zs.getD j 0,0,(j:Int)+1,0,0,0⟩
def Fb (w:World) (q:Pl) (t:Int) (hs vs:List Int) (n:Nat) (zs:List Int) (e:Ending) (w':World):Prop:=
 ∃ (L:Lp) (q':Pl),e= .returned (.tuple #[.pointer (some ⟨L.lb,0,none⟩),.int .i64 0])/\FlRaw w' L (.pointer none) (AQ n false false) (λ_=>0) (Y8 zs)/\
  (w.heap.size<=L.lb/\w.heap.size<=L.p/\w.heap.size<=L.b/\w.heap.size<=L.tb)/\L.a1=hs.length/\L.a2=hs.length+1/\q'.p=q.p/\PlanAt w' q' t (hs++Dm zs) (vs++Dy n)/\Wr q.F w w'/\Came w q.F q'.F
theorem CG {w ws:World} {q:Pl} {t:Int} {hs vs:List Int} {b o n:Nat} {zs:List Int} (h:PlanAt w q t hs vs) (k:Wr Nil w ws) (hr:Ad .i64 w (some ⟨b,o,none⟩) n zs) (QH:b<w.heap.size) (hb:¬ q.F b) (A cs:Array Value) (hA:(BS n (NB zs 0)).toArray=A) {lb tb:Nat} (hlb:lb=ws.heap.size+1) (VY:tb=ws.heap.size):
  LaySt ((ws.alloc (.cells A 170)).alloc (.cells cs 137)) q t lb tb b o n zs cs 0 hs vs ((ws.alloc (.cells A 170)).alloc (.cells cs 137)):=by
 have k2:Wr Nil w ((ws.alloc (.cells A 170)).alloc (.cells cs 137)):=(k.alloc _).alloc _;have e1:(ws.alloc (.cells A 170)).heap.size=ws.heap.size+1:=nblk_alloc _ _;have e2:((ws.alloc (.cells A 170)).alloc (.cells cs 137)).heap.size=ws.heap.size+1+1:=by rw [nblk_alloc,e1]
 exact zz1x
theorem Co {zs:List Int} (h:A8 zs=true) (i:Nat):FO (zs.getD i 0)=true:=zzm
theorem DA {w wq wr:World} {q:Pl} {t:Int} {hs vs:List Int} {b o n p sb lb tb:Nat} {zs:List Int} {A:Array Value} (h:PlanAt w q t hs vs) (k1:Wr Nil w wq) (hS:SeatAt wq p sb (AQ n false false)) (hp:w.heap.size<=p) (Eg:w.heap.size<=sb) (VY:tb=wq.heap.size) (hlb:lb=wq.heap.size+1) (n2:n<=64) (hL:hs.length<=900000) (ho:A8 zs=true) (cs:Array Value)
  (hl:LaySt ((wq.alloc (.cells A 170)).alloc (.cells cs 137)) q t lb tb b o n zs (FC p (hs.length:Nat) tb n) n (hs++Dm zs) (vs++Dy n) wr):
  Fb w q t hs vs n zs (.returned (.tuple #[.pointer (some ⟨lb,0,none⟩),.int .i64 0])) wr:=by
 generalize hX:(wq.alloc (.cells A 170)).alloc (.cells cs 137)=X at hl;have e1:(wq.alloc (.cells A 170)).heap.size=wq.heap.size+1:=nblk_alloc _ _;have e2:X.heap.size=wq.heap.size+1+1:=by rw [<-hX,nblk_alloc,e1]
 have k3:Wr Nil wq X:=by rw [<-hX];exact ((Wr.refl _ _).alloc _).alloc _
 have kX:Wr Nil w X:=k1.nil k3;have s1:=k1.size;have s3:=k3.size;have hF:∀ k,w.heap.size<=k->k≠lb->k≠tb->¬ (q.F k\/k=lb\/k=tb):=λk hk hk2 Gn e=>zz72;have l1:=A2 hS.obj;have l2:=A2 hS.ctx;have hne:=hS.ne;have Zo:=hS.wrote (k3.mono λ_ _ e=>e.elim:Wr Nil wq X) id id;obtain ⟨q',hq,hP,hC⟩:=hl.plan;refine ⟨⟨lb,p,sb,tb,hs.length,(hs.length:Int)+1,⟨0,0,0,0,0,0,0,0,0,0,0,0,.pointer none⟩,[]⟩,q',rfl,⟨hl.obj,Zo.wrote hl.kp (hF p hp (by omega) (by omega)) (hF sb Eg (by omega) (by omega)),⟨NB zs n,hl.tick,λj hj=> ?_⟩,⟨rfl,λ_=>by show (0:Int)≠4;decide⟩,⟨by dsimp only;omega,by dsimp only;omega,by dsimp only;omega,by dsimp only;omega,by dsimp only;omega⟩,by dsimp only;omega,by dsimp only;omega,rfl⟩,⟨by dsimp only;omega,by dsimp only;omega,by dsimp only;omega,by dsimp only;omega⟩,rfl,rfl,hq,hP,?_,λj hj=> ?_⟩
 ·have hj:j<n:=hj
  have hz:=Co ho j;have hz:0<=zs.getD j 0/\zs.getD j 0<=7:=by unfold FO at hz;have:=of_decide_eq_true hz;omega
  have e:NB zs n j=⟨zs.getD j 0,(j:Int)+1,0,0,0,0⟩:=by unfold NB;rw [Qj hj]
  rw [e];have z:(0:Int)<=0/\(0:Int)<4294967296:=by decide
  exact ⟨⟨rfl,hz⟩,⟨rfl,by show (0:Int)<=(j:Int)+1/\(j:Int)+1<4294967296;omega⟩,⟨rfl,by show (0:Int)<=0/\(0:Int)<=7;decide⟩,z,z,z,λq=>absurd q (by decide),λq=>absurd q (by decide),λq=>absurd q (by decide),λq=>absurd q (by decide),λq=>absurd q (by decide),λ_ _=>rfl,λq=>absurd q (by decide),z,z,z⟩
 ·exact zz51
 ·exact zz39
theorem Cv {w:World} {q:Pl} {t:Int} {hs vs:List Int} (h:PlanAt w q t hs vs) {b o n cap:Nat} {zs:List Int} (hr:Ad .i64 w (some ⟨b,o,none⟩) n zs) (ho:A8 zs=true) (n1:1<=n) (n2:n<=64) (hL:hs.length<=900000) (hb:¬ q.F b):
  Calls prog 39 #[.pointer (some ⟨q.p,0,none⟩),.slice (some ⟨b,o,none⟩) n cap] w (Fb w q t hs vs n zs):=by
 obtain ⟨i0,hi,hz0,hz1,hz2⟩:=info_parts LP;have hmk:∀ w:World,(Instr.makeSlice 135 (.int .i64 (n:Int)) (.int .i64 (n:Int))).run prog w= .ok (.slice (some ⟨w.heap.size,0,none⟩) n n) (w.alloc (.cells (BS n (NB zs 0)).toArray 170)):=by
  intro w;have h:=Go.run_make (P:=prog) w 135 170 i0 _ underlying135 hi hz0 .i64 .i64 n n (by omega) (by omega) (by rw [hz2];omega) (by omega);rw [hz1] at h;simp only [Int.toNat_natCast] at h;rw [DZ zs n] at h;exact h
 generalize hA:(BS n (NB zs 0)).toArray=A at hmk;have cS:=EY (cap:=cap) hr ho false false n1 n2;have Fy:b<w.heap.size:=World.block_lt_of_cell? w _ (hr.cell ⟨b,o,none⟩ rfl 0 (by omega));have HX:=Qw (Qz h (Qz hr (Qz hA (Qz Fy (Qz hb ho)))));clear h hr ho hA hb Fy
 go_in
 go_wp2_with (first
  |((with_reducible refine cS.mono ?_);intro e wq hq;unfold Br at hq;obtain ⟨p,sb,rfl,hS,hp,Eg,hW⟩:=hq;have HS:=Qw (Qz hS (Qz hp (Qz Eg hW)));clear hS hp Eg hW cS)
  |((with_reducible refine (Gp (CG HX.out.1 HS.out.2.2.2 HX.out.2.1 HX.out.2.2.2.1 HX.out.2.2.2.2.1 A (FC p 0 wq.heap.size n) HX.out.2.2.1 rfl rfl) n1 n2 hL).mono ?_);intro e wr hq;unfold Ax at hq;obtain ⟨rfl,hl⟩:=hq;have HL:=Qw hl;clear hl))
 go_ret2
 obtain ⟨h,hr,hA,Fy,hb,ho⟩:=HX.out;exact DA h HS.out.2.2.2 HS.out.1 HS.out.2.1 HS.out.2.2.1 rfl rfl n2 hL ho _ HL.out
open _root_.Go.Proofs.Tryz
def Low (L:Lp) (k:Nat):Prop:=k<L.q.k3
theorem LkAt.low {w w':World} {L:Lp} {f:FL} (h:LkAt w L f) (k:Wr (LF L) w w'):Wr (Low L) w w':=k.mono λb _ e=>zz1h
structure LkS (w0 w:World) (L:Lp) (f:FL):Prop where
 lk:LkAt w L f
 low:w0.heap.size<=L.lb/\w0.heap.size<=L.p/\w0.heap.size<=L.b/\w0.heap.size<=L.tb/\w0.heap.size<=L.q.k0
 wr:Wr Nil w0 w
namespace LkS
variable {w0 w w':World} {L:Lp} {f f':FL}
theorem after (h:LkS w0 w L f) (k:Wr Nil w w'):LkS w0 w' L f:=⟨h.lk.after k,h.low,h.wr.nil k⟩
theorem apart {S:Nat->Prop} (h:LkS w0 w L f) (k:Wr S w w') (hS:∀ b,S b->L.q.k3<=b):LkS w0 w' L f:=zz30
theorem Hy (h:LkS w0 w L f) {k:Nat} (hk:LF L k):w0.heap.size<=k:=zz23
theorem call (h:LkS w0 w L f) (hl:LkAt w' L f') (k:Wr (LF L) w w'):LkS w0 w' L f':=⟨hl,h.low,h.wr.trans k λb hb e=>by have:=h.Hy e;unfold Nil;omega⟩
theorem cell0 (h:LkS w0 w L f):w.cell? ⟨L.lb,0,none⟩=some (.pointer (some ⟨L.p,0,none⟩)):=h.lk.raw.cell0
end LkS
def Bf (w0 w:World) (L:Lp) (f:FL) (v:Value) (e:Ending) (w':World):Prop:=e= .returned v/\LkS w0 w' L f/\Wr (Low L) w w'
section
variable {w0 w:World} {L:Lp} {f:FL}
theorem Cr (h:LkS w0 w L f) (t d:Int):Calls prog 127 #[.pointer (some ⟨L.p,0,none⟩),.int .i64 t,.int .i64 d] w (Bf w0 w L (f.lock t d) (.int .i64 (BZ f.s t d))):=
 (Eo h.lk.raw.seat t d).mono λe w' ⟨he,hS,hW⟩=>⟨he,h.call (h.lk.seats hS (SS.Vh _ _ _) hW) (CH hW),h.lk.low (CH hW)⟩
theorem Bt (h:LkS w0 w L f) (t:Int):Calls prog 131 #[.pointer (some ⟨L.p,0,none⟩),.int .i64 t] w (Bf w0 w L (f.turn t 3) (.int .i64 (BR f.s t))):=
 (DJ h.lk.raw.seat t).mono λe w' ⟨he,hS,hW⟩=>⟨he,h.call (h.lk.seats hS (SS.Wd _ _ _ rfl) hW) (CH hW),h.lk.low (CH hW)⟩
theorem Cs (h:LkS w0 w L f) (t u x:Int) (hD:f.ps.D.length<4611686018427387904):Calls prog 193 #[.pointer (some ⟨L.lb,0,none⟩),.int .i64 t,.int .i64 u,.int .i64 x] w (Bf w0 w L (f.step L t u) (f.did L t u).val):=
 (CB h.lk t u x hD).mono λe w' ⟨he,hl,hW⟩=>⟨he,h.call hl hW,h.lk.low hW⟩
end
structure G' (w0 w:World) (L:Lp) (f:FL):Prop where
 raw:Ey w L (.pointer none) f
 port:PortAt w L.q L.hs f.ps
 far:L.lb<L.q.k0/\L.p<L.q.k0/\L.b<L.q.k0/\L.tb<L.q.k0
 top:L.q.k3<=w.heap.size
 low:w0.heap.size<=L.lb/\w0.heap.size<=L.p/\w0.heap.size<=L.b/\w0.heap.size<=L.tb/\w0.heap.size<=L.q.k0
 wr:Wr Nil w0 w
theorem Dp {w0 w:World} {L:Lp} {f:FL} (h:G' w0 w L f):
  Calls prog 194 #[.pointer (some ⟨L.lb,0,none⟩),.pointer (some ⟨L.q.p,0,none⟩)] w λe w'=>e= .returned (.tuple #[])/\LkS w0 w' L f/\Wr (Low L) w w':=zz5
theorem DX {w0 w1 w2:World} {L0:Lp} {q:Place} {f:FL} {hs:List Int} (hr:Ey w1 L0 (.pointer none) f) (hl:w0.heap.size<=L0.lb/\w0.heap.size<=L0.p/\w0.heap.size<=L0.b/\w0.heap.size<=L0.tb) (h0:Wr Nil w0 w1)
  (hP:PortAt w2 q hs f.ps) (h1:w1.heap.size<=q.k0) (h2:q.k3<=w2.heap.size) (hW:Wr Nil w1 w2):G' w0 w2 {L0 with q:=q,hs:=hs} f:=zz7x
def Bl (zs:List Int) (n t:Nat):FL:=⟨AQ n false false,λj=>zs.getD j 0,λ_=>0,λj=>(j:Int)+1,λ_=>0,λ_=>0,λ_=>0,Dq t (Dy n)⟩
theorem QN {zs:List Int} (h:A8 zs=true):A8 (Dm zs)=true:=by
 have h0:=Co h;unfold A8 at h ⊢;unfold Dm;rw [List.all_append,List.all_append,List.all_append,h];show ((FO (zs.getD 0 0)&&true)&&(upTo 8).all FO&&true&&(FO (zs.getD 0 0)&&true))=true;rw [h0,show (upTo 8).all FO=true from by decide];rfl
theorem OO {n:Nat} (hn:n<=64) (j:Nat):0<=(Dy n).getD j 0/\(Dy n).getD j 0<4294967296:=by
 rw [List.getD_eq_getElem?_getD];cases e:(Dy n)[j]? with
 |none=>decide
 |some x=>
  have hx:=List.mem_of_getElem? e;unfold Dy at hx;simp only [List.mem_append,List.mem_singleton,List.mem_replicate] at hx;show 0<=x/\x<4294967296;omega
theorem OM (n:Nat):(Dy n).length=n+10:=by simp only [Dy,List.length_append,List.length_singleton,List.length_replicate];omega
theorem Nb (zs:List Int):(Dm zs).length=zs.length+10:=by simp only [Dm,List.length_append,List.length_singleton,Hf];omega
def Iz (w0:World) (n:Nat) (zs:List Int) (lb:Nat) (e:Ending) (w':World):Prop:=∃ L:Lp,e= .returned (.tuple #[.pointer (some ⟨L.q.p,0,none⟩),.int .i64 0])/\(L.a1=0/\L.a2=1/\G' w0 w' L (Bl zs n n))/\L.lb=lb/\L.hs=Dm zs
theorem Cn {w0 w w1:World} {q q':Pl} {n:Nat} {zs:List Int} {L0:Lp} (h0:Wr Nil w0 w) (hq:∀ k,q.F k->w0.heap.size<=k) (n1:1<=n) (n2:n<=64) (ho:A8 zs=true) (hn:zs.length=n)
  (hR:FlRaw w1 L0 (.pointer none) (AQ n false false) (λ_=>0) (Y8 zs)) (hl:w.heap.size<=L0.lb/\w.heap.size<=L0.p/\w.heap.size<=L0.b/\w.heap.size<=L0.tb) (h1:L0.a1=0) (h2:L0.a2=1) (Eu:q'.p=q.p) (hP:PlanAt w1 q' n (Dm zs) (Dy n)) (hW:Wr q.F w w1):
  Calls prog 26 #[.pointer (some ⟨q.p,0,none⟩)] w1 (Iz w0 n zs L0.lb):=by
 have c:=Ch hP (λj=>OO n2 j) n1 n2 (by rw [Nb,hn];omega) (QN ho);rw [Eu] at c;refine c.mono ?_;rintro e w' ⟨qq,rfl,hA,Ly,Gn,Ba⟩;have s0:=h0.size;exact ⟨{L0 with q:=qq,hs:=Dm zs},rfl,⟨h1,h2,DX (f:=Bl zs n n) hR (by omega) (h0.trans hW λk hk e=>by have:=hq k e;unfold Nil;omega) hA Ly Gn Ba⟩,rfl,rfl⟩
end Go.Proofs.YtmnephejhkfchaaGreat.Kh
