
import Derived.Test.YtmnephejhkfchaaGreatBuVia
namespace Go.Proofs.YtmnephejhkfchaaGreat.Kc
set_option linter.unusedVariables false
set_option maxRecDepth 100000
theorem El {ps:AK} {nx v:Int} {l:List Int} {k:Nat} (h:ps.ws=nx::l) (hk:k<ps.ac.length):
  A6 ps k 3 0=nx/\(A5 ps k 3 0 0 v).ws=v::l/\(A5 ps k 3 0 0 v).ac.length=ps.ac.length/\(A5 ps k 3 0 0 v).D.length=ps.D.length+1:=by
 have ho:Dg ps k 3 0=true:=by simp [Dg,EH,h];omega
 refine ⟨?_,?_,?_,?_⟩
 ·unfold A6;rw [ho];simp [CR,BK,h]
 ·unfold A5;rw [ho];simp [Gb,BA,h]
 ·exact zz1s
 ·exact zz22
theorem BL {ps:AK} {l:List Int} {k i:Nat} {a:Int} (h:ps.ws=l) (hk:k<ps.ac.length) (ha:a=((i:Nat):Int)) (hi:i<l.length):
  A6 ps k 1 a=l.getD i 0/\(A5 ps k 1 a 0 0).ws=l/\(A5 ps k 1 a 0 0).ac.length=ps.ac.length/\(A5 ps k 1 a 0 0).D.length=ps.D.length+1:=by
 subst ha h;exact zzq
theorem BQ {ps:AK} {l:List Int} {k i:Nat} {a v:Int} (h:ps.ws=l) (hk:k<ps.ac.length) (ha:a=((i:Nat):Int)) (hi:i<l.length):
  (A5 ps k 2 a 0 v).ws=l.set i v/\(A5 ps k 2 a 0 v).ac.length=ps.ac.length/\(A5 ps k 2 a 0 v).D.length=ps.D.length+1:=by
 subst ha h;exact zz10
theorem BU {s:SS} {k:Nat} {ev:Int} (h:AH (s.st k) ev=none):s.fin k ev=s:=zz1c
theorem Aw {s:SS} {k:Nat} {ev y:Int} (hk:k<s.n) (h:AH (s.st k) ev=some y):s.fin k ev=s.set k y 0:=zz19
def ID (node AL:Nat->Int):Int->List Nat->Prop
 |_,[]=>True
 |e,k::r=>AL k=e/\ID node AL (node k) r
def Ge (node:Nat->Int):Int->List Nat->Int
 |e,[]=>e
 |_,k::r=>Ge node (node k) r
theorem Pu (node:Nat->Int) (e:Int) (Q:List Nat) (k:Nat):Ge node e (Q++[k])=node k:=zz71
theorem NK {node AL:Nat->Int} {e:Int} {Q:List Nat} {k:Nat} (h:ID node AL e Q) (hk:AL k=Ge node e Q):ID node AL e (Q++[k]):=by
 induction Q generalizing e with
 |nil=>exact ⟨hk,trivial⟩
 |cons a r ih=>exact ⟨h.1,ih h.2 hk⟩
theorem J6 {node Eb AL Jq:Nat->Int} {e:Int} {Q:List Nat} (h:ID node AL e Q) (hs:∀ j∈Q,Eb j=node j/\Jq j=AL j):ID Eb Jq e Q:=by
 induction Q generalizing e with
 |nil=>trivial
 |cons a r ih=>
  have ha:=hs a List.mem_cons_self;refine ⟨ha.2.trans h.1,?_⟩;rw [ha.1];exact ih h.2 λj hj=>hs j (List.mem_cons_of_mem _ hj)
theorem Pv {node Eb:Nat->Int} {Q:List Nat} (hs:∀ j∈Q,Eb j=node j) (e:Int):Ge Eb e Q=Ge node e Q:=by
 induction Q generalizing e with
 |nil=>rfl
 |cons a r ih=>
  show Ge Eb (Eb a) r=Ge node (node a) r;rw [hs a List.mem_cons_self];exact ih (λj hj=>hs j (List.mem_cons_of_mem _ hj)) _
theorem Rq {node AL:Nat->Int} {e:Int} {Q:List Nat} (h:ID node AL e Q) {k:Nat} (hk:k∈Q):(∃ r,Q=k::r/\AL k=e)\/∃ j∈Q,AL k=node j:=by
 induction Q generalizing e with
 |nil=>cases hk
 |cons a r ih=>
  rcases List.mem_cons.1 hk with rfl|hk
  ·exact .inl ⟨r,rfl,h.1⟩
  ·rcases ih h.2 hk with ⟨r',rfl,he⟩|⟨j,hj,he⟩
   ·exact .inr ⟨a,List.mem_cons_self,he⟩
   ·exact .inr ⟨j,List.mem_cons_of_mem _ hj,he⟩
structure OrdJ (f:FL) (g:Option Nat) (W:List Nat) (e:Int):Prop where
 n8:f.s.n<=64
 BP:∀ j,j<f.s.n->0<=f.node j/\f.node j<=f.s.n
 L8:0<=e/\e<=f.s.n
 inj:∀ j k,j<f.s.n->k<f.s.n->f.node j=f.node k->j=k
 ne:∀ j,j<f.s.n->f.node j≠e
 ws:∃ fl:List Int,f.ps.ws=Ge f.node e (g.toList++W)::fl/\fl.length=f.s.n+1/\(∀ j,j<f.s.n->fl.getD (f.node j).toNat 0=if f.pc j=0 then 0 else 1)/\fl.getD e.toNat 0=0
 ac:f.ps.ac.length=f.s.n
 nodup:(g.toList++W).Nodup
 lt:∀ k∈g.toList++W,k<f.s.n
 Qo:∀ j,j<f.s.n->(f.pc j=2↔j∈g.toList++W)
 Ev:∀ j,f.pc j=0\/f.pc j=1\/f.pc j=2
 YC:∀ j,j<f.s.n->f.pc j=1->f.s.st j=1
 ch:ID f.node f.AL e (g.toList++W)
 FZ:∀ k,g=some k->f.s.st k=2\/f.s.st k=3\/f.s.st k=4
 EN:∀ k∈W,f.s.st k=1
 FB:∀ k,k<f.s.n->k∉g.toList++W->f.s.st k=0\/f.s.st k=1
namespace OrdJ
variable {f:FL} {g:Option Nat} {W:List Nat} {e:Int} {L:Lp}
theorem held (h:OrdJ f g W e) {k:Nat} (hk:k<f.s.n) (hs:f.s.st k=2\/f.s.st k=3\/f.s.st k=4):g=some k:=zz1p
theorem idle (h:OrdJ f g W e) {k:Nat} (hk:k<f.s.n) (hs:f.s.st k=0):k∉g.toList++W:=λhm=>zz29
theorem UR (h:OrdJ f g W e) (k:Nat) (x d:Int) (h0:k∉g.toList++W->x=0\/x=1) (h1:k∈W->x=1) (h2:g=some k->x=2\/x=3\/x=4) (h3:f.pc k=1->x=1):OrdJ {f with s:=f.s.set k x d} g W e:=by
 refine ⟨h.n8,h.BP,h.L8,h.inj,h.ne,h.ws,h.ac,h.nodup,h.lt,h.Qo,h.Ev,λj hj hp=> ?_,h.ch,λj hj=> ?_,λj hj=> ?_,λj hj hn=> ?_⟩
 ·show upd f.s.st k x j=1
  by_cases q:j=k
  ·subst q;rw [upd_same];exact h3 hp
  ·rw [A0 _ _ q];exact h.YC j hj hp
 ·show upd f.s.st k x j=2\/upd f.s.st k x j=3\/upd f.s.st k x j=4
  by_cases q:j=k
  ·subst q;rw [upd_same];exact h2 hj
  ·rw [A0 _ _ q];exact h.FZ j hj
 ·show upd f.s.st k x j=1
  by_cases q:j=k
  ·subst q;rw [upd_same];exact h1 hj
  ·rw [A0 _ _ q];exact h.EN j hj
 ·show upd f.s.st k x j=0\/upd f.s.st k x j=1
  by_cases q:j=k
  ·subst q;rw [upd_same];exact h0 hn
  ·rw [A0 _ _ q];exact h.FB j hj hn
theorem lock (h:OrdJ f g W e) (t d:Int):OrdJ (f.lock t d) g W e:=by
 unfold FL.lock SS.lock;split
 ·rename_i he
  unfold BZ at he;split at he
  ·rename_i hc
   split at he
   ·rename_i hs
    have hk:t.toNat<f.s.n:=by omega
    have hn:=h.idle hk hs;exact h.UR _ _ _ (λ_=> .inr rfl) (λ_=>rfl) (λe=>absurd (List.mem_append_left W (by rw [e];simp)) hn) λ_=>rfl
   ·omega
  ·omega
 ·exact h
theorem turn (h:OrdJ f g W e) (t x:Int) (hx:x=3\/x=4):OrdJ (f.turn t x) g W e:=by
 unfold FL.turn SS.turn;split
 ·rename_i he
  unfold BR at he;split at he
  ·rename_i hc
   split at he
   ·omega
   ·split at he
    ·rename_i hs
     have hk:t.toNat<f.s.n:=by omega
     have hg:=h.held hk (.inl hs);refine h.UR _ _ _ (λhn=>absurd (List.mem_append_left W (by rw [hg];simp)) hn) (λhw=> ?_) (λ_=> .inr hx) λhp=> ?_
     ·have:=h.EN _ hw
      omega
     ·have:=h.YC _ hk hp
      omega
    ·omega
  ·omega
 ·exact h
theorem WM (h:OrdJ f g W e) {ps:AK} (hw:ps.ws=f.ps.ws) (ha:ps.ac.length=f.ps.ac.length):OrdJ {f with ps:=ps} g W e:=
 ⟨h.n8,h.BP,h.L8,h.inj,h.ne,by obtain ⟨fl,a⟩:=h.ws;exact ⟨fl,by rw [hw];exact a.1,a.2⟩,ha.trans h.ac,h.nodup,h.lt,h.Qo,h.Ev,h.YC,h.ch,h.FZ,h.EN,h.FB⟩
theorem J8 (h:OrdJ f g W e) {k:Nat} (hk:k<f.s.n):∃ x:Nat,f.node k=(x:Int)/\x<f.s.n+1:=by
 have:=h.BP k hk;exact ⟨(f.node k).toNat,by omega,by omega⟩
theorem Wq (h:OrdJ f g W e):∃ x:Nat,e=(x:Int)/\x<f.s.n+1:=by
 have:=h.L8;exact ⟨e.toNat,by omega,by omega⟩
theorem flag (h:OrdJ f g W e) {k:Nat} (hk:k<f.s.n) (hs:f.s.st k=1) (hp:f.pc k=0) {ps:AK} (hw:ps.ws=f.ps.ws.set ((f.node k).toNat+1) 1) (ha:ps.ac.length=f.ps.ac.length):OrdJ {f with pc:=upd f.pc k 1,ps:=ps} g W e:=by
 have hn:k∉g.toList++W:=λq=>by have:=(h.Qo k hk).2 q;omega
 obtain ⟨fl,w1,w2,w3,w4⟩:=h.ws;obtain ⟨x,hx,hx1⟩:=h.J8 hk;refine ⟨h.n8,h.BP,h.L8,h.inj,h.ne,⟨fl.set x 1,?_,by simpa using w2,λj hj=> ?_,?_⟩,ha.trans h.ac,h.nodup,h.lt,λj hj=> ?_,λj=> ?_,λj hj hq=> ?_,h.ch,h.FZ,h.EN,h.FB⟩
 ·show ps.ws=_
  rw [hw,w1,hx];rfl
 ·show (fl.set x 1).getD (f.node j).toNat 0=if upd f.pc k 1 j=0 then 0 else 1
  by_cases q:j=k
  ·subst q
   rw [upd_same,hx,Int.toNat_natCast,Qq (by decide)];simp [w2,hx1]
  ·have hne:x≠(f.node j).toNat:=λq2=>q (h.inj j k hj hk (by have:=h.BP j hj;omega))
   rw [A0 _ _ q,<-w3 j hj];simp [hne]
 ·have hne:x≠e.toNat:=λq=>h.ne k hk (by have:=h.L8;omega)
  rw [List.getD_eq_getElem?_getD,List.getElem?_set,Qq hne,<-List.getD_eq_getElem?_getD];exact w4
 ·show upd f.pc k 1 j=2↔_
  by_cases q:j=k
  ·subst q;rw [upd_same];exact ⟨λq=>by omega,λq=>absurd q hn⟩
  ·rw [A0 _ _ q];exact h.Qo j hj
 ·show upd f.pc k 1 j=0\/upd f.pc k 1 j=1\/upd f.pc k 1 j=2
  by_cases q:j=k
  ·subst q;rw [upd_same];exact .inr (.inl rfl)
  ·rw [A0 _ _ q];exact h.Ev j
 ·by_cases q:j=k
  ·subst q;exact hs
  ·have hq:upd f.pc k 1 j=1:=hq
   rw [A0 _ _ q] at hq;exact h.YC j hj hq
theorem BW (h:OrdJ f g W e) {k:Nat} (hk:k<f.s.n) (hs:f.s.st k=1) (hp:f.pc k=1) {fl:List Int} (hf:f.ps.ws=Ge f.node e (g.toList++W)::fl) {ps:AK} (hw:ps.ws=f.node k::fl) (ha:ps.ac.length=f.ps.ac.length):
  OrdJ {f with pc:=upd f.pc k 2,AL:=upd f.AL k (Ge f.node e (g.toList++W)),ps:=ps} g (W++[k]) e:=by
 have hn:k∉g.toList++W:=λq=>by have:=(h.Qo k hk).2 q;omega
 obtain ⟨lV,w1,w2,w3,w4⟩:=h.ws;rw [hf] at w1;obtain rfl:fl=lV:=(List.cons.inj w1).2;refine ⟨h.n8,h.BP,h.L8,h.inj,h.ne,⟨fl,?_,w2,λj hj=> ?_,w4⟩,ha.trans h.ac,?_,?_,?_,?_,?_,?_,h.FZ,?_,?_⟩
 ·show ps.ws=Ge f.node e (g.toList++(W++[k]))::fl
  rw [<-List.append_assoc,Pu,hw]
 ·show fl.getD (f.node j).toNat 0=if upd f.pc k 2 j=0 then 0 else 1
  rw [w3 j hj];by_cases q:j=k
  ·subst q;rw [upd_same,hp,Qq (by decide),Qq (by decide)]
  ·rw [A0 _ _ q]
 ·exact zz4e
 ·exact zz2q
 ·intro j hj
  show upd f.pc k 2 j=2↔_;rw [<-List.append_assoc,List.mem_append,List.mem_singleton];by_cases q:j=k
  ·subst q;rw [upd_same];simp
  ·rw [A0 _ _ q,h.Qo j hj];simp [q]
 ·intro j
  show upd f.pc k 2 j=0\/upd f.pc k 2 j=1\/upd f.pc k 2 j=2;by_cases q:j=k
  ·subst q;rw [upd_same];exact .inr (.inr rfl)
  ·rw [A0 _ _ q];exact h.Ev j
 ·intro j hj hq
  by_cases q:j=k
  ·subst q;exact hs
  ·have hq:upd f.pc k 2 j=1:=hq
   rw [A0 _ _ q] at hq;exact h.YC j hj hq
 ·show ID f.node (upd f.AL k _) e (g.toList++(W++[k]))
  rw [<-List.append_assoc];exact NK (J6 h.ch λj hj=>⟨rfl,A0 _ _ λq=>by subst q;exact hn hj⟩) (upd_same _ _ _)
 ·exact zz3f
 ·exact zz3y
theorem waits (h:OrdJ f g W e) {k:Nat} (hk:k<f.s.n) (hs:f.s.st k=1) (hp:f.pc k=2):k∈W:=by
 rcases List.mem_append.1 ((h.Qo k hk).1 hp) with hm|hm
 ·exact zz3v
 ·exact hm
theorem looks (h:OrdJ f g W e) {k:Nat} (hm:k∈W):(g=none/\∃ W',W=k::W'/\f.AL k=e)\/∃ j,j<f.s.n/\f.pc j=2/\f.AL k=f.node j:=by
 rcases Rq h.ch (List.mem_append_right _ hm) with ⟨r,hr,he⟩|⟨j,hj,he⟩
 ·cases g with
  |none=>exact .inl ⟨rfl,r,hr,he⟩
  |some a=>
   obtain rfl:a=k:=(List.cons.inj hr).1;exact absurd hm (List.nodup_cons.1 h.nodup).1
 ·have hl:=h.lt j hj
  exact .inr ⟨j,hl,(h.Qo j hl).2 hj,he⟩
theorem Bs {k:Nat} (h:OrdJ f none (k::W) e) {ps:AK} (hw:ps.ws=f.ps.ws) (ha:ps.ac.length=f.ps.ac.length) (d:Int):
  OrdJ {f with s:=f.s.set k 2 d,ps:=ps} (some k) W e:=by
 refine ⟨h.n8,h.BP,h.L8,h.inj,h.ne,by obtain ⟨fl,a⟩:=h.ws;exact ⟨fl,by rw [hw];exact a.1,a.2⟩,ha.trans h.ac,h.nodup,h.lt,h.Qo,h.Ev,λj hj hp=> ?_,h.ch,λj hj=> ?_,λj hj=> ?_,λj hj hn=> ?_⟩
 ·show upd f.s.st k 2 j=1
  have oC:=(h.Qo k (h.lt k List.mem_cons_self)).2 List.mem_cons_self;rw [A0 _ _ (λq=>by subst q;have hp:f.pc j=1:=hp;omega)];exact h.YC j hj hp
 ·exact zz56
 ·show upd f.s.st k 2 j=1
  rw [A0 _ _ (λq=>by subst q;exact (List.nodup_cons.1 h.nodup).1 hj)];exact h.EN j (List.mem_cons_of_mem _ hj)
 ·show upd f.s.st k 2 j=0\/upd f.s.st k 2 j=1
  rw [A0 _ _ (λq=>by subst q;exact hn (by simp))];exact h.FB j hj hn
theorem free {k:Nat} (h:OrdJ f (some k) W e) {ps:AK} (hw:ps.ws=f.ps.ws.set ((f.node k).toNat+1) 0) (ha:ps.ac.length=f.ps.ac.length) (d:Int):
  OrdJ {f with s:=f.s.set k 0 d,pc:=upd f.pc k 0,node:=upd f.node k (f.AL k),AL:=upd f.AL k 0,ps:=ps} none W (f.node k):=by
 have LN:k∉W:=(List.nodup_cons.1 h.nodup).1;have hk:k<f.s.n:=h.lt k List.mem_cons_self;have ft:f.AL k=e:=h.ch.1;obtain ⟨fl,w1,w2,w3,w4⟩:=h.ws;obtain ⟨x,hx,hx1⟩:=h.J8 hk;have mB:x≠e.toNat:=λq=>h.ne k hk (by have:=h.L8;omega);rw [ft];refine ⟨h.n8,λj hj=> ?_,h.BP k hk,λj i hj hi hq=> ?_,λj hj=> ?_,⟨fl.set x 0,?_,by rw [List.length_set];exact w2,λj hj=> ?_,?_⟩,ha.trans h.ac,(List.nodup_cons.1 h.nodup).2,λj hj=>h.lt j (List.mem_append_right _ hj),λj hj=> ?_,λj=> ?_,λj hj hq=> ?_,?_,λj hj=>(by cases hj),λj hj=> ?_,λj hj hn=> ?_⟩
 ·show 0<=upd f.node k e j/\upd f.node k e j<=_
  by_cases q:j=k
  ·subst q;rw [upd_same];exact h.L8
  ·rw [A0 _ _ q];exact h.BP j hj
 ·replace hq:upd f.node k e j=upd f.node k e i:=hq
  by_cases q:j=k
  ·by_cases q2:i=k
   ·rw [q,q2]
   ·subst q;rw [upd_same,A0 _ _ q2] at hq;exact absurd hq.symm (h.ne i hi)
  ·by_cases q2:i=k
   ·subst q2;rw [upd_same,A0 _ _ q] at hq;exact absurd hq (h.ne j hj)
   ·rw [A0 _ _ q,A0 _ _ q2] at hq;exact h.inj j i hj hi hq
 ·show upd f.node k e j≠f.node k
  by_cases q:j=k
  ·subst q;rw [upd_same];exact λq=>h.ne j hj q.symm
  ·rw [A0 _ _ q];exact λq2=>q (h.inj j k hj hk q2)
 ·show ps.ws=Ge (upd f.node k e) (f.node k) W::fl.set x 0
  rw [hw,w1,hx,Pv (λj hj=>A0 _ _ λq=>by subst q;exact LN hj)];show _::fl.set (Int.toNat (x:Int)) 0=_;rw [Int.toNat_natCast,<-hx];rfl
 ·show (fl.set x 0).getD (upd f.node k e j).toNat 0=if upd f.pc k 0 j=0 then 0 else 1
  by_cases q:j=k
  ·subst q
   rw [upd_same,upd_same,Qj rfl,List.getD_eq_getElem?_getD,List.getElem?_set,Qq mB,<-List.getD_eq_getElem?_getD];exact w4
  ·have hne:x≠(f.node j).toNat:=λq2=>q (h.inj j k hj hk (by have:=h.BP j hj;omega))
   rw [A0 _ _ q,A0 _ _ q,<-w3 j hj];simp [hne]
 ·show (fl.set x 0).getD (f.node k).toNat 0=0
  rw [hx,Int.toNat_natCast];simp [w2,hx1]
 ·show upd f.pc k 0 j=2↔_
  by_cases q:j=k
  ·subst q;rw [upd_same];simp [LN]
  ·rw [A0 _ _ q,h.Qo j hj];simp [q]
 ·show upd f.pc k 0 j=0\/upd f.pc k 0 j=1\/upd f.pc k 0 j=2
  by_cases q:j=k
  ·subst q;rw [upd_same];exact .inl rfl
  ·rw [A0 _ _ q];exact h.Ev j
 ·replace hq:upd f.pc k 0 j=1:=hq
  show upd f.s.st k 0 j=1;by_cases q:j=k
  ·subst q;rw [upd_same] at hq;omega
  ·rw [A0 _ _ q] at hq ⊢;exact h.YC j hj hq
 ·exact J6 h.ch.2 λj hj=>⟨A0 _ _ λq=>by subst q;exact LN hj,A0 _ _ λq=>by subst q;exact LN hj⟩
 ·show upd f.s.st k 0 j=1
  rw [A0 _ _ (λq=>by subst q;exact LN hj)];exact h.EN j hj
 ·show upd f.s.st k 0 j=0\/upd f.s.st k 0 j=1
  by_cases q:j=k
  ·subst q;rw [upd_same];exact .inl rfl
  ·rw [A0 _ _ q]
   exact h.FB j hj (by simpa [q] using hn)
theorem D6 {t:Int} (hk:¬ ((0:Int)<=t/\t<f.s.n)):f.did L t t=Dd.no/\f.step L t t=f:=zzr
theorem Aq (s:SS) (t:Nat):s.fin t Dd.no.ev=s:=BU (by
 unfold AH;rw [Qq (λq=>absurd q.2 (by decide)),Qq (λq=>q.2.elim (λq=>absurd q (by decide)) λq=>absurd q (by decide)),Qq (λq=>absurd q.2 (by decide)),Qq (λq=>q.2.elim (λq=>absurd q (by decide)) λq=>absurd q (by decide))])
theorem D5 {k:Nat} (hk:k<f.s.n) (s1:f.s.st k≠1) (s3:f.s.st k≠3) (s4:f.s.st k≠4):f.did L k k=Dd.no/\f.step L k k=f:=zz2h
theorem Uf (h:OrdJ f g W e) (h2:L.a2=1) {k:Nat} (hk:k<f.s.n) (s1:f.s.st k=1) (hd:f.pc k=0):
  f.did L k k=Dd.no/\f.step L k k={f with pc:=upd f.pc k 1,ps:=A5 f.ps k 2 (L.a2+f.node k) 0 1}/\(A5 f.ps k 2 (L.a2+f.node k) 0 1).ws=f.ps.ws.set ((f.node k).toNat+1) 1/\(A5 f.ps k 2 (L.a2+f.node k) 0 1).ac.length=f.ps.ac.length/\(A5 f.ps k 2 (L.a2+f.node k) 0 1).D.length=f.ps.D.length+1:=by
 have ht:(0:Int)<=(k:Int)/\(k:Int)<f.s.n:=by omega
 obtain ⟨x,hx,hx1⟩:=h.J8 hk;obtain ⟨fl,w1,w2,_⟩:=h.ws;obtain ⟨b,c,d⟩:=BQ (a:=L.a2+f.node k) (i:=x+1) (v:=1) rfl (show k<f.ps.ac.length by rw [h.ac];exact hk) (by rw [h2,hx];omega) (by rw [w1,List.length_cons,w2];omega);have e:f.did L k k=Dd.no:=by unfold FL.did FL.A7;rw [Qj ht,Int.toNat_natCast,Qj s1,Qj hd]
 have em:f.mid L k k={f with pc:=upd f.pc k 1,ps:=A5 f.ps k 2 (L.a2+f.node k) 0 1}:=by unfold FL.mid FL.acq;rw [Qj ht,Int.toNat_natCast,Qj s1,Qj hd]
 refine ⟨e,?_,?_,c,d⟩
 ·unfold FL.step
  rw [e,em,Aq]
 ·rw [b,hx,Int.toNat_natCast]
theorem Uh (h:OrdJ f g W e) (h1:L.a1=0) {k:Nat} (hk:k<f.s.n) (s1:f.s.st k=1) (hd:f.pc k=1) {fl:List Int} (hf:f.ps.ws=Ge f.node e (g.toList++W)::fl):
  f.did L k k=⟨0,true,false,false⟩/\f.step L k k={f with pc:=upd f.pc k 2,AL:=upd f.AL k (Ge f.node e (g.toList++W)),ps:=A5 f.ps k 3 0 0 (f.node k)}/\(A5 f.ps k 3 0 0 (f.node k)).ws=f.node k::fl/\(A5 f.ps k 3 0 0 (f.node k)).ac.length=f.ps.ac.length/\(A5 f.ps k 3 0 0 (f.node k)).D.length=f.ps.D.length+1:=by
 have ht:(0:Int)<=(k:Int)/\(k:Int)<f.s.n:=by omega
 obtain ⟨a,b,c,d⟩:=El (v:=f.node k) hf (show k<f.ps.ac.length by rw [h.ac];exact hk);have e:f.did L k k=⟨0,true,false,false⟩:=by unfold FL.did FL.A7;rw [Qj ht,Int.toNat_natCast,Qj s1,Qq (by omega),Qj hd]
 refine ⟨e,?_,b,c,d⟩;unfold FL.step;rw [e,BU (by rw [s1];rfl)];unfold FL.mid FL.acq;rw [Qj ht,Int.toNat_natCast,Qj s1,Qq (by omega),Qj hd,h1,a]
theorem Ui {k:Nat} (h:OrdJ f none (k::W) e) (h2:L.a2=1) (hk:k<f.s.n) (s1:f.s.st k=1):
  f.did L k k=⟨1,false,false,false⟩/\f.step L k k={f with s:=f.s.set k 2 0,ps:=A5 f.ps k 1 (L.a2+f.AL k) 0 0}/\(A5 f.ps k 1 (L.a2+f.AL k) 0 0).ws=f.ps.ws/\(A5 f.ps k 1 (L.a2+f.AL k) 0 0).ac.length=f.ps.ac.length/\(A5 f.ps k 1 (L.a2+f.AL k) 0 0).D.length=f.ps.D.length+1:=by
 have ht:(0:Int)<=(k:Int)/\(k:Int)<f.s.n:=by omega
 have hd:f.pc k=2:=(h.Qo k hk).2 List.mem_cons_self;have ft:f.AL k=e:=h.ch.1;obtain ⟨x,hx,hx1⟩:=h.Wq;obtain ⟨fl,w1,w2,_,w4⟩:=h.ws;obtain ⟨a,b,c,d⟩:=BL (a:=L.a2+f.AL k) (i:=x+1) rfl (show k<f.ps.ac.length by rw [h.ac];exact hk) (by rw [h2,ft,hx];omega) (by rw [w1,List.length_cons,w2];omega);have a0:A6 f.ps k 1 (L.a2+f.AL k)=0:=by
  rw [a,w1,List.getD_cons_succ];rw [hx,Int.toNat_natCast] at w4;exact w4
 have e:f.did L k k=⟨1,false,false,false⟩:=by unfold FL.did FL.A7;rw [Qj ht,Int.toNat_natCast,Qj s1,Qq (by omega),Qq (by omega),Qj a0]
 refine ⟨e,?_,b,c,d⟩;unfold FL.step;rw [e,Aw hk (by rw [s1];rfl:AH (f.s.st k) 1=some 2)];unfold FL.mid FL.acq;exact zz40
theorem Kt (h:OrdJ f g W e) (h2:L.a2=1) {k j:Nat} (hk:k<f.s.n) (s1:f.s.st k=1) (hd:f.pc k=2) (hj:j<f.s.n) (pj:f.pc j=2) (ha:f.AL k=f.node j):
  f.did L k k=Dd.no/\f.step L k k={f with ps:=A5 f.ps k 1 (L.a2+f.AL k) 0 0}/\(A5 f.ps k 1 (L.a2+f.AL k) 0 0).ws=f.ps.ws/\(A5 f.ps k 1 (L.a2+f.AL k) 0 0).ac.length=f.ps.ac.length/\(A5 f.ps k 1 (L.a2+f.AL k) 0 0).D.length=f.ps.D.length+1/\f.ps.ws.getD ((f.AL k).toNat+1) 0=1:=by
 have ht:(0:Int)<=(k:Int)/\(k:Int)<f.s.n:=by omega
 obtain ⟨x,hx,hx1⟩:=h.J8 hj;obtain ⟨fl,w1,w2,w3,w4⟩:=h.ws;obtain ⟨a,b,c,d⟩:=BL (a:=L.a2+f.AL k) (i:=x+1) rfl (show k<f.ps.ac.length by rw [h.ac];exact hk) (by rw [h2,ha,hx];omega) (by rw [w1,List.length_cons,w2];omega);have hfl:fl.getD x 0=1:=by
  have:=w3 j hj;rw [hx,Int.toNat_natCast,pj,Qq (by decide)] at this;exact this
 have a0:A6 f.ps k 1 (L.a2+f.AL k)=1:=by rw [a,w1,List.getD_cons_succ,hfl]
 have e:f.did L k k=Dd.no:=by unfold FL.did FL.A7;rw [Qj ht,Int.toNat_natCast,Qj s1,Qq (by omega),Qq (by omega),Qq (by rw [a0];decide)]
 refine ⟨e,?_,b,c,d,?_⟩
 ·unfold FL.step
  rw [e,Aq];unfold FL.mid FL.acq;exact zz40
 ·rw [ha,hx,Int.toNat_natCast,w1,List.getD_cons_succ,hfl]
theorem Kr {k:Nat} (h:OrdJ f (some k) W e) (h2:L.a2=1) (hk:k<f.s.n) (s3:f.s.st k=3):
  f.did L k k=⟨3,false,false,false⟩/\f.step L k k={f with s:=f.s.set k 0 0,pc:=upd f.pc k 0,node:=upd f.node k (f.AL k),AL:=upd f.AL k 0,ps:=A5 f.ps k 2 (L.a2+f.node k) 0 0}/\(A5 f.ps k 2 (L.a2+f.node k) 0 0).ws=f.ps.ws.set ((f.node k).toNat+1) 0/\(A5 f.ps k 2 (L.a2+f.node k) 0 0).ac.length=f.ps.ac.length/\(A5 f.ps k 2 (L.a2+f.node k) 0 0).D.length=f.ps.D.length+1:=by
 have ht:(0:Int)<=(k:Int)/\(k:Int)<f.s.n:=by omega
 obtain ⟨x,hx,hx1⟩:=h.J8 hk;obtain ⟨fl,w1,w2,_⟩:=h.ws;obtain ⟨b,c,d⟩:=BQ (a:=L.a2+f.node k) (i:=x+1) (v:=0) rfl (show k<f.ps.ac.length by rw [h.ac];exact hk) (by rw [h2,hx];omega) (by rw [w1,List.length_cons,w2];omega);have e:f.did L k k=⟨3,false,false,false⟩:=by unfold FL.did;rw [Qj ht,Int.toNat_natCast,Qq (by omega),Qj s3]
 refine ⟨e,?_,?_,c,d⟩
 ·unfold FL.step
  rw [e,Aw hk (by rw [s3];rfl:AH (f.s.st k) 3=some 0)];unfold FL.mid FL.rel;exact zz5z
 ·rw [b,hx,Int.toNat_natCast]
theorem XU (h:OrdJ f g W e) (h1:L.a1=0) {k:Nat} (hk:k<f.s.n) (s4:f.s.st k=4):
  ∃ ev,(ev=4\/ev=5)/\f.did L k k=⟨ev,false,false,false⟩/\f.step L k k={f with s:=f.s.set k 2 0,ps:=A5 f.ps k 1 0 0 0}/\(A5 f.ps k 1 0 0 0).ws=f.ps.ws/\(A5 f.ps k 1 0 0 0).ac.length=f.ps.ac.length/\(A5 f.ps k 1 0 0 0).D.length=f.ps.D.length+1:=by
 have ht:(0:Int)<=(k:Int)/\(k:Int)<f.s.n:=by omega
 obtain ⟨fl,w1,_⟩:=h.ws;obtain ⟨a,b,c,d⟩:=BL (a:=0) (i:=0) rfl (show k<f.ps.ac.length by rw [h.ac];exact hk) rfl (by rw [w1,List.length_cons];omega);have em:f.mid L k k={f with ps:=A5 f.ps k 1 0 0 0}:=by
  unfold FL.mid FL.ask;rw [Qj ht,Int.toNat_natCast,Qq (by omega),Qq (by omega),Qj s4,h1]
 have key:∀ ev,ev=4\/ev=5->f.did L k k=⟨ev,false,false,false⟩->f.step L k k={f with s:=f.s.set k 2 0,ps:=A5 f.ps k 1 0 0 0}:=λev hev he=>by
  unfold FL.step;rw [he,em,Aw hk (by rw [s4];rcases hev with rfl|rfl<;>rfl:AH (f.s.st k) ev=some 2)]
 by_cases q:A6 f.ps k 1 L.a1=f.node k
 ·have e:f.did L k k=⟨4,false,false,false⟩:=by unfold FL.did FL.CW;rw [Qj ht,Int.toNat_natCast,Qq (by omega),Qq (by omega),Qj s4,Qj q]
  exact ⟨4,.inl rfl,e,key 4 (.inl rfl) e,b,c,d⟩
 ·have e:f.did L k k=⟨5,false,false,false⟩:=by unfold FL.did FL.CW;rw [Qj ht,Int.toNat_natCast,Qq (by omega),Qq (by omega),Qj s4,Qq q]
  exact ⟨5,.inr rfl,e,key 5 (.inr rfl) e,b,c,d⟩
inductive BC (W:List Nat) (t:Int) (d:Dd) (W':List Nat):Prop where
 |same (h0:d.BW=false) (h1:d.ev≠1) (h2:d.ev≠2) (e:W'=W):BC W t d W'
 |BW (hd:d=⟨0,true,false,false⟩) (k:Nat) (ht:t=k) (e:W'=W++[k]):BC W t d W'
 |Bs (hd:d=⟨1,false,false,false⟩) (k:Nat) (ht:t=k) (e:W=k::W') (hn:k∉W'):BC W t d W'
theorem step (h:OrdJ f g W e) (h1:L.a1=0) (h2:L.a2=1) (t:Int):
  ∃ g' W' e',OrdJ (f.step L t t) g' W' e'/\(f.step L t t).ps.D.length<=f.ps.D.length+1/\BC W t (f.did L t t) W':=by
 by_cases ht:0<=t/\t<f.s.n
 ·obtain ⟨k,rfl⟩:=Qx ht.1
  have hk:k<f.s.n:=by omega
  by_cases s1:f.s.st k=1
  ·rcases h.Ev k with q|q|q
   ·obtain ⟨d1,d2,d3,d4,d5⟩:=h.Uf h2 hk s1 q
    rw [d1,d2];exact ⟨g,W,e,h.flag hk s1 q d3 d4,Nat.le_of_eq d5,.same rfl (by decide) (by decide) rfl⟩
   ·obtain ⟨fl,w1,_⟩:=h.ws
    obtain ⟨d1,d2,d3,d4,d5⟩:=h.Uh h1 hk s1 q w1;rw [d1,d2];exact ⟨g,W++[k],e,h.BW hk s1 q w1 d3 d4,Nat.le_of_eq d5,.BW rfl k rfl rfl⟩
   ·have hm:=h.waits hk s1 q
    rcases h.looks hm with ⟨rfl,W',rfl,_⟩|⟨j,hj,pj,ha⟩
    ·obtain ⟨d1,d2,d3,d4,d5⟩:=h.Ui h2 hk s1
     rw [d1,d2];exact ⟨some k,W',e,h.Bs d3 d4 0,Nat.le_of_eq d5,.Bs rfl k rfl rfl (List.nodup_cons.1 h.nodup).1⟩
    ·obtain ⟨d1,d2,d3,d4,d5,_⟩:=h.Kt h2 hk s1 q hj pj ha
     rw [d1,d2];exact ⟨g,W,e,h.WM d3 d4,Nat.le_of_eq d5,.same rfl (by decide) (by decide) rfl⟩
  ·by_cases s3:f.s.st k=3
   ·obtain rfl:=h.held hk (.inr (.inl s3))
    obtain ⟨d1,d2,d3,d4,d5⟩:=h.Kr h2 hk s3;rw [d1,d2];exact ⟨none,W,f.node k,h.free d3 d4 0,Nat.le_of_eq d5,.same rfl (by decide) (by decide) rfl⟩
   ·by_cases s4:f.s.st k=4
    ·have hg:=h.held hk (.inr (.inr s4))
     have hm:k∈g.toList++W:=List.mem_append_left W (by rw [hg];simp);have LN:k∉W:=λhw=>by have:=h.EN k hw;omega
     obtain ⟨ev,hev,d1,d2,d3,d4,d5⟩:=h.XU h1 hk s4;rw [d1,d2];refine ⟨g,W,e,(h.WM d3 d4).UR k 2 0 (λq=>absurd hm q) (λq=>absurd q LN) (λ_=> .inl rfl) (λhp=> ?_),Nat.le_of_eq d5,.same rfl (by rcases hev with rfl|rfl<;>decide) (by rcases hev with rfl|rfl<;>decide) rfl⟩;have hp:f.pc k=1:=hp;have:=(h.Qo k hk).2 hm;omega
    ·obtain ⟨d1,d2⟩:=D5 (L:=L) hk s1 s3 s4
     exact zz62
 ·obtain ⟨d1,d2⟩:=D6 (L:=L) ht
  exact zz62
end OrdJ
def OrdI (f:FL) (W:List Nat):Prop:=∃ g e,OrdJ f g W e
namespace OrdI
variable {f:FL} {W:List Nat} {L:Lp}
theorem lock (h:OrdI f W) (t d:Int):OrdI (f.lock t d) W:=by obtain ⟨g,e,h⟩:=h;exact ⟨g,e,h.lock t d⟩
theorem unlock (h:OrdI f W) (t:Int):OrdI (f.turn t 3) W:=by obtain ⟨g,e,h⟩:=h;exact ⟨g,e,h.turn t 3 (.inl rfl)⟩
theorem step (h:OrdI f W) (h1:L.a1=0) (h2:L.a2=1) (t:Int):∃ W',OrdI (f.step L t t) W'/\(f.step L t t).ps.D.length<=f.ps.D.length+1/\OrdJ.BC W t (f.did L t t) W':=by
 obtain ⟨g,e,h⟩:=h;obtain ⟨g',W',e',a,b,c⟩:=h.step h1 h2 t;exact ⟨W',⟨g',e',a⟩,b,c⟩
theorem one (h:OrdI f W) {j k:Nat} (hj:j<f.s.n) (hk:k<f.s.n) (ej:f.s.st j=2) (ek:f.s.st k=2):j=k:=by
 obtain ⟨g,e,h⟩:=h;exact zz41
end OrdI
end Go.Proofs.YtmnephejhkfchaaGreat.Kc
namespace Go.Proofs.YtmnephejhkfchaaGreat.Km
set_option linter.unusedVariables false
set_option maxRecDepth 100000
def IE (pc A9 N K:Nat->Int) (i j:Nat):Prop:=
 (pc j=2/\A9 j=(i:Int)+1/\N i=0)\/(pc j=3/\A9 j=(i:Int)+1/\K j=1/\N i=0)\/(pc j=4/\K j=1/\N i=(j:Int)+1)
def N8 (pc A9 N K:Nat->Int):List Nat->Prop
 |[]=>True
 |[k]=>N k=0
 |i::j::r=>IE pc A9 N K i j/\N8 pc A9 N K (j::r)
def JD:Int->List Nat->Int
 |e,[]=>e
 |_,k::r=>JD ((k:Int)+1) r
theorem Nk (e:Int) (Q:List Nat) (k:Nat):JD e (Q++[k])=(k:Int)+1:=zz71
theorem K5 (e:Int) (k:Nat) (r:List Nat):∃ j∈k::r,JD e (k::r)=(j:Int)+1:=by
 induction r generalizing e k with
 |nil=>exact ⟨k,List.mem_cons_self,rfl⟩
 |cons a r ih=>
  obtain ⟨j,hj,h⟩:=ih ((k:Int)+1) a;exact ⟨j,List.mem_cons_of_mem _ hj,h⟩
section
variable {pc A9 N K FY Gu N' K':Nat->Int}
theorem ER {Q:List Nat} (h:N8 pc A9 N K Q) (hN:∀ j∈Q,N' j=N j) (hs:∀ j∈Q.tail,FY j=pc j/\Gu j=A9 j/\K' j=K j):N8 FY Gu N' K' Q:=by
 induction Q with
 |nil=>trivial
 |cons i r ih=>
  cases r with
  |nil=>exact (hN i List.mem_cons_self).trans h
  |cons j r=>
   obtain ⟨a,b,c⟩:=hs j List.mem_cons_self;refine ⟨?_,ih h.2 (λx hx=>hN x (List.mem_cons_of_mem _ hx)) λx hx=>hs x (List.mem_cons_of_mem _ hx)⟩;have h1:=h.1;unfold IE at h1 ⊢;rw [a,b,c,hN i List.mem_cons_self];exact h1
theorem Uo {Q:List Nat} (h:N8 pc A9 N K Q) (hn:Q.Nodup) {k:Nat} (hk:k∈Q.tail) (hp:pc k=2):N8 (upd pc k 3) A9 N (upd K k 1) Q:=by
 induction Q with
 |nil=>cases hk
 |cons i r ih=>
  cases r with
  |nil=>cases hk
  |cons j r=>
   have hk:k∈j::r:=hk;by_cases e:j=k
   ·subst e
    have aB:j∉r:=(List.nodup_cons.1 (List.nodup_cons.1 hn).2).1;refine ⟨?_,ER h.2 (λ_ _=>rfl) λx hx=> ?_⟩
    ·rcases h.1 with a|a|a
     ·exact .inr (.inl ⟨upd_same _ _ _,a.2.1,upd_same _ _ _,a.2.2⟩)
     ·omega
     ·omega
    ·have hx:x∈r:=hx
     have e2:x≠j:=λq=>aB (q▸hx);exact ⟨A0 _ _ e2,rfl,A0 _ _ e2⟩
   ·have hk2:k∈r:=by rcases List.mem_cons.1 hk with q|q;exact absurd q.symm e;exact q
    refine ⟨?_,ih h.2 (List.nodup_cons.1 hn).2 hk2⟩;have h1:=h.1;unfold IE at h1 ⊢;rw [A0 _ _ e,A0 _ _ e];exact h1
theorem Hq {Q:List Nat} (h:N8 pc A9 N K Q) (hn:Q.Nodup) {k:Nat} (hk:k∈Q.tail) (hp:pc k=2\/pc k=3):∃ i∈Q,i≠k/\A9 k=(i:Int)+1:=by
 induction Q with
 |nil=>cases hk
 |cons i r ih=>
  cases r with
  |nil=>cases hk
  |cons j r=>
   have hk:k∈j::r:=hk;by_cases e:j=k
   ·subst e
    refine ⟨i,List.mem_cons_self,λq=>(List.nodup_cons.1 hn).1 (q▸hk),?_⟩;rcases h.1 with a|a|a
    ·exact a.2.1
    ·exact a.2.1
    ·omega
   ·have hk2:k∈r:=by rcases List.mem_cons.1 hk with q|q;exact absurd q.symm e;exact q
    obtain ⟨i2,a,b,c⟩:=ih h.2 (List.nodup_cons.1 hn).2 hk2;exact ⟨i2,List.mem_cons_of_mem _ a,b,c⟩
theorem Uq {Q:List Nat} (h:N8 pc A9 N K Q) (hn:Q.Nodup) {k i:Nat} (hk:k∈Q.tail) (hp:pc k=3) (hi:A9 k=(i:Int)+1):N8 (upd pc k 4) A9 (upd N i ((k:Int)+1)) K Q:=by
 induction Q with
 |nil=>cases hk
 |cons i0 r ih=>
  cases r with
  |nil=>cases hk
  |cons j r=>
   have hk:k∈j::r:=hk;have hi0:i0∉j::r:=(List.nodup_cons.1 hn).1;by_cases e:j=k
   ·subst e
    have aB:j∉r:=(List.nodup_cons.1 (List.nodup_cons.1 hn).2).1;have e0:i=i0/\K j=1:=by
     rcases h.1 with a|a|a
     ·omega
     ·have:=a.2.1;exact ⟨by omega,a.2.2.1⟩
     ·omega
    obtain ⟨rfl,eK⟩:=e0;refine ⟨.inr (.inr ⟨upd_same _ _ _,eK,upd_same _ _ _⟩),ER h.2 (λx hx=>A0 _ _ λq=>hi0 (q▸hx)) λx hx=> ?_⟩;have hx:x∈r:=hx;exact ⟨A0 _ _ λq=>aB (q▸hx),rfl,rfl⟩
   ·have hk2:k∈r:=by rcases List.mem_cons.1 hk with q|q;exact absurd q.symm e;exact q
    obtain ⟨i2,a,b,c⟩:=Hq h.2 (List.nodup_cons.1 hn).2 (k:=k) hk2 (.inr hp);have e2:i2=i:=by omega
    subst e2;refine ⟨?_,ih h.2 (List.nodup_cons.1 hn).2 hk2⟩;have h1:=h.1;unfold IE at h1 ⊢;rw [A0 _ _ e,A0 _ _ λq=>hi0 (by rw [q];exact a)];exact h1
theorem Rv {Q:List Nat} (h:N8 pc A9 N K Q) (h0:Q≠[]) {k:Nat} (hk:k∉Q) (hp:pc k=2) (ho:A9 k=JD 0 Q) (hN:N k=0):N8 pc A9 N K (Q++[k]):=by
 have key:∀ (Q:List Nat) (e:Int),N8 pc A9 N K Q->Q≠[]->A9 k=JD e Q->N8 pc A9 N K (Q++[k]):=by
  intro Q;induction Q with
  |nil=>intro e _ h0;exact absurd rfl h0
  |cons i r ih=>
   intro e h _ ho;cases r with
   |nil=>exact ⟨.inl ⟨hp,ho,h⟩,hN⟩
   |cons j r=>exact ⟨h.1,ih ((i:Int)+1) h.2 (by simp) ho⟩
 exact key Q 0 h h0 ho
theorem Rw {k:Nat} {Q:List Nat} (h:N8 pc A9 N K (k::Q)):N8 pc A9 N K Q:=by
 cases Q with
 |nil=>trivial
 |cons j r=>exact h.2
theorem XX {Q:List Nat} (h:N8 pc A9 N K Q) {k:Nat} (hk:k∈Q.tail):pc k=2\/pc k=3\/(pc k=4/\K k=1):=by
 induction Q with
 |nil=>cases hk
 |cons i r ih=>
  cases r with
  |nil=>cases hk
  |cons j r=>
   have hk:k∈j::r:=hk;by_cases e:j=k
   ·subst e
    rcases h.1 with a|a|a
    ·exact .inl a.1
    ·exact .inr (.inl a.1)
    ·exact .inr (.inr ⟨a.1,a.2.1⟩)
   ·have hk2:k∈r:=by rcases List.mem_cons.1 hk with q|q;exact absurd q.symm e;exact q
    exact ih h.2 hk2
end
structure Cor (n:Nat) (st pc A9:Nat->Int) (T:Int) (N K:Nat->Int) (g:Option Nat) (W:List Nat):Prop where
 nodup:(g.toList++W).Nodup
 lt:∀ k∈g.toList++W,k<n
 tl:T=JD 0 (g.toList++W)
 Ev:∀ j,0<=pc j/\pc j<=4
 QT:∀ j,j<n->st j=1->(2<=pc j↔j∈g.toList++W)
 Iu:∀ j,j<n->st j≠1->st j≠3->pc j=0
 KG:∀ j,j<n->st j=3->pc j<=3
 FZ:∀ k,g=some k->st k=2\/st k=3\/st k=4
 EN:∀ k∈W,st k=1
 FB:∀ k,k<n->k∉g.toList++W->st k=0\/st k=1
 ch:N8 pc A9 N K (g.toList++W)
 out:∀ j,j<n->st j=1->pc j=1->N j=0
 hd:g=none->∀ k r,W=k::r->pc k=4/\K k=0
 dX:∀ k,g=some k->st k=3->pc k=2->W≠[]
 Yc:∀ k,g=some k->st k=3->pc k=3->∃ j r,W=j::r/\A9 k=(j:Int)+1/\pc j=4
namespace Cor
variable {n:Nat} {st pc A9:Nat->Int} {T:Int} {N K:Nat->Int} {g:Option Nat} {W:List Nat}
theorem held (h:Cor n st pc A9 T N K g W) {k:Nat} (hk:k<n) (hs:st k=2\/st k=3\/st k=4):g=some k:=zz1p
theorem idle (h:Cor n st pc A9 T N K g W) {k:Nat} (hs:st k=0):k∉g.toList++W:=λhm=>zz29
theorem away (h:Cor n st pc A9 T N K g W) {k:Nat} (hk:k<n) (hs:st k=1) (hp:pc k<2):k∉g.toList++W:=λhm=>by
 have:=(h.QT k hk hs).2 hm;omega
theorem waits (h:Cor n st pc A9 T N K g W) {k:Nat} (hk:k<n) (hs:st k=1) (hp:2<=pc k):k∈W:=by
 rcases List.mem_append.1 ((h.QT k hk hs).1 hp) with hm|hm
 ·exact zz3v
 ·exact hm
theorem W5 {k:Nat} (h:Cor n st pc A9 T N K (some k) W):k∉W:=(List.nodup_cons.1 h.nodup).1
theorem behind (h:Cor n st pc A9 T N K g W) {k:Nat} (hm:k∈W) (hne:g=none->∀ r,W≠k::r):k∈(g.toList++W).tail:=by
 cases g with
 |some a=>exact hm
 |none=>
  cases W with
  |nil=>cases hm
  |cons j r=>
   rcases List.mem_cons.1 hm with rfl|hm
   ·exact absurd rfl (hne rfl r)
   ·exact hm
theorem lock (h:Cor n st pc A9 T N K g W) {k:Nat} (hk:k<n) (s0:st k=0):Cor n (upd st k 1) pc A9 T N K g W:=by
 have hn:=h.idle s0;have p0:=h.Iu k hk (by omega) (by omega);refine ⟨h.nodup,h.lt,h.tl,h.Ev,λj hj hs=> ?_,λj hj h1 h3=> ?_,λj hj hs=> ?_,λj hj=> ?_,λj hj=> ?_,λj hj Jn=> ?_,h.ch,λj hj hs hp=> ?_,h.hd,λj hj hs=> ?_,λj hj hs=> ?_⟩
 ·by_cases e:j=k
  ·subst e;exact ⟨λq=>by omega,λq=>absurd q hn⟩
  ·rw [A0 _ _ e] at hs;exact h.QT j hj hs
 ·exact zz67
 ·exact zz6o
 ·rw [A0 _ _ λe=>hn (by subst e;exact List.mem_append_left _ (by rw [hj];simp))];exact h.FZ j hj
 ·rw [A0 _ _ λe=>hn (by subst e;exact List.mem_append_right _ hj)];exact h.EN j hj
 ·by_cases e:j=k
  ·subst e;rw [upd_same];exact .inr rfl
  ·rw [A0 _ _ e];exact h.FB j hj Jn
 ·exact zz6g
 ·have e:j≠k:=λe=>hn (by subst e;exact List.mem_append_left _ (by rw [hj];simp))
  rw [A0 _ _ e] at hs;exact h.dX j hj hs
 ·have e:j≠k:=λe=>hn (by subst e;exact List.mem_append_left _ (by rw [hj];simp))
  rw [A0 _ _ e] at hs;exact h.Yc j hj hs
theorem turn (h:Cor n st pc A9 T N K g W) {k:Nat} (hk:k<n) (s2:st k=2\/st k=4) {x:Int} (hx:x=2\/x=3\/x=4):Cor n (upd st k x) pc A9 T N K g W:=by
 have hg:=h.held hk (by omega);subst hg;have p0:=h.Iu k hk (by omega) (by omega);have LN:=h.W5;refine ⟨h.nodup,h.lt,h.tl,h.Ev,λj hj hs=> ?_,λj hj h1 h3=> ?_,λj hj hs=> ?_,λj hj=> ?_,λj hj=> ?_,λj hj Jn=> ?_,h.ch,λj hj hs hp=> ?_,h.hd,λj hj hs hp=> ?_,λj hj hs hp=> ?_⟩
 ·by_cases e:j=k
  ·exact zz3q
  ·rw [A0 _ _ e] at hs;exact h.QT j hj hs
 ·exact zz67
 ·exact zz6o
 ·obtain rfl:k=j:=Option.some.inj hj
  rw [upd_same];exact hx
 ·rw [A0 _ _ λe=>LN (by subst e;exact hj)];exact h.EN j hj
 ·rw [A0 _ _ λe=>Jn (by subst e;simp)];exact h.FB j hj Jn
 ·exact zz6g
 ·obtain rfl:k=j:=Option.some.inj hj
  omega
 ·obtain rfl:k=j:=Option.some.inj hj
  omega
theorem iJ (h:Cor n st pc A9 T N K g W) {k:Nat} (hk:k<n) (s1:st k=1) (p0:pc k=0):Cor n st (upd pc k 1) A9 T (upd N k 0) K g W:=by
 have hn:=h.away hk s1 (by omega);have ne:∀ j∈g.toList++W,j≠k:=λj hj e=>hn (by subst e;exact hj);refine ⟨h.nodup,h.lt,h.tl,λj=> ?_,λj hj hs=> ?_,λj hj h1 h3=> ?_,λj hj hs=> ?_,h.FZ,h.EN,h.FB,?_,λj hj hs hp=> ?_,λhg a r hW=> ?_,λj hj hs hp=> ?_,λj hj hs hp=> ?_⟩
 ·exact zz1k
 ·by_cases e:j=k
  ·subst e;rw [upd_same];exact ⟨λq=>by omega,λq=>absurd q hn⟩
  ·rw [A0 _ _ e];exact h.QT j hj hs
 ·exact zz3z
 ·exact zz4p
 ·exact ER h.ch (λj hj=>A0 _ _ (ne j hj)) λj hj=>⟨A0 _ _ (ne j (List.mem_of_mem_tail hj)),rfl,rfl⟩
 ·by_cases e:j=k
  ·subst e;rw [upd_same]
  ·rw [A0 _ _ e] at hp ⊢;exact h.out j hj hs hp
 ·have:=h.hd hg a r hW
  rw [A0 _ _ (ne a (List.mem_append_right _ (by rw [hW];simp)))];exact this
 ·exact zz55
 ·rw [A0 _ _ λe=>by subst e;omega] at hp
  obtain ⟨a,r,q1,q2,q3⟩:=h.Yc j hj hs hp;exact ⟨a,r,q1,q2,by rw [A0 _ _ (ne a (List.mem_append_right _ (by rw [q1];simp)))];exact q3⟩
theorem fQ (h:Cor n st pc A9 T N K none []) {k:Nat} (hk:k<n) (s1:st k=1) (p1:pc k=1) (x:Int):Cor n (upd st k 2) (upd pc k 0) (upd A9 k x) ((k:Int)+1) N K (some k) []:=by
 have n0:=h.out k hk s1 p1;refine ⟨by simp,λj hj=> ?_,rfl,λj=> ?_,λj hj hs=> ?_,λj hj h1 h3=> ?_,λj hj hs=> ?_,λj hj=> ?_,λj hj=>(by cases hj),λj hj Jn=> ?_,n0,λj hj hs hp=> ?_,λhg=>(by cases hg),λj hj hs hp=> ?_,λj hj hs hp=> ?_⟩
 ·obtain rfl:j=k:=by simpa using hj
  exact hk
 ·exact zz1k
 ·by_cases e:j=k
  ·exact zz3q
  ·rw [A0 _ _ e] at hs ⊢
   have:=h.QT j hj hs;simp at this ⊢;exact ⟨λq=>by omega,λq=>absurd q e⟩
 ·exact zz3x
 ·exact zz83
 ·obtain rfl:k=j:=Option.some.inj hj
  rw [upd_same];exact .inl rfl
 ·rw [A0 _ _ λe=>Jn (by subst e;simp)];exact h.FB j hj (by simp)
 ·exact zz3p
 ·exact zz43
 ·exact zz43
theorem BW (h:Cor n st pc A9 T N K g W) (h0:g.toList++W≠[]) {k:Nat} (hk:k<n) (s1:st k=1) (p1:pc k=1):Cor n st (upd pc k 2) (upd A9 k T) ((k:Int)+1) N K g (W++[k]):=by
 have hn:=h.away hk s1 (by omega);have ne:∀ j∈g.toList++W,j≠k:=λj hj e=>hn (by subst e;exact hj);have n0:=h.out k hk s1 p1;have mem:∀ j,j∈g.toList++(W++[k])↔j∈g.toList++W\/j=k:=λj=>by rw [<-List.append_assoc,List.mem_append,List.mem_singleton]
 refine ⟨?_,λj hj=> ?_,by rw [<-List.append_assoc,Nk],λj=> ?_,λj hj hs=> ?_,λj hj h1 h3=> ?_,λj hj hs=> ?_,h.FZ,λj hj=> ?_,λj hj Jn=> ?_,?_,λj hj hs hp=> ?_,λhg a r hW=> ?_,λj hj hs hp=>by simp,λj hj hs hp=> ?_⟩
 ·exact zz4e
 ·rcases (mem j).1 hj with hj|rfl
  ·exact h.lt j hj
  ·exact hk
 ·exact zz1k
 ·rw [mem]
  by_cases e:j=k
  ·subst e;rw [upd_same];simp
  ·rw [A0 _ _ e,h.QT j hj hs];simp [e]
 ·exact zz3z
 ·exact zz4p
 ·rcases List.mem_append.1 hj with hj|hj
  ·exact h.EN j hj
  ·obtain rfl:j=k:=by simpa using hj
   exact s1
 ·rw [mem,not_or] at Jn;exact h.FB j hj Jn.1
 ·rw [<-List.append_assoc]
  exact Rv (ER h.ch (λ_ _=>rfl) λj hj=>⟨A0 _ _ (ne j (List.mem_of_mem_tail hj)),A0 _ _ (ne j (List.mem_of_mem_tail hj)),rfl⟩) h0 hn (upd_same _ _ _) ((upd_same _ _ _).trans h.tl) n0
 ·by_cases e:j=k
  ·subst e;exact n0
  ·rw [A0 _ _ e] at hp;exact h.out j hj hs hp
 ·subst hg
  cases W with
  |nil=>exact absurd rfl h0
  |cons b r2=>
   obtain rfl:b=a:=(List.cons.inj hW).1;rw [A0 _ _ (ne b (by simp))];exact h.hd rfl b r2 rfl
 ·rw [A0 _ _ λe=>by subst e;omega] at hp
  obtain ⟨a,r,q1,q2,q3⟩:=h.Yc j hj hs hp;refine ⟨a,r++[k],by rw [q1];rfl,?_,?_⟩
  ·rw [A0 _ _ (ne j (List.mem_append_left _ (by rw [hj];simp)))];exact q2
  ·rw [A0 _ _ (ne a (List.mem_append_right _ (by rw [q1];simp)))];exact q3
theorem late (h:Cor n st pc A9 T N K g W) {k:Nat} (hm:k∈W) (hp:pc k≠4\/K k≠0):k∈(g.toList++W).tail:=
 h.behind hm λhg r hW=>by
  have:=h.hd hg k r hW;rcases hp with q|q
  ·exact q this.1
  ·exact q this.2
theorem mJ (h:Cor n st pc A9 T N K g W) {k:Nat} (hk:k<n) (s1:st k=1) (p2:pc k=2):Cor n st (upd pc k 3) A9 T N (upd K k 1) g W:=by
 have hm:=h.waits hk s1 (by omega);have hb:=h.late hm (.inl (by omega));refine ⟨h.nodup,h.lt,h.tl,λj=> ?_,λj hj hs=> ?_,λj hj h1 h3=> ?_,λj hj hs=> ?_,h.FZ,h.EN,h.FB,Uo h.ch h.nodup hb p2,λj hj hs hp=> ?_,λhg a r hW=> ?_,λj hj hs hp=> ?_,λj hj hs hp=> ?_⟩
 ·exact zz1k
 ·exact zz4t
 ·exact zz3z
 ·exact zz4p
 ·by_cases e:j=k
  ·exact zz6d
  ·rw [A0 _ _ e] at hp;exact h.out j hj hs hp
 ·have:=h.hd hg a r hW
  have e:a≠k:=λe=>by subst e;omega
  rw [A0 _ _ e,A0 _ _ e];exact this
 ·exact zz55
 ·exact zz4a
theorem ahead (h:Cor n st pc A9 T N K g W) {k:Nat} (hk:k<n) (s1:st k=1) (p3:pc k=2\/pc k=3):∃ i,i<n/\A9 k=(i:Int)+1:=by
 have hm:=h.waits hk s1 (by omega);obtain ⟨i,a,_,c⟩:=Hq h.ch h.nodup (h.late hm (.inl (by omega))) p3;exact ⟨i,h.lt i a,c⟩
theorem Md (h:Cor n st pc A9 T N K g W) {k i:Nat} (hk:k<n) (s1:st k=1) (p3:pc k=3) (hi:A9 k=(i:Int)+1):Cor n st (upd pc k 4) A9 T (upd N i ((k:Int)+1)) K g W:=by
 have hm:=h.waits hk s1 (by omega);have hb:=h.late hm (.inl (by omega));obtain ⟨i2,ia,_,ic⟩:=Hq h.ch h.nodup hb (.inr p3);obtain rfl:i2=i:=by omega
 refine ⟨h.nodup,h.lt,h.tl,λj=> ?_,λj hj hs=> ?_,λj hj h1 h3=> ?_,λj hj hs=> ?_,h.FZ,h.EN,h.FB,Uq h.ch h.nodup hb p3 hi,λj hj hs hp=> ?_,λhg a r hW=> ?_,λj hj hs hp=> ?_,λj hj hs hp=> ?_⟩
 ·exact zz1k
 ·exact zz4t
 ·exact zz3z
 ·exact zz4p
 ·by_cases e:j=k
  ·exact zz6d
  ·rw [A0 _ _ e] at hp
   rw [A0 _ _ λq=>h.away hj hs (by omega) (by rw [q];exact ia)];exact h.out j hj hs hp
 ·have:=h.hd hg a r hW
  have e:a≠k:=λe=>by subst e;omega
  rw [A0 _ _ e];exact this
 ·exact zz55
 ·exact zz4a
theorem looks (h:Cor n st pc A9 T N K g W) {k:Nat} (hk:k<n) (s1:st k=1) (p4:pc k=4):(g=none/\∃ r,W=k::r/\K k=0)\/K k=1:=by
 have hm:=h.waits hk s1 (by omega);by_cases q:g=none/\∃ r,W=k::r
 ·obtain ⟨hg,r,hW⟩:=q
  exact .inl ⟨hg,r,hW,(h.hd hg k r hW).2⟩
 ·have hb:=h.behind hm λhg r hW=>q ⟨hg,r,hW⟩
  rcases XX h.ch hb with a|a|a
  ·omega
  ·omega
  ·exact .inr a.2
theorem Bs {k:Nat} (h:Cor n st pc A9 T N K none (k::W)):Cor n (upd st k 2) (upd pc k 0) A9 T N K (some k) W:=by
 have hn:k∉W:=(List.nodup_cons.1 h.nodup).1;have hk:k<n:=h.lt k (by simp);refine ⟨h.nodup,h.lt,h.tl,λj=> ?_,λj hj hs=> ?_,λj hj h1 h3=> ?_,λj hj hs=> ?_,λj hj=> ?_,λj hj=> ?_,λj hj Jn=> ?_,?_,λj hj hs hp=> ?_,λhg=>(by cases hg),λj hj hs hp=> ?_,λj hj hs hp=> ?_⟩
 ·exact zz1k
 ·by_cases e:j=k
  ·exact zz3q
  ·rw [A0 _ _ e] at hs ⊢;exact h.QT j hj hs
 ·exact zz3x
 ·exact zz83
 ·obtain rfl:k=j:=Option.some.inj hj
  rw [upd_same];exact .inl rfl
 ·rw [A0 _ _ λe=>hn (by subst e;exact hj)];exact h.EN j (List.mem_cons_of_mem _ hj)
 ·rw [A0 _ _ λe=>Jn (by subst e;simp)];exact h.FB j hj Jn
 ·exact ER h.ch (λ_ _=>rfl) λj hj=>⟨A0 _ _ λe=>hn (by subst e;exact hj),rfl,rfl⟩
 ·exact zz3p
 ·exact zz43
 ·exact zz43
theorem JO {k:Nat} (h:Cor n st pc A9 T N K (some k) W):(W=[]/\N k=0)\/∃ j r,W=j::r/\((N k=0/\(pc j=2\/pc j=3))\/(N k=(j:Int)+1/\pc j=4/\K j=1)):=by
 cases W with
 |nil=>exact .inl ⟨rfl,h.ch⟩
 |cons j r=>
  refine .inr ⟨j,r,rfl,?_⟩;rcases h.ch.1 with a|a|a
  ·exact .inl ⟨a.2.2,.inl a.1⟩
  ·exact .inl ⟨a.2.2.2,.inr a.1⟩
  ·exact .inr ⟨a.2.2,a.1,a.2.1⟩
theorem eT {k:Nat} (h:Cor n st pc A9 T N K (some k) W) (s3:st k=3) {p x:Int} (hp0:0<=p/\p<=3) (h2:p=2->W≠[]) (h3:p=3->∃ j r,W=j::r/\x=(j:Int)+1/\pc j=4):Cor n st (upd pc k p) (upd A9 k x) T N K (some k) W:=by
 have hn:=h.W5;have hne:∀ j∈W,j≠k:=λj hj e=>hn (by subst e;exact hj);refine ⟨h.nodup,h.lt,h.tl,λj=> ?_,λj hj hs=> ?_,λj hj h1 h3=> ?_,λj hj hs=> ?_,h.FZ,h.EN,h.FB,?_,λj hj hs hp=> ?_,λhg=>(by cases hg),λj hj hs hp=> ?_,λj hj hs hp=> ?_⟩
 ·exact zz1k
 ·rw [A0 _ _ λe=>by subst e;omega];exact h.QT j hj hs
 ·rw [A0 _ _ λe=>by subst e;omega];exact h.Iu j hj h1 h3
 ·by_cases e:j=k
  ·exact zz3c
  ·rw [A0 _ _ e];exact h.KG j hj hs
 ·exact ER h.ch (λ_ _=>rfl) λj hj=>⟨A0 _ _ (hne j hj),A0 _ _ (hne j hj),rfl⟩
 ·rw [A0 _ _ λe=>by subst e;omega] at hp;exact h.out j hj hs hp
 ·obtain rfl:k=j:=Option.some.inj hj
  rw [upd_same] at hp;exact h2 hp
 ·obtain rfl:k=j:=Option.some.inj hj
  rw [upd_same] at hp;obtain ⟨a,r,q1,q2,q3⟩:=h3 hp;exact ⟨a,r,q1,by rw [upd_same];exact q2,by rw [A0 _ _ (hne a (by rw [q1];simp))];exact q3⟩
theorem ZZ {k:Nat} (h:Cor n st pc A9 T N K (some k) []):Cor n (upd st k 0) (upd pc k 0) A9 0 N K none []:=by
 have hk:k<n:=h.lt k (by simp);have hg:=h.FZ k rfl;refine ⟨by simp,λj hj=>(by cases hj),rfl,λj=> ?_,λj hj hs=> ?_,λj hj h1 h3=> ?_,λj hj hs=> ?_,λj hj=>(by cases hj),λj hj=>(by cases hj),λj hj Jn=> ?_,trivial,λj hj hs hp=> ?_,λ_ a r hW=>(by cases hW),λj hj=>(by cases hj),λj hj=>(by cases hj)⟩
 ·exact zz1k
 ·by_cases e:j=k
  ·exact zz3q
  ·rw [A0 _ _ e] at hs ⊢
   have:=h.QT j hj hs;simp [e] at this ⊢;exact this
 ·exact zz3x
 ·exact zz83
 ·by_cases e:j=k
  ·exact zz7w
  ·rw [A0 _ _ e];exact h.FB j hj (by simpa using e)
 ·exact zz3p
theorem Za {k j:Nat} {r:List Nat} (h:Cor n st pc A9 T N K (some k) (j::r)) (p4:pc j=4):Cor n (upd st k 0) (upd pc k 0) A9 T N (upd K j 0) none (j::r):=by
 have hk:k<n:=h.lt k (by simp);have hn:=h.W5;have hne:∀ i∈j::r,i≠k:=λi hi e=>hn (by subst e;exact hi);have lu:j∉r:=(List.nodup_cons.1 (List.nodup_cons.1 h.nodup).2).1;have hg:=h.FZ k rfl;refine ⟨(List.nodup_cons.1 h.nodup).2,λi hi=>h.lt i (List.mem_cons_of_mem _ hi),h.tl,λi=> ?_,λi hi hs=> ?_,λi hi h1 h3=> ?_,λi hi hs=> ?_,λi hi=>(by cases hi),λi hi=> ?_,λi hi hni=> ?_,?_,λi hi hs hp=> ?_,λ_ a r2 hW=> ?_,λi hi=>(by cases hi),λi hi=>(by cases hi)⟩
 ·by_cases e:i=k
  ·exact zz3c
  ·rw [A0 _ _ e];exact h.Ev i
 ·by_cases e:i=k
  ·exact zz3q
  ·rw [A0 _ _ e] at hs ⊢
   rw [h.QT i hi hs];show i∈k::j::r↔i∈j::r;rw [List.mem_cons];exact ⟨λq=>q.resolve_left e,.inr⟩
 ·by_cases e:i=k
  ·subst e;rw [upd_same]
  ·rw [A0 _ _ e] at h1 h3 ⊢;exact h.Iu i hi h1 h3
 ·by_cases e:i=k
  ·exact zz3c
  ·rw [A0 _ _ e] at hs ⊢;exact h.KG i hi hs
 ·rw [A0 _ _ (hne i hi)];exact h.EN i hi
 ·by_cases e:i=k
  ·exact zz7w
  ·rw [A0 _ _ e]
   refine h.FB i hi λq=> ?_;have q:i∈k::j::r:=q;rcases List.mem_cons.1 q with q|q
   ·exact e q
   ·exact hni q
 ·refine ER (Rw h.ch) (λ_ _=>rfl) λi hi=> ?_
  have hi:i∈r:=hi;exact ⟨A0 _ _ (hne i (List.mem_cons_of_mem _ hi)),rfl,A0 _ _ λe=>lu (by subst e;exact hi)⟩
 ·by_cases e:i=k
  ·exact zz3q
  ·rw [A0 _ _ e] at hs hp;exact h.out i hi hs hp
 ·obtain rfl:j=a:=(List.cons.inj hW).1
  rw [upd_same,A0 _ _ (hne j (by simp))];exact ⟨p4,rfl⟩
end Cor
theorem BL {ps:AK} {k i:Nat} {a:Int} (hk:k<ps.ac.length) (ha:a=((i:Nat):Int)) (hi:i<ps.ws.length):
  A6 ps k 1 a=ps.ws.getD i 0/\(A5 ps k 1 a 0 0).ws=ps.ws/\(A5 ps k 1 a 0 0).ac.length=ps.ac.length/\(A5 ps k 1 a 0 0).D.length=ps.D.length+1:=by
 subst ha;exact zzq
theorem BQ {ps:AK} {k i:Nat} {a v:Int} (hk:k<ps.ac.length) (ha:a=((i:Nat):Int)) (hi:i<ps.ws.length):
  (A5 ps k 2 a 0 v).ws=ps.ws.set i v/\(A5 ps k 2 a 0 v).ac.length=ps.ac.length/\(A5 ps k 2 a 0 v).D.length=ps.D.length+1:=by
 subst ha;exact zz10
theorem El {ps:AK} {k i:Nat} {a v:Int} (hk:k<ps.ac.length) (ha:a=((i:Nat):Int)) (hi:i<ps.ws.length):
  A6 ps k 3 a=ps.ws.getD i 0/\(A5 ps k 3 a 0 v).ws=ps.ws.set i v/\(A5 ps k 3 a 0 v).ac.length=ps.ac.length/\(A5 ps k 3 a 0 v).D.length=ps.D.length+1:=zz1l
theorem Fi {ps:AK} {k i:Nat} {a old v:Int} (hk:k<ps.ac.length) (ha:a=((i:Nat):Int)) (hi:i<ps.ws.length):
  (casT ps k a old=true↔ps.ws.getD i 0=old)/\(A5 ps k 4 a old v).ws=(if ps.ws.getD i 0=old then ps.ws.set i v else ps.ws)/\(A5 ps k 4 a old v).ac.length=ps.ac.length/\(A5 ps k 4 a old v).D.length=ps.D.length+1:=zzl
theorem BU {s:SS} {k:Nat} {ev:Int} (h:AH (s.st k) ev=none):s.fin k ev=s:=zz1c
theorem Aw {s:SS} {k:Nat} {ev y:Int} (hk:k<s.n) (h:AH (s.st k) ev=some y):s.fin k ev=s.set k y 0:=zz19
theorem Aq (s:SS) (t:Nat):s.fin t Dd.no.ev=s:=BU (by
 unfold AH;rw [Qq (λq=>absurd q.2 (by decide)),Qq (λq=>q.2.elim (λq=>absurd q (by decide)) λq=>absurd q (by decide)),Qq (λq=>absurd q.2 (by decide)),Qq (λq=>q.2.elim (λq=>absurd q (by decide)) λq=>absurd q (by decide))])
def wT (ps:AK):Int:=ps.ws.getD 0 0
def wN (ps:AK) (i:Nat):Int:=ps.ws.getD (1+2*i) 0
def wK (ps:AK) (i:Nat):Int:=ps.ws.getD (2+2*i) 0
theorem BI {l:List Int} {i:Nat} (v:Int) (h:i<l.length):(l.set i v).getD i 0=v:=by simp [h]
theorem AG {l:List Int} {i j:Nat} (v:Int) (h:i≠j):(l.set i v).getD j 0=l.getD j 0:=zz44
theorem Bq {ps ps':AK} (h:ps'.ws=ps.ws):wT ps'=wT ps/\wN ps'=wN ps/\wK ps'=wK ps:=by
 unfold wT;refine ⟨by rw [h],funext λi=> ?_,funext λi=> ?_⟩
 ·unfold wN;rw [h]
 ·unfold wK;rw [h]
theorem Hg {ps ps':AK} {v:Int} (hl:0<ps.ws.length) (h:ps'.ws=ps.ws.set 0 v):wT ps'=v/\wN ps'=wN ps/\wK ps'=wK ps:=by
 unfold wT;refine ⟨by rw [h];exact BI v hl,funext λi=> ?_,funext λi=> ?_⟩
 ·unfold wN;rw [h,AG _ (by omega)]
 ·unfold wK;rw [h,AG _ (by omega)]
theorem Pd {ps ps':AK} {v:Int} {i n:Nat} (hn:ps.ws.length=2*n+1) (hi:i<n) (h:ps'.ws=ps.ws.set (1+2*i) v):wT ps'=wT ps/\wN ps'=upd (wN ps) i v/\wK ps'=wK ps:=by
 unfold wT;refine ⟨by rw [h,AG _ (by omega)],funext λj=> ?_,funext λj=> ?_⟩
 ·unfold wN upd
  exact zz5r
 ·unfold wK;rw [h,AG _ (by omega)]
theorem Pb {ps ps':AK} {v:Int} {i n:Nat} (hn:ps.ws.length=2*n+1) (hi:i<n) (h:ps'.ws=ps.ws.set (2+2*i) v):wT ps'=wT ps/\wN ps'=wN ps/\wK ps'=upd (wK ps) i v:=by
 unfold wT;refine ⟨by rw [h,AG _ (by omega)],funext λj=> ?_,funext λj=> ?_⟩
 ·unfold wN;rw [h,AG _ (by omega)]
 ·unfold wK upd
  exact zz5r
structure OrdJ (f:FL) (g:Option Nat) (W:List Nat):Prop where
 n8:f.s.n<=64
 len:f.ps.ws.length=2*f.s.n+1
 ac:f.ps.ac.length=f.s.n
 Ae:Cor f.s.n f.s.st f.pc f.A9 (wT f.ps) (wN f.ps) (wK f.ps) g W
def EA (x p:Int):Nat:=if x=1 then (10-p).toNat else if x=3 then (4-p).toNat else if x=2 then 5 else 0
inductive OrdJ.BC (W:List Nat) (t:Int) (d:Dd) (W':List Nat):Prop where
 |same (h0:d.BW=false) (h1:d.ev≠1) (h2:d.ev≠2) (e:W'=W):BC W t d W'
 |BW (hd:d=⟨0,true,false,false⟩) (k:Nat) (ht:t=k) (e:W'=W++[k]):BC W t d W'
 |Bs (hd:d=⟨1,false,false,false⟩) (k:Nat) (ht:t=k) (e:W=k::W') (hn:k∉W'):BC W t d W'
 |both (hd:d=⟨1,true,false,false⟩) (k:Nat) (ht:t=k) (e:W=[]) (e':W'=[]):BC W t d W'
structure Fc (f f':FL) (W:List Nat) (k:Nat) (d:Dd) (g':Option Nat) (W':List Nat) (x p:Int):Prop where
 ord:OrdJ f' g' W'
 q:OrdJ.BC W k d W'
 st:∀ j,f'.s.st j=upd f.s.st k x j
 n:f'.s.n=f.s.n
 pc:∀ j,f'.pc j=upd f.pc k p j
 D:f'.ps.D.length<=f.ps.D.length+1
 on:EA x p+1<=EA (f.s.st k) (f.pc k)\/f.s.st k=4\/(x=f.s.st k/\p=f.pc k/\f'.ps.ws=f.ps.ws/\(f.s.st k=0\/f.s.st k=2\/(f.s.st k=1/\f.pc k=4/\wK f.ps k≠0)\/(f.s.st k=3/\f.pc k=2/\wN f.ps k=0)))
 ev:d.ev=1->f.s.st k=1/\x=2/\p=0/\∃ b,d=⟨1,b,false,false⟩
 seat:x=f.s.st k->f'.s=f.s
 s1:f.s.st k=1->(x=1/\p≠0)\/(x=2/\d.ev=1)
 s3:f.s.st k=3->x=3\/x=0
 s0:f.s.st k=0->x=0/\p=f.pc k
theorem BV {α:Type} (f:Nat->α) (k:Nat):∀ j,f j=upd f k (f k) j:=λj=>zz6n
namespace OrdJ
variable {f:FL} {g:Option Nat} {W:List Nat} {L:Lp}
theorem lock (h:OrdJ f g W) (t d:Int):OrdJ (f.lock t d) g W:=by
 unfold FL.lock SS.lock;split
 ·rename_i he
  unfold BZ at he;split at he
  ·rename_i hc
   split at he
   ·rename_i hs
    exact ⟨h.n8,h.len,h.ac,h.Ae.lock (by omega) hs⟩
   ·omega
  ·omega
 ·exact h
theorem turn (h:OrdJ f g W) (t x:Int) (hx:x=3\/x=4):OrdJ (f.turn t x) g W:=by
 unfold FL.turn SS.turn;split
 ·rename_i he
  unfold BR at he;split at he
  ·rename_i hc
   split at he
   ·omega
   ·split at he
    ·rename_i hs
     exact ⟨h.n8,h.len,h.ac,h.Ae.turn (by omega) (.inl hs) (.inr hx)⟩
    ·omega
  ·omega
 ·exact h
theorem D6 {t:Int} (hk:¬ ((0:Int)<=t/\t<f.s.n)):f.did L t t=Dd.no/\f.step L t t=f:=zzr
theorem D5 {k:Nat} (hk:k<f.s.n) (s1:f.s.st k≠1) (s3:f.s.st k≠3) (s4:f.s.st k≠4):f.did L k k=Dd.no/\f.step L k k=f:=zz2h
theorem at_one {k:Nat} (hk:k<f.s.n) (s1:f.s.st k=1):f.did L k k=f.A7 L k k/\f.step L k k={f.acq L k k with s:=f.s.fin k (f.A7 L k k).ev}:=zz2l
theorem B6 {k:Nat} (hk:k<f.s.n) (s3:f.s.st k=3):f.did L k k=f.AX L k k/\f.step L k k={f.rel L k k with s:=f.s.fin k (f.AX L k k).ev}:=zz28
theorem OY {k:Nat} (hk:k<f.s.n) (s4:f.s.st k=4):f.did L k k=f.CW L k k/\f.step L k k={f.ask L k k with s:=f.s.fin k (f.CW L k k).ev}:=by
 have ht:(0:Int)<=(k:Int)/\(k:Int)<f.s.n:=by omega
 have e:f.did L k k=f.CW L k k:=by unfold FL.did;rw [Qj ht,Int.toNat_natCast,Qq (by omega),Qq (by omega),Qj s4]
 have em:f.mid L k k=f.ask L k k:=by unfold FL.mid;rw [Qj ht,Int.toNat_natCast,Qq (by omega),Qq (by omega),Qj s4]
 exact zz3m
theorem put (h:OrdJ f g W) {f':FL} {g':Option Nat} {W':List Nat} (hn:f'.s.n=f.s.n) (hl:f'.ps.ws.length=f.ps.ws.length) (ha:f'.ps.ac.length=f.ps.ac.length) (hc:Cor f.s.n f'.s.st f'.pc f'.A9 (wT f'.ps) (wN f'.ps) (wK f'.ps) g' W'):OrdJ f' g' W':=
 ⟨by rw [hn];exact h.n8,by rw [hl,hn];exact h.len,by rw [ha,hn];exact h.ac,by rw [hn];exact hc⟩
theorem Z_ (h2:L.a2=1) (i:Nat):L.nx (i:Int)=((1+2*i:Nat):Int):=by unfold Lp.nx;rw [h2];omega
theorem iD (h2:L.a2=1) (i:Nat):L.lk (i:Int)=((2+2*i:Nat):Int):=by unfold Lp.lk;rw [h2];omega
theorem jC (h:OrdJ f g W) (h1:L.a1=0) (h2:L.a2=1) {k:Nat} (hk:k<f.s.n) (s1:f.s.st k=1):∃ g' W' x p,Fc f (f.step L k k) W k (f.did L k k) g' W' x p:=by
 obtain ⟨ed,es⟩:=at_one (L:=L) hk s1;rw [ed,es];have hl:=h.len;have CY:k<f.ps.ac.length:=by rw [h.ac];exact hk
 have Ev:=h.Ae.Ev k;by_cases p0:f.pc k=0
 ·obtain ⟨b,c,d⟩:=BQ (v:=0) CY (Z_ h2 k) (show 1+2*k<f.ps.ws.length by omega)
  have e1:f.acq L k k={f with pc:=upd f.pc k 1,ps:=A5 f.ps k 2 (L.nx k) 0 0}:=by unfold FL.acq;rw [Qj p0]
  have e2:f.A7 L k k=Dd.no:=by unfold FL.A7;rw [Qj p0]
  rw [e1,e2,Aq];obtain ⟨wt,wn,wk⟩:=Pd hl hk b;refine ⟨g,W,1,1,h.put rfl (by show (A5 _ _ _ _ _ _).ws.length=_;rw [b,List.length_set]) c ?_,.same rfl (by decide) (by decide) rfl,λj=>by rw [<-s1];exact BV _ _ j,rfl,λ_=>rfl,Nat.le_of_eq d,.inl (by rw [s1,p0];decide),λq=>absurd q (by decide),λ_=>rfl,λ_=> .inl ⟨rfl,by decide⟩,λq=>by omega,λq=>by omega⟩;show Cor _ _ (upd f.pc k 1) _ (wT (A5 _ _ _ _ _ _)) (wN (A5 _ _ _ _ _ _)) (wK (A5 _ _ _ _ _ _)) g W;rw [wt,wn,wk];exact h.Ae.iJ hk s1 p0
 by_cases p1:f.pc k=1
 ·obtain ⟨a,b,c,d⟩:=El (v:=(k:Int)+1) CY (show L.a1=((0:Nat):Int) from h1) (show 0<f.ps.ws.length by omega)
  have hT:A6 f.ps k 3 L.a1=wT f.ps:=a;have e1:f.acq L k k={f with pc:=upd f.pc k (if wT f.ps=0 then 0 else 2),A9:=upd f.A9 k (wT f.ps),ps:=A5 f.ps k 3 L.a1 0 ((k:Int)+1)}:=by unfold FL.acq;rw [Qq p0,Qj p1,hT]
  have e2:f.A7 L k k=⟨if wT f.ps=0 then 1 else 0,true,false,false⟩:=by unfold FL.A7;rw [Qq p0,Qj p1,hT]
  obtain ⟨wt,wn,wk⟩:=Hg (by omega) b;by_cases q:g.toList++W=[]
  ·have hT0:wT f.ps=0:=by rw [h.Ae.tl,q];rfl
   obtain ⟨q1,rfl⟩:=List.append_eq_nil_iff.1 q
   have hg:g=none:=by cases g with
    |none=>rfl
    |some a=>cases q1
   subst hg;rw [e1,e2,hT0,Qj rfl,Qj rfl,Aw hk (by rw [s1];rfl:AH (f.s.st k) 1=some 2)];refine ⟨some k,[],2,0,h.put rfl (by show (A5 _ _ _ _ _ _).ws.length=_;rw [b,List.length_set]) c ?_,.both rfl k rfl rfl rfl,λ_=>rfl,rfl,λ_=>rfl,Nat.le_of_eq d,.inl (by rw [s1,p1];decide),λ_=>⟨s1,rfl,rfl,true,rfl⟩,λq=>by omega,λ_=> .inr ⟨rfl,rfl⟩,λq=>by omega,λq=>by omega⟩;show Cor _ (upd f.s.st k 2) (upd f.pc k 0) (upd f.A9 k 0) (wT (A5 _ _ _ _ _ _)) (wN (A5 _ _ _ _ _ _)) (wK (A5 _ _ _ _ _ _)) (some k) [];rw [wt,wn,wk];exact h.Ae.fQ hk s1 p1 0
  ·have hT0:wT f.ps≠0:=by
    rw [h.Ae.tl];cases hq:g.toList++W with
    |nil=>exact absurd hq q
    |cons i r=>
     obtain ⟨j,_,hj⟩:=K5 0 i r;rw [hj];omega
   rw [e1,e2,Qq hT0,Qq hT0];rw [show f.s.fin k (⟨0,true,false,false⟩:Dd).ev=f.s from Aq f.s k];refine ⟨g,W++[k],1,2,h.put rfl (by show (A5 _ _ _ _ _ _).ws.length=_;rw [b,List.length_set]) c ?_,.BW rfl k rfl rfl,λj=>by rw [<-s1];exact BV _ _ j,rfl,λ_=>rfl,Nat.le_of_eq d,.inl (by rw [s1,p1];decide),λq=>absurd q (by decide),λ_=>rfl,λ_=> .inl ⟨rfl,by decide⟩,λq=>by omega,λq=>by omega⟩;show Cor _ _ (upd f.pc k 2) (upd f.A9 k (wT f.ps)) (wT (A5 _ _ _ _ _ _)) (wN (A5 _ _ _ _ _ _)) (wK (A5 _ _ _ _ _ _)) g (W++[k]);rw [wt,wn,wk];exact h.Ae.BW q hk s1 p1
 by_cases p2:f.pc k=2
 ·obtain ⟨b,c,d⟩:=BQ (v:=1) CY (iD h2 k) (show 2+2*k<f.ps.ws.length by omega)
  have e1:f.acq L k k={f with pc:=upd f.pc k 3,ps:=A5 f.ps k 2 (L.lk k) 0 1}:=by unfold FL.acq;rw [Qq p0,Qq p1,Qj p2]
  have e2:f.A7 L k k=Dd.no:=by unfold FL.A7;rw [Qq p0,Qq p1,Qj p2]
  rw [e1,e2,Aq];obtain ⟨wt,wn,wk⟩:=Pb hl hk b;refine ⟨g,W,1,3,h.put rfl (by show (A5 _ _ _ _ _ _).ws.length=_;rw [b,List.length_set]) c ?_,.same rfl (by decide) (by decide) rfl,λj=>by rw [<-s1];exact BV _ _ j,rfl,λ_=>rfl,Nat.le_of_eq d,.inl (by rw [s1,p2];decide),λq=>absurd q (by decide),λ_=>rfl,λ_=> .inl ⟨rfl,by decide⟩,λq=>by omega,λq=>by omega⟩;show Cor _ _ (upd f.pc k 3) _ (wT (A5 _ _ _ _ _ _)) (wN (A5 _ _ _ _ _ _)) (wK (A5 _ _ _ _ _ _)) g W;rw [wt,wn,wk];exact h.Ae.mJ hk s1 p2
 by_cases p3:f.pc k=3
 ·obtain ⟨i,hi,ho⟩:=h.Ae.ahead hk s1 (.inr p3)
  have hi1:f.A9 k-1=(i:Int):=by omega
  obtain ⟨b,c,d⟩:=BQ (v:=(k:Int)+1) CY (show L.nx (f.A9 k-1)=((1+2*i:Nat):Int) by rw [hi1];exact Z_ h2 i) (show 1+2*i<f.ps.ws.length by omega);have e1:f.acq L k k={f with pc:=upd f.pc k 4,ps:=A5 f.ps k 2 (L.nx (f.A9 k-1)) 0 ((k:Int)+1)}:=by unfold FL.acq;rw [Qq p0,Qq p1,Qq p2,Qj p3]
  have e2:f.A7 L k k=Dd.no:=by unfold FL.A7;rw [Qq p0,Qq p1,Qq p2,Qj p3]
  rw [e1,e2,Aq];obtain ⟨wt,wn,wk⟩:=Pd hl hi b;refine ⟨g,W,1,4,h.put rfl (by show (A5 _ _ _ _ _ _).ws.length=_;rw [b,List.length_set]) c ?_,.same rfl (by decide) (by decide) rfl,λj=>by rw [<-s1];exact BV _ _ j,rfl,λ_=>rfl,Nat.le_of_eq d,.inl (by rw [s1,p3];decide),λq=>absurd q (by decide),λ_=>rfl,λ_=> .inl ⟨rfl,by decide⟩,λq=>by omega,λq=>by omega⟩;show Cor _ _ (upd f.pc k 4) _ (wT (A5 _ _ _ _ _ _)) (wN (A5 _ _ _ _ _ _)) (wK (A5 _ _ _ _ _ _)) g W;rw [wt,wn,wk];exact h.Ae.Md hk s1 p3 ho
 have p4:f.pc k=4:=by omega
 obtain ⟨a,b,c,d⟩:=BL CY (iD h2 k) (show 2+2*k<f.ps.ws.length by omega);have hT:A6 f.ps k 1 (L.lk k)=wK f.ps k:=a;have e1:f.acq L k k={f with pc:=upd f.pc k (if wK f.ps k=0 then 0 else 4),ps:=A5 f.ps k 1 (L.lk k) 0 0}:=by unfold FL.acq;rw [Qq p0,Qq p1,Qq p2,Qq p3,hT]
 have e2:f.A7 L k k=if wK f.ps k=0 then ⟨1,false,false,false⟩ else Dd.no:=by unfold FL.A7;rw [Qq p0,Qq p1,Qq p2,Qq p3,hT]
 obtain ⟨wt,wn,wk⟩:=Bq b;rcases h.Ae.looks hk s1 p4 with ⟨rfl,r,rfl,hz⟩|hz
 ·rw [e1,e2,Qj hz,Qj hz,Aw hk (by rw [s1];rfl:AH (f.s.st k) 1=some 2)]
  have aB:k∉r:=(List.nodup_cons.1 h.Ae.nodup).1;refine ⟨some k,r,2,0,h.put rfl (by show (A5 _ _ _ _ _ _).ws.length=_;rw [b]) c ?_,.Bs rfl k rfl rfl aB,λ_=>rfl,rfl,λ_=>rfl,Nat.le_of_eq d,.inl (by rw [s1,p4];decide),λ_=>⟨s1,rfl,rfl,false,rfl⟩,λq=>by omega,λ_=> .inr ⟨rfl,rfl⟩,λq=>by omega,λq=>by omega⟩;show Cor _ (upd f.s.st k 2) (upd f.pc k 0) _ (wT (A5 _ _ _ _ _ _)) (wN (A5 _ _ _ _ _ _)) (wK (A5 _ _ _ _ _ _)) (some k) r;rw [wt,wn,wk];exact h.Ae.Bs
 ·have hz0:wK f.ps k≠0:=by omega
  rw [e1,e2,Qq hz0,Qq hz0,Aq];have ep:upd f.pc k 4=f.pc:=funext λj=>by rw [<-p4];exact (BV f.pc k j).symm
  refine ⟨g,W,1,4,h.put rfl (by show (A5 _ _ _ _ _ _).ws.length=_;rw [b]) c ?_,.same rfl (by decide) (by decide) rfl,λj=>by rw [<-s1];exact BV _ _ j,rfl,λ_=>rfl,Nat.le_of_eq d,.inr (.inr ⟨s1.symm,p4.symm,b,.inr (.inr (.inl ⟨s1,p4,hz0⟩))⟩),λq=>absurd q (by decide),λ_=>rfl,λ_=> .inl ⟨rfl,by decide⟩,λq=>by omega,λq=>by omega⟩;show Cor _ _ (upd f.pc k 4) _ (wT (A5 _ _ _ _ _ _)) (wN (A5 _ _ _ _ _ _)) (wK (A5 _ _ _ _ _ _)) g W;rw [wt,wn,wk,ep];exact h.Ae
theorem jD (h:OrdJ f g W) (h1:L.a1=0) (h2:L.a2=1) {k:Nat} (hk:k<f.s.n) (s3:f.s.st k=3):∃ g' W' x p,Fc f (f.step L k k) W k (f.did L k k) g' W' x p:=by
 obtain ⟨ed,es⟩:=B6 (L:=L) hk s3;rw [ed,es];obtain rfl:=h.Ae.held hk (.inr (.inl s3));have hl:=h.len;have CY:k<f.ps.ac.length:=by rw [h.ac];exact hk
 have Ev:=h.Ae.Ev k;have KG:=h.Ae.KG k hk s3
 have look:∀ (p0:Int),f.pc k=p0->(p0=0\/p0=2)->(wN f.ps k=0->p0=2->W≠[])->∀ f',f'={f with pc:=upd f.pc k (if wN f.ps k=0 then (if p0=0 then 1 else 2) else 3),A9:=upd f.A9 k (wN f.ps k),ps:=A5 f.ps k 1 (L.nx k) 0 0}->
   ∃ g' W' x p,Fc f f' W k Dd.no g' W' x p:=by
  intro p0 hp hp0 hne f' hf';obtain ⟨a,b,c,d⟩:=BL CY (Z_ h2 k) (show 1+2*k<f.ps.ws.length by omega);obtain ⟨wt,wn,wk⟩:=Bq b;by_cases hz:wN f.ps k=0
  ·rw [Qj hz] at hf'
   rcases hp0 with rfl|rfl
   ·rw [Qj rfl] at hf'
    subst hf';refine ⟨some k,W,3,1,h.put rfl (by show (A5 _ _ _ _ _ _).ws.length=_;rw [b]) c ?_,.same rfl (by decide) (by decide) rfl,λj=>by rw [<-s3];exact BV _ _ j,rfl,λ_=>rfl,Nat.le_of_eq d,.inl (by rw [s3,hp];decide),λq=>absurd q (by decide),λ_=>rfl,λq=>by omega,λ_=> .inl rfl,λq=>by omega⟩;show Cor _ _ (upd f.pc k 1) (upd f.A9 k _) (wT (A5 _ _ _ _ _ _)) (wN (A5 _ _ _ _ _ _)) (wK (A5 _ _ _ _ _ _)) (some k) W;rw [wt,wn,wk];exact h.Ae.eT s3 (by omega) (λq=>by omega) (λq=>by omega)
   ·rw [Qq (by decide)] at hf'
    subst hf';refine ⟨some k,W,3,2,h.put rfl (by show (A5 _ _ _ _ _ _).ws.length=_;rw [b]) c ?_,.same rfl (by decide) (by decide) rfl,λj=>by rw [<-s3];exact BV _ _ j,rfl,λ_=>rfl,Nat.le_of_eq d,.inr (.inr ⟨s3.symm,hp.symm,b,.inr (.inr (.inr ⟨s3,hp,hz⟩))⟩),λq=>absurd q (by decide),λ_=>rfl,λq=>by omega,λ_=> .inl rfl,λq=>by omega⟩;show Cor _ _ (upd f.pc k 2) (upd f.A9 k _) (wT (A5 _ _ _ _ _ _)) (wN (A5 _ _ _ _ _ _)) (wK (A5 _ _ _ _ _ _)) (some k) W;rw [wt,wn,wk];exact h.Ae.eT s3 (by omega) (λ_=>hne hz rfl) (λq=>by omega)
  ·rw [Qq hz] at hf'
   subst hf';refine ⟨some k,W,3,3,h.put rfl (by show (A5 _ _ _ _ _ _).ws.length=_;rw [b]) c ?_,.same rfl (by decide) (by decide) rfl,λj=>by rw [<-s3];exact BV _ _ j,rfl,λ_=>rfl,Nat.le_of_eq d,.inl (by rw [s3,hp];rcases hp0 with rfl|rfl<;>decide),λq=>absurd q (by decide),λ_=>rfl,λq=>by omega,λ_=> .inl rfl,λq=>by omega⟩;show Cor _ _ (upd f.pc k 3) (upd f.A9 k _) (wT (A5 _ _ _ _ _ _)) (wN (A5 _ _ _ _ _ _)) (wK (A5 _ _ _ _ _ _)) (some k) W;rw [wt,wn,wk];refine h.Ae.eT s3 (by omega) (λq=>by omega) λ_=> ?_;rcases h.Ae.JO with ⟨_,q⟩|⟨j,r,q1,q2⟩
   ·exact absurd q hz
   ·rcases q2 with q2|q2
    ·exact absurd q2.1 hz
    ·exact ⟨j,r,q1,q2.1,q2.2.1⟩
 have XM:A6 f.ps k 1 (L.nx k)=wN f.ps k:=(BL CY (Z_ h2 k) (show 1+2*k<f.ps.ws.length by omega)).1;by_cases p0:f.pc k=0
 ·have e2:f.AX L k k=Dd.no:=by unfold FL.AX;rw [Qj p0]
  rw [e2,Aq];refine look 0 p0 (.inl rfl) (λ_ q=>by omega) _ ?_;unfold FL.rel;rw [Qj p0,XM,Qj rfl]
 by_cases p1:f.pc k=1
 ·obtain ⟨a,b,c,d⟩:=Fi (old:=(k:Int)+1) (v:=0) CY (show L.a1=((0:Nat):Int) from h1) (show 0<f.ps.ws.length by omega)
  have e1:f.rel L k k={f with pc:=upd f.pc k (if casT f.ps k L.a1 ((k:Int)+1)=true then 0 else 2),ps:=A5 f.ps k 4 L.a1 ((k:Int)+1) 0}:=by unfold FL.rel;rw [Qq p0,Qj p1]
  have e2:f.AX L k k=if casT f.ps k L.a1 ((k:Int)+1)=true then ⟨3,false,false,false⟩ else Dd.no:=by unfold FL.AX;rw [Qq p0,Qj p1]
  cases W with
  |nil=>
   have hT:f.ps.ws.getD 0 0=(k:Int)+1:=h.Ae.tl;have hc:=a.2 hT;rw [Qj hT] at b;obtain ⟨wt,wn,wk⟩:=Hg (by omega) b;rw [e1,e2,Qj hc,Qj hc,Aw hk (by rw [s3];rfl:AH (f.s.st k) 3=some 0)];refine ⟨none,[],0,0,h.put rfl (by show (A5 _ _ _ _ _ _).ws.length=_;rw [b,List.length_set]) c ?_,.same rfl (by decide) (by decide) rfl,λ_=>rfl,rfl,λ_=>rfl,Nat.le_of_eq d,.inl (by rw [s3,p1];decide),λq=>absurd q (by decide),λq=>by omega,λq=>by omega,λ_=> .inr rfl,λq=>by omega⟩;show Cor _ (upd f.s.st k 0) (upd f.pc k 0) _ (wT (A5 _ _ _ _ _ _)) (wN (A5 _ _ _ _ _ _)) (wK (A5 _ _ _ _ _ _)) none [];rw [wt,wn,wk];exact h.Ae.ZZ
  |cons j r=>
   have hT:f.ps.ws.getD 0 0≠(k:Int)+1:=by
    have ht:=h.Ae.tl;have ht:f.ps.ws.getD 0 0=JD ((k:Int)+1) (j::r):=ht;obtain ⟨i,hi,hj⟩:=K5 ((k:Int)+1) j r;rw [ht,hj];intro q;have:i=k:=by omega
    subst this;exact h.Ae.W5 hi
   have hc:¬ casT f.ps k L.a1 ((k:Int)+1)=true:=λq=>hT (a.1 q);rw [Qq hT] at b;obtain ⟨wt,wn,wk⟩:=Bq b;rw [e1,e2,Qq hc,Qq hc,Aq];have eo:upd f.A9 k (f.A9 k)=f.A9:=funext λj=>(BV f.A9 k j).symm;refine ⟨some k,j::r,3,2,h.put rfl (by show (A5 _ _ _ _ _ _).ws.length=_;rw [b]) c ?_,.same rfl (by decide) (by decide) rfl,λj=>by rw [<-s3];exact BV _ _ j,rfl,λ_=>rfl,Nat.le_of_eq d,.inl (by rw [s3,p1];decide),λq=>absurd q (by decide),λ_=>rfl,λq=>by omega,λ_=> .inl rfl,λq=>by omega⟩;show Cor _ _ (upd f.pc k 2) f.A9 (wT (A5 _ _ _ _ _ _)) (wN (A5 _ _ _ _ _ _)) (wK (A5 _ _ _ _ _ _)) (some k) (j::r);rw [wt,wn,wk,<-eo];exact h.Ae.eT s3 (by omega) (λ_=>by simp) (λq=>by omega)
 by_cases p2:f.pc k=2
 ·have e2:f.AX L k k=Dd.no:=by unfold FL.AX;rw [Qq p0,Qq p1,Qj p2]
  rw [e2,Aq];refine look 2 p2 (.inr rfl) (λ_ _=>h.Ae.dX k rfl s3 p2) _ ?_;unfold FL.rel;rw [Qq p0,Qq p1,Qj p2,XM,Qq (by decide:¬ (2:Int)=0)]
 have p3:f.pc k=3:=by omega
 obtain ⟨j,r,rfl,ho,pj⟩:=h.Ae.Yc k rfl s3 p3;have hj:j<f.s.n:=h.Ae.lt j (by simp);have hi1:f.A9 k-1=(j:Int):=by omega
 obtain ⟨b,c,d⟩:=BQ (v:=0) CY (show L.lk (f.A9 k-1)=((2+2*j:Nat):Int) by rw [hi1];exact iD h2 j) (show 2+2*j<f.ps.ws.length by omega);have e1:f.rel L k k={f with pc:=upd f.pc k 0,ps:=A5 f.ps k 2 (L.lk (f.A9 k-1)) 0 0}:=by unfold FL.rel;rw [Qq p0,Qq p1,Qq p2]
 have e2:f.AX L k k=⟨3,false,false,false⟩:=by unfold FL.AX;rw [Qq p0,Qq p1,Qq p2]
 obtain ⟨wt,wn,wk⟩:=Pb hl hj b;rw [e1,e2,Aw hk (by rw [s3];rfl:AH (f.s.st k) 3=some 0)];refine ⟨none,j::r,0,0,h.put rfl (by show (A5 _ _ _ _ _ _).ws.length=_;rw [b,List.length_set]) c ?_,.same rfl (by decide) (by decide) rfl,λ_=>rfl,rfl,λ_=>rfl,Nat.le_of_eq d,.inl (by rw [s3,p3];decide),λq=>absurd q (by decide),λq=>by omega,λq=>by omega,λ_=> .inr rfl,λq=>by omega⟩;show Cor _ (upd f.s.st k 0) (upd f.pc k 0) _ (wT (A5 _ _ _ _ _ _)) (wN (A5 _ _ _ _ _ _)) (wK (A5 _ _ _ _ _ _)) none (j::r);rw [wt,wn,wk];exact h.Ae.Za pj
theorem jE (h:OrdJ f g W) (h1:L.a1=0) (h2:L.a2=1) {k:Nat} (hk:k<f.s.n) (s4:f.s.st k=4):∃ g' W' x p,Fc f (f.step L k k) W k (f.did L k k) g' W' x p:=by
 obtain ⟨ed,es⟩:=OY (L:=L) hk s4;rw [ed,es];have hl:=h.len;have CY:k<f.ps.ac.length:=by rw [h.ac];exact hk
 obtain ⟨a,b,c,d⟩:=BL CY (Z_ h2 k) (show 1+2*k<f.ps.ws.length by omega);obtain ⟨wt,wn,wk⟩:=Bq b;have p0:=h.Ae.Iu k hk (by omega) (by omega);obtain ⟨ev,hev,e2⟩:∃ ev,(ev=4\/ev=5)/\f.CW L k k=⟨ev,false,false,false⟩:=by
  unfold FL.CW;split
  ·exact ⟨4,.inl rfl,rfl⟩
  ·exact ⟨5,.inr rfl,rfl⟩
 rw [e2,show f.s.fin k (⟨ev,false,false,false⟩:Dd).ev=f.s.set k 2 0 from Aw hk (by rw [s4];rcases hev with rfl|rfl<;>rfl)];unfold FL.ask;refine ⟨g,W,2,f.pc k,h.put rfl (by show (A5 _ _ _ _ _ _).ws.length=_;rw [b]) c ?_,.same rfl (by rcases hev with rfl|rfl<;>decide) (by rcases hev with rfl|rfl<;>decide) rfl,λ_=>rfl,rfl,λj=>BV _ _ j,Nat.le_of_eq d,.inr (.inl s4),λq=>by rcases hev with rfl|rfl<;>exact absurd q (by decide),λq=>by omega,λq=>by omega,λq=>by omega,λq=>by omega⟩;show Cor _ (upd f.s.st k 2) _ _ (wT (A5 _ _ _ _ _ _)) (wN (A5 _ _ _ _ _ _)) (wK (A5 _ _ _ _ _ _)) g W;rw [wt,wn,wk];exact h.Ae.turn hk (.inr s4) (.inl rfl)
theorem Lz (h:OrdJ f g W) (h1:L.a1=0) (h2:L.a2=1) {k:Nat} (hk:k<f.s.n):∃ g' W' x p,Fc f (f.step L k k) W k (f.did L k k) g' W' x p:=by
 by_cases s1:f.s.st k=1
 ·exact h.jC h1 h2 hk s1
 by_cases s3:f.s.st k=3
 ·exact h.jD h1 h2 hk s3
 by_cases s4:f.s.st k=4
 ·exact h.jE h1 h2 hk s4
 obtain ⟨d1,d2⟩:=D5 (L:=L) hk s1 s3 s4;rw [d1,d2];have hst:f.s.st k=0\/f.s.st k=2:=by
  by_cases hm:k∈g.toList++W
  ·rcases List.mem_append.1 hm with hm|hm
   ·have:=h.Ae.FZ k (by simpa using hm);omega
   ·have:=h.Ae.EN k hm;omega
  ·have:=h.Ae.FB k hk hm;omega
 exact ⟨g,W,f.s.st k,f.pc k,h,.same rfl (by decide) (by decide) rfl,BV _ _,rfl,BV _ _,Nat.le_succ _,.inr (.inr ⟨rfl,rfl,rfl,by omega⟩),λq=>absurd q (by decide),λ_=>rfl,λq=>absurd q s1,λq=>absurd q s3,λq=>⟨q,rfl⟩⟩
theorem step (h:OrdJ f g W) (h1:L.a1=0) (h2:L.a2=1) (t:Int):
  ∃ g' W',OrdJ (f.step L t t) g' W'/\(f.step L t t).ps.D.length<=f.ps.D.length+1/\BC W t (f.did L t t) W':=by
 by_cases ht:0<=t/\t<f.s.n
 ·obtain ⟨k,rfl⟩:=Qx ht.1
  obtain ⟨g',W',x,p,hs⟩:=h.Lz h1 h2 (show k<f.s.n by omega);exact ⟨g',W',hs.ord,hs.D,hs.q⟩
 ·obtain ⟨d1,d2⟩:=D6 (L:=L) ht
  rw [d1,d2];exact ⟨g,W,h,Nat.le_succ _,.same rfl (by decide) (by decide) rfl⟩
end OrdJ
def OrdI (f:FL) (W:List Nat):Prop:=∃ g,OrdJ f g W
namespace OrdI
variable {f:FL} {W:List Nat} {L:Lp}
theorem lock (h:OrdI f W) (t d:Int):OrdI (f.lock t d) W:=by obtain ⟨g,h⟩:=h;exact ⟨g,h.lock t d⟩
theorem unlock (h:OrdI f W) (t:Int):OrdI (f.turn t 3) W:=by obtain ⟨g,h⟩:=h;exact ⟨g,h.turn t 3 (.inl rfl)⟩
theorem step (h:OrdI f W) (h1:L.a1=0) (h2:L.a2=1) (t:Int):∃ W',OrdI (f.step L t t) W'/\(f.step L t t).ps.D.length<=f.ps.D.length+1/\OrdJ.BC W t (f.did L t t) W':=by
 obtain ⟨g,h⟩:=h;obtain ⟨g',W',a,b,c⟩:=h.step h1 h2 t;exact ⟨W',⟨g',a⟩,b,c⟩
theorem one (h:OrdI f W) {j k:Nat} (hj:j<f.s.n) (hk:k<f.s.n) (ej:f.s.st j=2) (ek:f.s.st k=2):j=k:=by
 obtain ⟨g,h⟩:=h;have h1:=h.Ae.held hj (.inl ej);have h2:=h.Ae.held hk (.inl ek);rw [h1] at h2;simpa using h2
end OrdI
end Go.Proofs.YtmnephejhkfchaaGreat.Km
namespace Go.Proofs.YtmnephejhkfchaaGreat.Kf
set_option linter.unusedVariables false
set_option maxRecDepth 100000
theorem L4 {ps:AK} {nx ow:Int} {k:Nat} (h:ps.ws=[nx,ow]) (hk:k<ps.ac.length):
  A6 ps k 5 0=nx/\(A5 ps k 5 0 0 1).ws=[(nx+1)%4294967296,ow]/\(A5 ps k 5 0 0 1).ac.length=ps.ac.length/\(A5 ps k 5 0 0 1).D.length=ps.D.length+1:=zz7m
theorem BL {ps:AK} {nx ow:Int} {k:Nat} (h:ps.ws=[nx,ow]) (hk:k<ps.ac.length) (a:Int) (ha:a=0\/a=1):
  A6 ps k 1 a=(if a=0 then nx else ow)/\(A5 ps k 1 a 0 0).ws=[nx,ow]/\(A5 ps k 1 a 0 0).ac.length=ps.ac.length/\(A5 ps k 1 a 0 0).D.length=ps.D.length+1:=by
 have ho:Dg ps k 1 a=true:=by rcases ha with rfl|rfl<;>(simp [Dg,EH,h];omega)
 refine ⟨?_,?_,?_,?_⟩
 ·unfold A6;rw [ho];rcases ha with rfl|rfl<;>simp [CR,BK,h]
 ·unfold A5;rw [ho];simp [Gb,h]
 ·exact zz1s
 ·exact zz22
theorem BQ {ps:AK} {nx ow v:Int} {k:Nat} (h:ps.ws=[nx,ow]) (hk:k<ps.ac.length):
  (A5 ps k 2 1 0 v).ws=[nx,v]/\(A5 ps k 2 1 0 v).ac.length=ps.ac.length/\(A5 ps k 2 1 0 v).D.length=ps.D.length+1:=by
 have ho:Dg ps k 2 1=true:=by simp [Dg,EH,h];omega
 refine ⟨?_,?_,?_⟩
 ·unfold A5;rw [ho];simp [Gb,BA,h]
 ·exact zz1s
 ·exact zz22
theorem BU {s:SS} {k:Nat} {ev:Int} (h:AH (s.st k) ev=none):s.fin k ev=s:=zz1c
theorem Aw {s:SS} {k:Nat} {ev y:Int} (hk:k<s.n) (h:AH (s.st k) ev=some y):s.fin k ev=s.set k y 0:=zz19
structure OrdJ (f:FL) (g:Option Nat) (W:List Nat) (nx ow:Int):Prop where
 n8:f.s.n<=64
 ws:f.ps.ws=[nx,ow]
 ac:f.ps.ac.length=f.s.n
 BP:0<=ow/\ow<4294967296
 nodup:(g.toList++W).Nodup
 lt:∀ k∈g.toList++W,k<f.s.n
 num:∀ (i k:Nat),(g.toList++W)[i]? =some k->f.num k=(ow+i)%4294967296
 Md:nx=(ow+(g.toList++W).length)%4294967296
 dr:∀ k,k<f.s.n->(f.dr k=true↔k∈g.toList++W)
 FZ:∀ k,g=some k->f.s.st k=2\/f.s.st k=3\/f.s.st k=4
 EN:∀ k∈W,f.s.st k=1
 FB:∀ k,k<f.s.n->k∉g.toList++W->f.s.st k=0\/f.s.st k=1
namespace OrdJ
variable {f:FL} {g:Option Nat} {W:List Nat} {nx ow:Int} {L:Lp}
theorem len (h:OrdJ f g W nx ow):(g.toList++W).length<=64:=by
 have h1:(g.toList++W).length<=(List.range f.s.n).length:=List.Nodup.length_le_of_subset h.nodup λk hk=>List.mem_range.2 (h.lt k hk);rw [List.length_range] at h1;have:=h.n8;omega
theorem held (h:OrdJ f g W nx ow) {k:Nat} (hk:k<f.s.n) (hs:f.s.st k=2\/f.s.st k=3\/f.s.st k=4):g=some k:=zz1p
theorem idle (h:OrdJ f g W nx ow) {k:Nat} (hk:k<f.s.n) (hs:f.s.st k=0):k∉g.toList++W:=λhm=>zz29
theorem UR (h:OrdJ f g W nx ow) (k:Nat) (x d:Int) (h0:k∉g.toList++W->x=0\/x=1) (h1:k∈W->x=1) (h2:g=some k->x=2\/x=3\/x=4):OrdJ {f with s:=f.s.set k x d} g W nx ow:=by
 refine ⟨h.n8,h.ws,h.ac,h.BP,h.nodup,h.lt,h.num,h.Md,h.dr,λj hj=> ?_,λj hj=> ?_,λj hj hn=> ?_⟩
 ·show upd f.s.st k x j=2\/upd f.s.st k x j=3\/upd f.s.st k x j=4
  exact zz64
 ·exact zz5j
 ·exact zz4v
theorem lock (h:OrdJ f g W nx ow) (t d:Int):OrdJ (f.lock t d) g W nx ow:=zz25
theorem turn (h:OrdJ f g W nx ow) (t x:Int) (hx:x=3\/x=4):OrdJ (f.turn t x) g W nx ow:=by
 unfold FL.turn SS.turn;split
 ·rename_i he
  unfold BR at he;split at he
  ·rename_i hc
   split at he
   ·omega
   ·split at he
    ·rename_i hs
     have hk:t.toNat<f.s.n:=by omega
     have hg:=h.held hk (.inl hs);refine h.UR _ _ _ (λhn=>absurd (List.mem_append_left W (by rw [hg];simp)) hn) (λhw=> ?_) λ_=> .inr hx;have:=h.EN _ hw;omega
    ·omega
  ·omega
 ·exact h
theorem WM (h:OrdJ f g W nx ow) {ps:AK} (hw:ps.ws=[nx,ow]) (ha:ps.ac.length=f.ps.ac.length):OrdJ {f with ps:=ps} g W nx ow:=
 ⟨h.n8,hw,ha.trans h.ac,h.BP,h.nodup,h.lt,h.num,h.Md,h.dr,h.FZ,h.EN,h.FB⟩
theorem BW (h:OrdJ f g W nx ow) {k:Nat} (hk:k<f.s.n) (hs:f.s.st k=1) (hd:f.dr k=false) {ps:AK} (hw:ps.ws=[(nx+1)%4294967296,ow]) (ha:ps.ac.length=f.ps.ac.length):
  OrdJ {f with num:=upd f.num k nx,dr:=upd f.dr k true,ps:=ps} g (W++[k]) ((nx+1)%4294967296) ow:=by
 have hn:k∉g.toList++W:=λe=>by rw [(h.dr k hk).2 e] at hd;cases hd
 have hl:=h.len;refine ⟨h.n8,hw,ha.trans h.ac,h.BP,?_,?_,?_,?_,?_,h.FZ,?_,?_⟩
 ·exact zz4d
 ·exact zz2q
 ·intro i j hj
  rw [<-List.append_assoc] at hj;show upd f.num k nx j=_;by_cases hi:i<(g.toList++W).length
  ·exact zz4r
  ·rw [List.getElem?_append_right (by omega)] at hj
   have hi2:i-(g.toList++W).length=0:=by
    have:=(List.getElem?_eq_some_iff.1 hj).1;simpa using this
   rw [hi2] at hj;obtain rfl:k=j:=by simpa using hj
   rw [upd_same,h.Md]
   congr 3
   omega
 ·exact zz4h
 ·intro j hj
  show upd f.dr k true j=true↔_;exact zz4m
 ·exact zz3f
 ·exact zz3y
theorem first (h:OrdJ f g W nx ow) {k:Nat} (hk:k<f.s.n) (hs:f.s.st k=1) (hd:f.dr k=true) (he:ow=f.num k):g=none/\∃ W',W=k::W'/\k∉W':=by
 have hm:=(h.dr k hk).1 hd;have hl:=h.len;have hr:=h.BP;obtain ⟨i,hi⟩:=List.getElem?_of_mem hm;have hlt:=(List.getElem?_eq_some_iff.1 hi).1;have:=h.num i k hi;have i0:i=0:=by omega
 subst i0;have hnd:=h.nodup;cases g with
 |none=>
  exact zz45
 |some a=>
  obtain rfl:a=k:=by simpa using hi
  have:=h.FZ a rfl;omega
theorem Bs {k:Nat} (h:OrdJ f none (k::W) nx ow) {ps:AK} (hw:ps.ws=[nx,ow]) (ha:ps.ac.length=f.ps.ac.length) (d:Int):
  OrdJ {f with s:=f.s.set k 2 d,ps:=ps} (some k) W nx ow:=by
 refine ⟨h.n8,hw,ha.trans h.ac,h.BP,h.nodup,h.lt,h.num,h.Md,h.dr,λj hj=> ?_,λj hj=> ?_,λj hj hn=> ?_⟩
 ·exact zz56
 ·exact zz4q
 ·exact zz57
theorem free {k:Nat} (h:OrdJ f (some k) W nx ow) {ps:AK} (hw:ps.ws=[nx,(f.num k+1)%4294967296]) (ha:ps.ac.length=f.ps.ac.length) (d:Int):
  OrdJ {f with s:=f.s.set k 0 d,num:=upd f.num k 0,dr:=upd f.dr k false,ps:=ps} none W nx ((f.num k+1)%4294967296):=by
 have hn0:f.num k=ow:=by
  have:=h.num 0 k rfl;have:=h.BP;omega
 have LN:k∉W:=(List.nodup_cons.1 h.nodup).1;rw [hn0] at hw ⊢;have hl:=h.len;simp only [Option.toList_some,List.length_append,List.length_singleton] at hl;refine ⟨h.n8,hw,ha.trans h.ac,by omega,(List.nodup_cons.1 h.nodup).2,λj hj=>h.lt j (List.mem_append_right _ hj),λi j hj=> ?_,?_,λj hj=> ?_,λj hj=>(by cases hj),λj hj=> ?_,λj hj hn=> ?_⟩
 ·show upd f.num k 0 j=_
  have hm:j∈W:=List.mem_of_getElem? hj;rw [A0 _ _ (λe=>by subst e;exact LN hm),h.num (i+1) j (by simpa using hj)];omega
 ·exact zz4y
 ·show upd f.dr k false j=true↔_
  exact zz61
 ·exact zz66
 ·exact zz47
inductive BC (W:List Nat) (t:Int) (d:Dd) (W':List Nat):Prop where
 |same (h0:d.BW=false) (h1:d.ev≠1) (h2:d.ev≠2) (e:W'=W):BC W t d W'
 |BW (hd:d=⟨0,true,false,false⟩) (k:Nat) (ht:t=k) (e:W'=W++[k]):BC W t d W'
 |Bs (hd:d=⟨1,false,false,false⟩) (k:Nat) (ht:t=k) (e:W=k::W') (hn:k∉W'):BC W t d W'
theorem step (h:OrdJ f g W nx ow) (h1:L.a1=0) (h2:L.a2=1) (t:Int):
  ∃ g' W' nx' WG,OrdJ (f.step L t t) g' W' nx' WG/\(f.step L t t).ps.D.length<=f.ps.D.length+1/\BC W t (f.did L t t) W':=by
 by_cases ht:0<=t/\t<f.s.n
 ·obtain ⟨k,rfl⟩:=Qx ht.1
  have hk:k<f.s.n:=by omega
  have hk2:k<f.ps.ac.length:=by rw [h.ac];exact hk
  unfold FL.step FL.mid FL.did;rw [Qj ht,Qj ht,Int.toNat_natCast];by_cases s1:f.s.st k=1
  ·rw [Qj s1,Qj s1]
   unfold FL.acq FL.A7;rw [h1,h2];cases hd:f.dr k
   ·obtain ⟨e1,e2,e3,e4⟩:=L4 h.ws hk2
    have hj:=h.BW hk s1 hd e2 e3;rw [Qq (by decide),Qq (by decide)];refine ⟨g,W++[k],(nx+1)%4294967296,ow,?_,Nat.le_of_eq e4,.BW rfl k rfl rfl⟩;rw [e1];show OrdJ {f with s:=f.s.fin k 0,num:=_,dr:=_,ps:=_} g _ _ _;rw [BU (by rw [s1];rfl)];exact hj
   ·obtain ⟨e1,e2,e3,e4⟩:=BL h.ws hk2 1 (.inr rfl)
    rw [Qq (by decide)] at e1;rw [Qj rfl,Qj rfl,e1];by_cases he:ow=f.num k
    ·obtain ⟨rfl,W',rfl,hn⟩:=h.first hk s1 hd he
     rw [Qj he];refine ⟨some k,W',nx,ow,?_,Nat.le_of_eq e4,.Bs rfl k rfl rfl hn⟩;show OrdJ {f with s:=f.s.fin k 1,ps:=_} _ _ _ _;rw [Aw hk (by rw [s1];rfl:AH (f.s.st k) 1=some 2)];exact h.Bs e2 e3 0
    ·rw [Qq he]
     refine ⟨g,W,nx,ow,?_,Nat.le_of_eq e4,.same rfl (by decide) (by decide) rfl⟩;show OrdJ {f with s:=f.s.fin k 0,ps:=_} _ _ _ _;rw [BU (by rw [s1];rfl)];exact h.WM e2 e3
  ·rw [Qq s1,Qq s1]
   by_cases s3:f.s.st k=3
   ·rw [Qj s3,Qj s3]
    unfold FL.rel;rw [h2];obtain rfl:=h.held hk (.inr (.inl s3));obtain ⟨e2,e3,e4⟩:=BQ (v:=(f.num k+1)%4294967296) h.ws hk2;refine ⟨none,W,nx,(f.num k+1)%4294967296,?_,Nat.le_of_eq e4,.same rfl (by decide) (by decide) rfl⟩;show OrdJ {f with s:=f.s.fin k 3,num:=_,dr:=_,ps:=_} _ _ _ _;rw [Aw hk (by rw [s3];rfl:AH (f.s.st k) 3=some 0)];exact h.free e2 e3 0
   ·rw [Qq s3,Qq s3]
    by_cases s4:f.s.st k=4
    ·rw [Qj s4,Qj s4]
     unfold FL.ask FL.CW;rw [h1];have hg:=h.held hk (.inr (.inr s4));obtain ⟨e1,e2,e3,e4⟩:=BL h.ws hk2 0 (.inl rfl);have hm:k∈g.toList++W:=List.mem_append_left W (by rw [hg];simp);have LN:k∉W:=λhw=>by have:=h.EN k hw;omega
     have key:∀ ev,ev=4\/ev=5->OrdJ {f with s:=f.s.fin k ev,ps:=A5 f.ps k 1 0 0 0} g W nx ow:=λev hev=>by
      rw [Aw hk (by rw [s4];rcases hev with rfl|rfl<;>rfl:AH (f.s.st k) ev=some 2)];exact (h.WM e2 e3).UR k 2 0 (λe=>absurd hm e) (λe=>absurd e LN) λ_=> .inl rfl
     split
     ·exact ⟨g,W,nx,ow,key 4 (.inl rfl),Nat.le_of_eq e4,.same rfl (by decide) (by decide) rfl⟩
     ·exact ⟨g,W,nx,ow,key 5 (.inr rfl),Nat.le_of_eq e4,.same rfl (by decide) (by decide) rfl⟩
    ·rw [Qq s4,Qq s4]
     refine ⟨g,W,nx,ow,?_,Nat.le_succ _,.same rfl (by decide) (by decide) rfl⟩;have e:f.s.fin k Dd.no.ev=f.s:=BU (by
      unfold AH Dd.no;rw [Qq (by omega),Qq (by omega),Qq (by omega),Qq (by omega)])
     show OrdJ {f with s:=f.s.fin k Dd.no.ev} _ _ _ _;rw [e];exact h
 ·unfold FL.step FL.mid FL.did
  rw [Qq ht,Qq ht];refine ⟨g,W,nx,ow,?_,Nat.le_succ _,.same rfl (by decide) (by decide) rfl⟩;have e:f.s.fin t Dd.no.ev=f.s:=by
   have e0:Bo f.s t Dd.no.ev=none:=by unfold Bo;rw [Qq ht]
   unfold SS.fin;rw [e0]
  show OrdJ {f with s:=f.s.fin t Dd.no.ev} _ _ _ _;rw [e];exact h
end OrdJ
def OrdI (f:FL) (W:List Nat):Prop:=∃ g nx ow,OrdJ f g W nx ow
namespace OrdI
variable {f:FL} {W:List Nat} {L:Lp}
theorem lock (h:OrdI f W) (t d:Int):OrdI (f.lock t d) W:=by obtain ⟨g,nx,ow,h⟩:=h;exact ⟨g,nx,ow,h.lock t d⟩
theorem unlock (h:OrdI f W) (t:Int):OrdI (f.turn t 3) W:=by obtain ⟨g,nx,ow,h⟩:=h;exact ⟨g,nx,ow,h.turn t 3 (.inl rfl)⟩
theorem step (h:OrdI f W) (h1:L.a1=0) (h2:L.a2=1) (t:Int):∃ W',OrdI (f.step L t t) W'/\(f.step L t t).ps.D.length<=f.ps.D.length+1/\OrdJ.BC W t (f.did L t t) W':=zz59
theorem one (h:OrdI f W) {j k:Nat} (hj:j<f.s.n) (hk:k<f.s.n) (ej:f.s.st j=2) (ek:f.s.st k=2):j=k:=by
 obtain ⟨g,nx,ow,h⟩:=h;exact zz41
end OrdI
end Go.Proofs.YtmnephejhkfchaaGreat.Kf
