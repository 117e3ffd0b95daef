
import Derived.Test.YtmnephejhkfchaaGreatSlotsEnd
import Derived.Test.YtmnephejhkfchaaGreatSizeIn
namespace Go.Proofs.YtmnephejhkfchaaGreat.Ks
set_option linter.unusedVariables false
set_option maxRecDepth 100000
theorem do_add {ps:PSta} {nx:Int} {l:List Int} {k:Nat} (h:ps.ws=nx::l) (hk:k<ps.ac.length):
  tellS ps k 5 0=nx∧(doS ps k 5 0 0 1).ws=(nx+1)%4294967296::l∧(doS ps k 5 0 0 1).ac.length=ps.ac.length∧(doS ps k 5 0 0 1).D.length=ps.D.length+1:=by
 have ho:okS ps k 5 0=true:=by simp [okS,okT,h];omega
 refine ⟨?_,?_,?_,?_⟩
 ·unfold tellS;rw [ho];simp [tellI,loadI,h]
 ·unfold doS;rw [ho];simp [doL,addL,storeL,loadI,h]
 ·unfold doS;rw [ho];simp [touchS,bump_len]
 ·unfold doS;rw [ho];simp [touchS]
theorem do_load {ps:PSta} {l:List Int} {k i:Nat} {a:Int} (h:ps.ws=l) (hk:k<ps.ac.length) (ha:a=((i:Nat):Int)) (hi:i<l.length):
  tellS ps k 1 a=l.getD i 0∧(doS ps k 1 a 0 0).ws=l∧(doS ps k 1 a 0 0).ac.length=ps.ac.length∧(doS ps k 1 a 0 0).D.length=ps.D.length+1:=by
 subst ha h
 have ho:okS ps k 1 (i:Int)=true:=by simp [okS,okT];omega
 refine ⟨?_,?_,?_,?_⟩
 ·unfold tellS;rw [ho];simp [tellI,loadI]
 ·unfold doS;rw [ho];simp [doL]
 ·unfold doS;rw [ho];simp [touchS,bump_len]
 ·unfold doS;rw [ho];simp [touchS]
theorem do_store {ps:PSta} {l:List Int} {k i:Nat} {a v:Int} (h:ps.ws=l) (hk:k<ps.ac.length) (ha:a=((i:Nat):Int)) (hi:i<l.length):
  (doS ps k 2 a 0 v).ws=l.set i v∧(doS ps k 2 a 0 v).ac.length=ps.ac.length∧(doS ps k 2 a 0 v).D.length=ps.D.length+1:=by
 subst ha h
 have ho:okS ps k 2 (i:Int)=true:=by simp [okS,okT];omega
 refine ⟨?_,?_,?_⟩
 ·unfold doS;rw [ho];simp [doL,storeL]
 ·unfold doS;rw [ho];simp [touchS,bump_len]
 ·unfold doS;rw [ho];simp [touchS]
theorem fin_none {s:SS} {k:Nat} {ev:Int} (h:behindI (s.st k) ev=none):s.fin k ev=s:=by
 unfold SS.fin endO
 split
 ·rename_i y hy
  split at hy
  ·rw [Int.toNat_natCast,h] at hy;cases hy
  ·cases hy
 ·rfl
theorem fin_some {s:SS} {k:Nat} {ev y:Int} (hk:k<s.n) (h:behindI (s.st k) ev=some y):s.fin k ev=s.set k y 0:=by
 have e:endO s k ev=some y:=by unfold endO;rw [if_pos (by omega),Int.toNat_natCast,h]
 unfold SS.fin
 rw [e,Int.toNat_natCast]
def slotsL (N:Nat) (x:Option Nat):List Int:=(List.range N).map λi=>if x=some i then 1 else 0
theorem slots_len (N:Nat) (x:Option Nat):(slotsL N x).length=N:=by simp [slotsL]
theorem slots_get (N:Nat) (x:Option Nat) {i:Nat} (hi:i<N):(slotsL N x).getD i 0=if x=some i then 1 else 0:=by
 simp [slotsL,hi]
theorem slots_put (N i:Nat):(slotsL N none).set i 1=slotsL N (some i):=by
 apply List.ext_getElem?
 intro j
 rw [List.getElem?_set]
 by_cases hj:j<N
 ·by_cases e:i=j
  ·subst e;simp [slotsL,hj]
  ·simp [slotsL,hj,e]
 ·simp [slotsL,hj]
  omega
theorem slots_take (N i:Nat):(slotsL N (some i)).set i 0=slotsL N none:=by
 apply List.ext_getElem?
 intro j
 rw [List.getElem?_set]
 by_cases hj:j<N
 ·by_cases e:i=j
  ·subst e;simp [slotsL,hj]
  ·simp [slotsL,hj,e]
 ·simp [slotsL,hj]
  omega
def turnO (g:Option Nat) (ow N:Nat):Option Nat:=match g with
 |none=>some (ow%N)
 |some _=>none
theorem slot_same {ow i N:Nat} (hi:i<N) (h:ow%N=(ow+i)%N):i=0:=by
 have h2:=Nat.sub_mod_eq_zero_of_mod_eq h.symm
 rw [show ow+i-ow=i by omega,Nat.mod_eq_of_lt hi] at h2
 exact h2
theorem slot_of {nx N:Nat} (h:N ∣ 4294967296):(((nx%4294967296:Nat):Int))%(N:Int)=((nx%N:Nat):Int):=by
 rw [←Int.natCast_emod,Nat.mod_mod_of_dvd _ h]
theorem slot_next (ow N:Nat):((((ow%N:Nat):Int))+1)%(N:Int)=(((ow+1)%N:Nat):Int):=by
 have e:(((ow%N:Nat):Int))+1=((ow%N+1:Nat):Int):=by omega
 rw [e,←Int.natCast_emod,Nat.mod_add_mod]
structure OrdJ (f:FL) (g:Option Nat) (W:List Nat) (nx ow:Nat):Prop where
 n8:f.s.n≤8
 nN:f.s.n≤f.sz
 dN:f.sz ∣ 4294967296
 sN:f.sz≤64
 pr:f.s.probed=false
 ws:f.ps.ws=((nx%4294967296:Nat):Int)::slotsL f.sz (turnO g ow f.sz)
 ac:f.ps.ac.length=f.s.n
 nodup:(g.toList++W).Nodup
 lt:∀ k∈g.toList++W,k<f.s.n
 num:∀ (i k:Nat),(g.toList++W)[i]? =some k→f.own k=(((ow+i)%f.sz:Nat):Int)
 nxt:nx=ow+(g.toList++W).length
 dr:∀ k,k<f.s.n→(f.pc k≠0↔k∈g.toList++W)
 p2:∀ k,k<f.s.n→f.pc k=2→g=some k∨(g=none∧∃ r,W=k::r)
 prg:∀ k,f.pc k=0∨f.pc k=1∨f.pc k=2
 stg:∀ k,g=some k→f.s.st k=2∨f.s.st k=3
 stw:∀ k∈W,f.s.st k=1
 sto:∀ k,k<f.s.n→k∉g.toList++W→f.s.st k=0∨f.s.st k=1
namespace OrdJ
variable {f:FL} {g:Option Nat} {W:List Nat} {nx ow:Nat} {L:Lp}
theorem len (h:OrdJ f g W nx ow):(g.toList++W).length≤f.s.n:=by
 have h1:(g.toList++W).length≤(List.range f.s.n).length:=List.Nodup.length_le_of_subset h.nodup λk hk=>List.mem_range.2 (h.lt k hk)
 rw [List.length_range] at h1
 exact h1
theorem pos (h:OrdJ f g W nx ow):0<f.sz:=Nat.pos_of_dvd_of_pos h.dN (by decide)
theorem held (h:OrdJ f g W nx ow) {k:Nat} (hk:k<f.s.n) (hs:f.s.st k=2∨f.s.st k=3):g=some k:=by
 by_cases hm:k∈g.toList++W
 ·rcases List.mem_append.1 hm with hm|hm
  ·simpa using hm
  ·have:=h.stw k hm;omega
 ·have:=h.sto k hk hm;omega
theorem idle (h:OrdJ f g W nx ow) {k:Nat} (hk:k<f.s.n) (hs:f.s.st k=0):k∉g.toList++W:=λhm=>by
 rcases List.mem_append.1 hm with hm|hm
 ·have:=h.stg k (by simpa using hm);omega
 ·have:=h.stw k hm;omega
theorem stS (h:OrdJ f g W nx ow) (k:Nat) (x d:Int) (h0:k∉g.toList++W→x=0∨x=1) (h1:k∈W→x=1) (h2:g=some k→x=2∨x=3):OrdJ {f with s:=f.s.set k x d} g W nx ow:=by
 refine ⟨h.n8,h.nN,h.dN,h.sN,h.pr,h.ws,h.ac,h.nodup,h.lt,h.num,h.nxt,h.dr,h.p2,h.prg,λj hj=> ?_,λj hj=> ?_,λj hj hn=> ?_⟩
 ·show upd f.s.st k x j=2∨upd f.s.st k x j=3
  by_cases e:j=k
  ·subst e;rw [upd_same];exact h2 hj
  ·rw [upd_other _ _ e];exact h.stg j hj
 ·show upd f.s.st k x j=1
  by_cases e:j=k
  ·subst e;rw [upd_same];exact h1 hj
  ·rw [upd_other _ _ e];exact h.stw j hj
 ·show upd f.s.st k x j=0∨upd f.s.st k x j=1
  by_cases e:j=k
  ·subst e;rw [upd_same];exact h0 hn
  ·rw [upd_other _ _ e];exact h.sto j hj hn
theorem lock (h:OrdJ f g W nx ow) (t d:Int):OrdJ (f.lock t d) g W nx ow:=by
 unfold FL.lock SS.lock
 split
 ·rename_i he
  unfold lockE at he
  split at he
  ·rename_i hc
   split at he
   ·rename_i hs
    have hk:t.toNat<f.s.n:=by omega
    have hn:=h.idle hk hs
    exact h.stS _ _ _ (λ_=> .inr rfl) (λ_=>rfl) λe=>absurd (List.mem_append_left W (by rw [e];simp)) hn
   ·omega
  ·omega
 ·exact h
theorem turn (h:OrdJ f g W nx ow) (t:Int):OrdJ (f.turn t 3) g W nx ow:=by
 unfold FL.turn SS.turn
 split
 ·rename_i he
  unfold turnE at he
  split at he
  ·rename_i hc
   split at he
   ·omega
   ·split at he
    ·rename_i hs
     have hk:t.toNat<f.s.n:=by omega
     have hg:=h.held hk (.inl hs)
     refine h.stS _ _ _ (λhn=>absurd (List.mem_append_left W (by rw [hg];simp)) hn) (λhw=> ?_) λ_=> .inr rfl
     have:=h.stw _ hw
     omega
    ·omega
  ·omega
 ·exact h
theorem psS (h:OrdJ f g W nx ow) {ps:PSta} (hw:ps.ws=f.ps.ws) (ha:ps.ac.length=f.ps.ac.length):OrdJ {f with ps:=ps} g W nx ow:=
 ⟨h.n8,h.nN,h.dN,h.sN,h.pr,hw.trans h.ws,ha.trans h.ac,h.nodup,h.lt,h.num,h.nxt,h.dr,h.p2,h.prg,h.stg,h.stw,h.sto⟩
theorem enq (h:OrdJ f g W nx ow) {k:Nat} (hk:k<f.s.n) (hs:f.s.st k=1) (hd:f.pc k=0) {ps:PSta} (hw:ps.ws=(((nx%4294967296:Nat):Int)+1)%4294967296::slotsL f.sz (turnO g ow f.sz)) (ha:ps.ac.length=f.ps.ac.length):
  OrdJ {f with pc:=upd f.pc k 1,own:=upd f.own k ((nx%4294967296:Nat)%(f.sz:Int)),ps:=ps} g (W++[k]) (nx+1) ow:=by
 have hn:k∉g.toList++W:=λe=>(h.dr k hk).2 e hd
 refine ⟨h.n8,h.nN,h.dN,h.sN,h.pr,?_,ha.trans h.ac,?_,?_,?_,?_,?_,?_,?_,h.stg,?_,?_⟩
 ·show ps.ws=_::slotsL f.sz _
  rw [hw]
  congr 1
  omega
 ·rw [←List.append_assoc,List.nodup_append]
  exact ⟨h.nodup,by simp,λa h1 b h2 e=>by rw [List.mem_singleton] at h2;subst e;subst h2;exact hn h1⟩
 ·intro j hj
  rw [←List.append_assoc,List.mem_append,List.mem_singleton] at hj
  rcases hj with hj|rfl
  ·exact h.lt j hj
  ·exact hk
 ·intro i j hj
  rw [←List.append_assoc] at hj
  show upd f.own k _ j=_
  by_cases hi:i<(g.toList++W).length
  ·rw [List.getElem?_append_left hi] at hj
   have hm:=List.mem_of_getElem? hj
   rw [upd_other _ _ (λe=>by subst e;exact hn hm)]
   exact h.num i j hj
  ·rw [List.getElem?_append_right (by omega)] at hj
   have hi2:i-(g.toList++W).length=0:=by
    have:=(List.getElem?_eq_some_iff.1 hj).1
    simpa using this
   rw [hi2] at hj
   obtain rfl:k=j:=by simpa using hj
   rw [upd_same,slot_of h.dN,h.nxt,show i=(g.toList++W).length by omega]
 ·have e:((g.toList++W)++[k]).length=(g.toList++W).length+1:=by rw [List.length_append,List.length_singleton]
  rw [h.nxt,←List.append_assoc,e]
  omega
 ·intro j hj
  show upd f.pc k 1 j≠0↔_
  rw [←List.append_assoc,List.mem_append,List.mem_singleton]
  by_cases e:j=k
  ·subst e;rw [upd_same];simp
  ·rw [upd_other _ _ e,h.dr j hj];simp [e]
 ·intro j hj hp
  replace hp:upd f.pc k 1 j=2:=hp
  by_cases e:j=k
  ·subst e;rw [upd_same] at hp;omega
  ·rw [upd_other _ _ e] at hp
   rcases h.p2 j hj hp with q|⟨q,r,hr⟩
   ·exact .inl q
   ·exact .inr ⟨q,r++[k],by rw [hr];rfl⟩
 ·intro j
  show upd f.pc k 1 j=0∨upd f.pc k 1 j=1∨upd f.pc k 1 j=2
  by_cases e:j=k
  ·subst e;rw [upd_same];exact .inr (.inl rfl)
  ·rw [upd_other _ _ e];exact h.prg j
 ·intro j hj
  rw [List.mem_append,List.mem_singleton] at hj
  rcases hj with hj|rfl
  ·exact h.stw j hj
  ·exact hs
 ·intro j hj hnj
  rw [←List.append_assoc,List.mem_append,not_or] at hnj
  exact h.sto j hj hnj.1
theorem ownN (h:OrdJ f g W nx ow) {k:Nat} (hm:k∈g.toList++W):∃ o:Nat,o<f.sz∧f.own k=(o:Int):=by
 obtain ⟨i,hi⟩:=List.getElem?_of_mem hm
 exact ⟨_,Nat.mod_lt _ h.pos,h.num i k hi⟩
theorem waits (h:OrdJ f g W nx ow) {k:Nat} (hk:k<f.s.n) (hs:f.s.st k=1) (hp:f.pc k≠0):k∈W:=by
 rcases List.mem_append.1 ((h.dr k hk).1 hp) with hm|hm
 ·have:=h.stg k (by simpa using hm);omega
 ·exact hm
theorem first (h:OrdJ f g W nx ow) {k o:Nat} (hm:k∈W) (ho:f.own k=(o:Int)) (he:turnO g ow f.sz=some o):g=none∧∃ W',W=k::W'∧k∉W':=by
 have hnd:=h.nodup
 cases g with
 |some a=>cases he
 |none=>
  obtain ⟨i,hi⟩:=List.getElem?_of_mem hm
  have hlt:=(List.getElem?_eq_some_iff.1 hi).1
  have hl:=h.len
  have hN:=h.nN
  have hn:=h.num i k hi
  rw [ho] at hn
  have e1:ow%f.sz=o:=by simpa [turnO] using he
  have e2:ow%f.sz=(ow+i)%f.sz:=by omega
  have hi0:i<f.sz:=by simp at hl;omega
  obtain rfl:i=0:=slot_same hi0 e2
  refine ⟨rfl,?_⟩
  cases W with
  |nil=>simp at hi
  |cons a r=>
   obtain rfl:a=k:=by simpa using hi
   exact ⟨r,rfl,by simpa using (List.nodup_cons.1 hnd).1⟩
theorem look {k:Nat} (h:OrdJ f none (k::W) nx ow) {ps:PSta} (hw:ps.ws=f.ps.ws) (ha:ps.ac.length=f.ps.ac.length):
  OrdJ {f with pc:=upd f.pc k 2,ps:=ps} none (k::W) nx ow:=by
 refine ⟨h.n8,h.nN,h.dN,h.sN,h.pr,hw.trans h.ws,ha.trans h.ac,h.nodup,h.lt,h.num,h.nxt,λj hj=> ?_,λj hj hp=> ?_,λj=> ?_,h.stg,h.stw,h.sto⟩
 ·show upd f.pc k 2 j≠0↔_
  by_cases e:j=k
  ·subst e;rw [upd_same];simp
  ·rw [upd_other _ _ e];exact h.dr j hj
 ·replace hp:upd f.pc k 2 j=2:=hp
  by_cases e:j=k
  ·subst e;exact .inr ⟨rfl,W,rfl⟩
  ·rw [upd_other _ _ e] at hp;exact h.p2 j hj hp
 ·show upd f.pc k 2 j=0∨upd f.pc k 2 j=1∨upd f.pc k 2 j=2
  by_cases e:j=k
  ·subst e;rw [upd_same];exact .inr (.inr rfl)
  ·rw [upd_other _ _ e];exact h.prg j
theorem grant {k:Nat} (h:OrdJ f none (k::W) nx ow) (hp:f.pc k=2) {ps:PSta} (hw:ps.ws=((nx%4294967296:Nat):Int)::slotsL f.sz none) (ha:ps.ac.length=f.ps.ac.length) (d:Int):
  OrdJ {f with s:=f.s.set k 2 d,ps:=ps} (some k) W nx ow:=by
 refine ⟨h.n8,h.nN,h.dN,h.sN,h.pr,hw,ha.trans h.ac,h.nodup,h.lt,h.num,h.nxt,h.dr,λj hj hq=> ?_,h.prg,λj hj=> ?_,λj hj=> ?_,λj hj hn=> ?_⟩
 ·rcases h.p2 j hj hq with q|⟨_,r,hr⟩
  ·cases q
  ·obtain rfl:k=j:=(List.cons.inj hr).1
   exact .inl rfl
 ·obtain rfl:k=j:=by simpa using hj
  exact .inl (upd_same _ _ _)
 ·show upd f.s.st k 2 j=1
  rw [upd_other _ _ (λe=>by subst e;exact (List.nodup_cons.1 h.nodup).1 hj)]
  exact h.stw j (List.mem_cons_of_mem _ hj)
 ·show upd f.s.st k 2 j=0∨upd f.s.st k 2 j=1
  rw [upd_other _ _ (λe=>by subst e;exact hn (by simp))]
  exact h.sto j hj hn
theorem free {k:Nat} (h:OrdJ f (some k) W nx ow) {ps:PSta} (hw:ps.ws=((nx%4294967296:Nat):Int)::slotsL f.sz (some ((ow+1)%f.sz))) (ha:ps.ac.length=f.ps.ac.length) (d:Int):
  OrdJ {f with s:=f.s.set k 0 d,pc:=upd f.pc k 0,own:=upd f.own k 0,ps:=ps} none W nx (ow+1):=by
 have hnW:k∉W:=(List.nodup_cons.1 h.nodup).1
 refine ⟨h.n8,h.nN,h.dN,h.sN,h.pr,hw,ha.trans h.ac,(List.nodup_cons.1 h.nodup).2,λj hj=>h.lt j (List.mem_append_right _ hj),λi j hj=> ?_,?_,λj hj=> ?_,λj hj hp=> ?_,λj=> ?_,λj hj=>(by cases hj),λj hj=> ?_,λj hj hn=> ?_⟩
 ·show upd f.own k 0 j=_
  have hm:j∈W:=List.mem_of_getElem? hj
  rw [upd_other _ _ (λe=>by subst e;exact hnW hm),h.num (i+1) j (by simpa using hj),show ow+(i+1)=ow+1+i by omega]
 ·rw [h.nxt]
  simp only [Option.toList_some,Option.toList_none,List.length_append,List.length_singleton,List.length_nil]
  omega
 ·show upd f.pc k 0 j≠0↔_
  by_cases e:j=k
  ·subst e;rw [upd_same];simp [hnW]
  ·rw [upd_other _ _ e,h.dr j hj];simp [e]
 ·replace hp:upd f.pc k 0 j=2:=hp
  by_cases e:j=k
  ·subst e;rw [upd_same] at hp;omega
  ·rw [upd_other _ _ e] at hp
   rcases h.p2 j hj hp with q|⟨q,_⟩
   ·exact absurd (by simpa using q:k=j) λx=>e x.symm
   ·cases q
 ·show upd f.pc k 0 j=0∨upd f.pc k 0 j=1∨upd f.pc k 0 j=2
  by_cases e:j=k
  ·subst e;rw [upd_same];exact .inl rfl
  ·rw [upd_other _ _ e];exact h.prg j
 ·show upd f.s.st k 0 j=1
  rw [upd_other _ _ (λe=>by subst e;exact hnW hj)]
  exact h.stw j hj
 ·show upd f.s.st k 0 j=0∨upd f.s.st k 0 j=1
  by_cases e:j=k
  ·subst e;rw [upd_same];exact .inl rfl
  ·rw [upd_other _ _ e]
   exact h.sto j hj (by simpa [e] using hn)
theorem at_none {t:Int} (hk:¬ ((0:Int)≤t∧t<f.s.n)):f.did L t t=Dd.no∧f.step L t t=f:=by
 have e:f.did L t t=Dd.no:=by unfold FL.did;rw [if_neg hk]
 have em:f.mid L t t=f:=by unfold FL.mid;rw [if_neg hk]
 refine ⟨e,?_⟩
 have e0:f.s.fin t Dd.no.ev=f.s:=by
  have e0:endO f.s t Dd.no.ev=none:=by unfold endO;rw [if_neg hk]
  unfold SS.fin
  rw [e0]
 unfold FL.step
 rw [e,em,e0]
theorem at_idle (h:OrdJ f g W nx ow) {k:Nat} (hk:k<f.s.n) (s0:f.s.st k≠1) (s3:f.s.st k≠3):f.did L k k=Dd.no∧f.step L k k=f:=by
 have ht:(0:Int)≤(k:Int)∧(k:Int)<f.s.n:=by omega
 have e:f.did L k k=Dd.no:=by
  unfold FL.did
  rw [if_pos ht,Int.toNat_natCast,if_neg s0,if_neg s3]
 have em:f.mid L k k=f:=by
  unfold FL.mid
  rw [if_pos ht,Int.toNat_natCast,if_neg s0,if_neg s3]
 refine ⟨e,?_⟩
 unfold FL.step
 rw [e,em,fin_none (by
  unfold behindI
  rw [if_neg (λe=>s0 e.1),if_neg (λe=>s0 e.1),if_neg (λe=>s3 e.1),if_neg (λe=>e.2.elim (λq=>absurd q (by decide)) λq=>absurd q (by decide))])]
theorem at_draw (h:OrdJ f g W nx ow) (h1:L.a1=0) {k:Nat} (hk:k<f.s.n) (s1:f.s.st k=1) (hd:f.pc k=0):
  f.did L k k=⟨0,true,false,false⟩∧f.step L k k={f with pc:=upd f.pc k 1,own:=upd f.own k ((nx%4294967296:Nat)%(f.sz:Int)),ps:=doS f.ps k 5 0 0 1}:=by
 have ht:(0:Int)≤(k:Int)∧(k:Int)<f.s.n:=by omega
 have e:f.did L k k=⟨0,true,false,false⟩:=by
  unfold FL.did FL.acqD
  rw [if_pos ht,Int.toNat_natCast,if_pos s1,if_pos hd]
 have em:f.mid L k k={f with pc:=upd f.pc k 1,own:=upd f.own k ((nx%4294967296:Nat)%(f.sz:Int)),ps:=doS f.ps k 5 0 0 1}:=by
  unfold FL.mid FL.acq
  rw [if_pos ht,Int.toNat_natCast,if_pos s1,if_pos hd,h1,(do_add h.ws (by rw [h.ac];exact hk)).1]
 refine ⟨e,?_⟩
 unfold FL.step
 rw [e,em,fin_none (by rw [s1];rfl)]
theorem sees (h:OrdJ f g W nx ow) (h2:L.a2=1) {k o:Nat} (hk:k<f.s.n) (ho:f.own k=(o:Int)) (o1:o<f.sz):
  tellS f.ps k 1 (L.a2+f.own k)=(if turnO g ow f.sz=some o then 1 else 0)∧(doS f.ps k 1 (L.a2+f.own k) 0 0).ws=f.ps.ws∧(doS f.ps k 1 (L.a2+f.own k) 0 0).ac.length=f.ps.ac.length∧(doS f.ps k 1 (L.a2+f.own k) 0 0).D.length=f.ps.D.length+1:=by
 have hl:(1+o)<f.ps.ws.length:=by rw [h.ws,List.length_cons,slots_len];omega
 obtain ⟨a,b,c,d⟩:=do_load (a:=L.a2+f.own k) (i:=1+o) rfl (show k<f.ps.ac.length by rw [h.ac];exact hk) (by rw [h2,ho];omega) hl
 refine ⟨?_,b,c,d⟩
 rw [a,h.ws,Nat.add_comm 1 o,List.getD_cons_succ,slots_get _ _ o1]
theorem at_look (h:OrdJ f g W nx ow) (h2:L.a2=1) {k o:Nat} (hk:k<f.s.n) (s1:f.s.st k=1) (hd:f.pc k=1) (ho:f.own k=(o:Int)) (o1:o<f.sz) (he:turnO g ow f.sz=some o):
  f.did L k k=Dd.no∧f.step L k k={f with pc:=upd f.pc k 2,ps:=doS f.ps k 1 (L.a2+f.own k) 0 0}:=by
 have ht:(0:Int)≤(k:Int)∧(k:Int)<f.s.n:=by omega
 have e1:=(h.sees h2 hk ho o1).1
 rw [if_pos he] at e1
 have e:f.did L k k=Dd.no:=by
  unfold FL.did FL.acqD
  rw [if_pos ht,Int.toNat_natCast,if_pos s1,if_neg (by omega),if_pos hd]
 have em:f.mid L k k={f with pc:=upd f.pc k 2,ps:=doS f.ps k 1 (L.a2+f.own k) 0 0}:=by
  unfold FL.mid FL.acq
  rw [if_pos ht,Int.toNat_natCast,if_pos s1,if_neg (by omega),if_pos hd,if_neg (by rw [e1];decide)]
 refine ⟨e,?_⟩
 unfold FL.step
 rw [e,em,fin_none (by rw [s1];rfl)]
theorem at_wait (h:OrdJ f g W nx ow) (h2:L.a2=1) {k o:Nat} (hk:k<f.s.n) (s1:f.s.st k=1) (hd:f.pc k=1) (ho:f.own k=(o:Int)) (o1:o<f.sz) (he:turnO g ow f.sz≠some o):
  f.did L k k=Dd.no∧f.step L k k={f with ps:=doS f.ps k 1 (L.a2+f.own k) 0 0}:=by
 have ht:(0:Int)≤(k:Int)∧(k:Int)<f.s.n:=by omega
 have e1:=(h.sees h2 hk ho o1).1
 rw [if_neg he] at e1
 have e:f.did L k k=Dd.no:=by
  unfold FL.did FL.acqD
  rw [if_pos ht,Int.toNat_natCast,if_pos s1,if_neg (by omega),if_pos hd]
 have em:f.mid L k k={f with ps:=doS f.ps k 1 (L.a2+f.own k) 0 0}:=by
  unfold FL.mid FL.acq
  rw [if_pos ht,Int.toNat_natCast,if_pos s1,if_neg (by omega),if_pos hd,if_pos e1]
 refine ⟨e,?_⟩
 unfold FL.step
 rw [e,em,fin_none (by rw [s1];rfl)]
theorem at_turn {k:Nat} (h:OrdJ f none (k::W) nx ow) (h2:L.a2=1) (hk:k<f.s.n) (s1:f.s.st k=1) (hd:f.pc k=2):
  f.did L k k=⟨1,false,false,false⟩∧f.step L k k={f with s:=f.s.set k 2 0,ps:=doS f.ps k 2 (L.a2+f.own k) 0 0}∧(doS f.ps k 2 (L.a2+f.own k) 0 0).ws=((nx%4294967296:Nat):Int)::slotsL f.sz none∧(doS f.ps k 2 (L.a2+f.own k) 0 0).ac.length=f.ps.ac.length∧(doS f.ps k 2 (L.a2+f.own k) 0 0).D.length=f.ps.D.length+1:=by
 have ht:(0:Int)≤(k:Int)∧(k:Int)<f.s.n:=by omega
 have hp:=h.pos
 have ho:f.own k=((ow%f.sz:Nat):Int):=h.num 0 k rfl
 have hlt:=Nat.mod_lt ow hp
 have hl:(1+ow%f.sz)<f.ps.ws.length:=by rw [h.ws,List.length_cons,slots_len];omega
 obtain ⟨b,c,d⟩:=do_store (a:=L.a2+f.own k) (i:=1+ow%f.sz) (v:=0) rfl (show k<f.ps.ac.length by rw [h.ac];exact hk) (by rw [h2,ho];omega) hl
 have e:f.did L k k=⟨1,false,false,false⟩:=by
  unfold FL.did FL.acqD
  rw [if_pos ht,Int.toNat_natCast,if_pos s1,if_neg (by omega),if_neg (by omega)]
 have em:f.mid L k k={f with ps:=doS f.ps k 2 (L.a2+f.own k) 0 0}:=by
  unfold FL.mid FL.acq
  rw [if_pos ht,Int.toNat_natCast,if_pos s1,if_neg (by omega),if_neg (by omega)]
 refine ⟨e,?_,?_,c,d⟩
 ·unfold FL.step
  rw [e,em,fin_some hk (by rw [s1];rfl:behindI (f.s.st k) 1=some 2)]
 ·rw [b,h.ws,Nat.add_comm 1 _,List.set_cons_succ]
  congr 1
  exact slots_take _ _
theorem at_free {k:Nat} (h:OrdJ f (some k) W nx ow) (h2:L.a2=1) (hk:k<f.s.n) (s3:f.s.st k=3):
  f.did L k k=⟨3,false,false,false⟩∧f.step L k k={f with s:=f.s.set k 0 0,pc:=upd f.pc k 0,own:=upd f.own k 0,ps:=doS f.ps k 2 (L.a2+(f.own k+1)%f.sz) 0 1}∧
   (doS f.ps k 2 (L.a2+(f.own k+1)%f.sz) 0 1).ws=((nx%4294967296:Nat):Int)::slotsL f.sz (some ((ow+1)%f.sz))∧(doS f.ps k 2 (L.a2+(f.own k+1)%f.sz) 0 1).ac.length=f.ps.ac.length∧(doS f.ps k 2 (L.a2+(f.own k+1)%f.sz) 0 1).D.length=f.ps.D.length+1:=by
 have ht:(0:Int)≤(k:Int)∧(k:Int)<f.s.n:=by omega
 have hp:=h.pos
 have ho:f.own k=((ow%f.sz:Nat):Int):=h.num 0 k rfl
 have ho2:(f.own k+1)%(f.sz:Int)=(((ow+1)%f.sz:Nat):Int):=by rw [ho,slot_next]
 have hlt:=Nat.mod_lt (ow+1) hp
 have hl:(1+(ow+1)%f.sz)<f.ps.ws.length:=by rw [h.ws,List.length_cons,slots_len];omega
 obtain ⟨b,c,d⟩:=do_store (a:=L.a2+(f.own k+1)%f.sz) (i:=1+(ow+1)%f.sz) (v:=1) rfl (show k<f.ps.ac.length by rw [h.ac];exact hk) (by rw [h2,ho2];omega) hl
 have e:f.did L k k=⟨3,false,false,false⟩:=by
  unfold FL.did
  rw [if_pos ht,Int.toNat_natCast,if_neg (by omega),if_pos s3]
 have em:f.mid L k k=f.rel L k k:=by
  unfold FL.mid
  rw [if_pos ht,Int.toNat_natCast,if_neg (by omega),if_pos s3]
 refine ⟨e,?_,?_,c,d⟩
 ·unfold FL.step
  rw [e,em,fin_some hk (by rw [s3];rfl:behindI (f.s.st k) 3=some 0)]
  rfl
 ·rw [b,h.ws,Nat.add_comm 1 _,List.set_cons_succ]
  congr 1
  exact slots_put _ _
inductive StepQ (W:List Nat) (t:Int) (d:Dd) (W':List Nat):Prop where
 |same (h0:d.enq=false) (h1:d.ev≠1) (h2:d.ev≠2) (e:W'=W):StepQ W t d W'
 |enq (hd:d=⟨0,true,false,false⟩) (k:Nat) (ht:t=k) (e:W'=W++[k]):StepQ W t d W'
 |grant (hd:d=⟨1,false,false,false⟩) (k:Nat) (ht:t=k) (e:W=k::W') (hn:k∉W'):StepQ W t d W'
theorem step (h:OrdJ f g W nx ow) (h1:L.a1=0) (h2:L.a2=1) (t:Int):
  ∃ g' W' nx' ow',OrdJ (f.step L t t) g' W' nx' ow'∧(f.step L t t).ps.D.length≤f.ps.D.length+1∧StepQ W t (f.did L t t) W':=by
 by_cases ht:0≤t∧t<f.s.n
 ·obtain ⟨k,rfl⟩:=Int.eq_ofNat_of_zero_le ht.1
  have hk:k<f.s.n:=by omega
  by_cases s1:f.s.st k=1
  ·by_cases p0:f.pc k=0
   ·obtain ⟨_,e2,e3,e4⟩:=do_add h.ws (show k<f.ps.ac.length by rw [h.ac];exact hk)
    obtain ⟨d1,d2⟩:=h.at_draw h1 hk s1 p0
    rw [d1,d2]
    exact ⟨g,W++[k],nx+1,ow,h.enq hk s1 p0 e2 e3,Nat.le_of_eq e4,.enq rfl k rfl rfl⟩
   ·have hm:=h.waits hk s1 p0
    obtain ⟨o,o1,ho⟩:=h.ownN (List.mem_append_right _ hm)
    rcases h.prg k with q|q|q
    ·exact absurd q p0
    ·obtain ⟨_,a2,a3,a4⟩:=h.sees h2 hk ho o1
     by_cases he:turnO g ow f.sz=some o
     ·obtain ⟨d1,d2⟩:=h.at_look h2 hk s1 q ho o1 he
      obtain ⟨rfl,W',rfl,hn⟩:=h.first hm ho he
      rw [d1,d2]
      exact ⟨none,k::W',nx,ow,h.look a2 a3,Nat.le_of_eq a4,.same rfl (by decide) (by decide) rfl⟩
     ·obtain ⟨d1,d2⟩:=h.at_wait h2 hk s1 q ho o1 he
      rw [d1,d2]
      exact ⟨g,W,nx,ow,h.psS a2 a3,Nat.le_of_eq a4,.same rfl (by decide) (by decide) rfl⟩
    ·rcases h.p2 k hk q with e|⟨rfl,W',rfl⟩
     ·have:=h.stg k e;omega
     ·obtain ⟨d1,d2,d3,d4,d5⟩:=h.at_turn h2 hk s1 q
      rw [d1,d2]
      exact ⟨some k,W',nx,ow,h.grant q d3 d4 0,Nat.le_of_eq d5,.grant rfl k rfl rfl (List.nodup_cons.1 h.nodup).1⟩
  ·by_cases s3:f.s.st k=3
   ·obtain rfl:=h.held hk (.inr s3)
    obtain ⟨d1,d2,d3,d4,d5⟩:=h.at_free h2 hk s3
    rw [d1,d2]
    exact ⟨none,W,nx,ow+1,h.free d3 d4 0,Nat.le_of_eq d5,.same rfl (by decide) (by decide) rfl⟩
   ·obtain ⟨d1,d2⟩:=h.at_idle (L:=L) hk s1 s3
    rw [d1,d2]
    exact ⟨g,W,nx,ow,h,Nat.le_succ _,.same rfl (by decide) (by decide) rfl⟩
 ·obtain ⟨d1,d2⟩:=at_none (L:=L) ht
  rw [d1,d2]
  exact ⟨g,W,nx,ow,h,Nat.le_succ _,.same rfl (by decide) (by decide) rfl⟩
end OrdJ
def OrdI (f:FL) (W:List Nat):Prop:=∃ g nx ow,OrdJ f g W nx ow
namespace OrdI
variable {f:FL} {W:List Nat} {L:Lp}
theorem lock (h:OrdI f W) (t d:Int):OrdI (f.lock t d) W:=by obtain ⟨g,nx,ow,h⟩:=h;exact ⟨g,nx,ow,h.lock t d⟩
theorem unlock (h:OrdI f W) (t:Int):OrdI (f.turn t 3) W:=by obtain ⟨g,nx,ow,h⟩:=h;exact ⟨g,nx,ow,h.turn t⟩
theorem step (h:OrdI f W) (h1:L.a1=0) (h2:L.a2=1) (t:Int):∃ W',OrdI (f.step L t t) W'∧(f.step L t t).ps.D.length≤f.ps.D.length+1∧OrdJ.StepQ W t (f.did L t t) W':=by
 obtain ⟨g,nx,ow,h⟩:=h
 obtain ⟨g',W',nx',ow',a,b,c⟩:=h.step h1 h2 t
 exact ⟨W',⟨g',nx',ow',a⟩,b,c⟩
theorem one (h:OrdI f W) {j k:Nat} (hj:j<f.s.n) (hk:k<f.s.n) (ej:f.s.st j=2) (ek:f.s.st k=2):j=k:=by
 obtain ⟨g,nx,ow,h⟩:=h
 have h1:=h.held hj (.inl ej)
 have h2:=h.held hk (.inl ek)
 rw [h1] at h2
 simpa using h2
end OrdI
set_option maxHeartbeats 8000000
open _root_.Go.Proofs.Tryz Go.Deep
open Go.RowKit Go.BigFrame
abbrev lkO (p:Nat) (x y:Int) (sz tb n:Nat):Array Value:= #[.pointer (some ⟨p,0,none⟩),.pointer none,.int .i64 x,.int .i64 y,.int .i64 (sz:Nat),.slice (some ⟨tb,0,none⟩) n n]
def homeR (zs:List Int) (n k:Nat):List Int:=(List.range k).map λi=>zs.getD (i%n) 0
def slotR (z k:Nat):List Int:=(List.range k).map λi=>if z=i then 1 else 0
theorem homeR_more (zs:List Int) (n k:Nat):homeR zs n (k+1)=homeR zs n k++[zs.getD (k%n) 0]:=by unfold homeR;rw [List.range_succ,List.map_append];rfl
theorem slotR_more (z k:Nat):slotR z (k+1)=slotR z k++[if z=k then 1 else 0]:=by unfold slotR;rw [List.range_succ,List.map_append];rfl
theorem homeR_len (zs:List Int) (n k:Nat):(homeR zs n k).length=k:=by simp [homeR]
theorem slotR_all (z N:Nat):slotR z N=slotsL N (some z):=by unfold slotR slotsL;simp
structure LaySt (w:World) (q:Pl) (t:Int) (lb b o n:Nat) (zs:List Int) (cs:Array Value) (hs vs:List Int) (wr:World):Prop where
 plan:∃ q':Pl,q'.p=q.p∧PlanAt wr q' t hs vs∧Came w q.F q'.F
 kp:Wr (λj=>q.F j∨j=lb) w wr
 obj:wr.heap[lb]? =some (.cells cs 119 (0,0))
 row:RowAt .i64 wr (some ⟨b,o,none⟩) n zs
 lt:lb<w.heap.size∧b<w.heap.size
 ne:¬ q.F lb∧¬ q.F b∧b≠lb
namespace LaySt
variable {w wr w':World} {q:Pl} {t:Int} {lb b o n:Nat} {zs:List Int} {cs:Array Value} {hs vs:List Int}
theorem far (h:LaySt w q t lb b o n zs cs hs vs wr) {q':Pl} (c:Came w q.F q'.F):¬ q'.F lb∧¬ q'.F b:=by
 have hl:=h.lt
 have hn:=h.ne
 refine ⟨λe=> ?_,λe=> ?_⟩
 ·rcases c _ e with e|e
  ·exact hn.1 e
  ·omega
 ·rcases c _ e with e|e
  ·exact hn.2.1 e
  ·omega
theorem set (h:LaySt w q t lb b o n zs cs hs vs wr) (i:Nat) (v:Value):LaySt w q t lb b o n zs (cs.setIfInBounds i v) hs vs (wr.setCell ⟨lb,i,none⟩ v):=by
 obtain ⟨q',hq,hP,hC⟩:=h.plan
 obtain ⟨f1,f2⟩:=h.far hC
 have k:Wr (One lb) wr (wr.setCell ⟨lb,i,none⟩ v):=(Wr.refl _ _).setCell _ _ λ_=>rfl
 refine ⟨⟨q',hq,hP.wrote k λj hj e=>by cases e;exact f1 hj,hC⟩,h.kp.trans k λj _ e=> .inr e,blk_setCell h.obj i v,h.row.wrote k λa ha e=> ?_,h.lt,h.ne⟩
 cases ha
 exact h.ne.2.2 e
theorem size {p sz tb m:Nat} {x y:Int} (h:LaySt w q t lb b o n zs (lkO p x y sz tb m) hs vs wr):wr.cell? ⟨lb,4,none⟩=some (.int .i64 (sz:Nat)):=by rw [blk_cell h.obj];rfl
theorem home (h:LaySt w q t lb b o n zs cs hs vs wr) {j:Nat} (hj:j<n):wr.cell? ⟨b,o+j,none⟩=some (.int .i64 (zs.getD j 0)):=by
 rcases h.row.at with h0|⟨b',o',e,hc⟩
 ·omega
 ·cases e
  exact hc j hj
end LaySt
def LayPost (w:World) (q:Pl) (t:Int) (lb b o n:Nat) (zs:List Int) (cs:Array Value) (hs vs:List Int) (r:Value) (e:Ending) (w':World):Prop:=e= .returned r∧LaySt w q t lb b o n zs cs hs vs w'
section
variable {w wr:World} {q:Pl} {t:Int} {lb b o n:Nat} {zs:List Int} {cs:Array Value} {hs vs:List Int}
theorem ly_word (h:LaySt w q t lb b o n zs cs hs vs wr) (x v:Int) (hL:hs.length≤1000000):
  Calls prog 50 #[.pointer (some ⟨q.p,0,none⟩),.int .i64 x,.int .u32 v] wr (LayPost w q t lb b o n zs cs (hs++[x]) (vs++[v]) (.int .i64 (hs.length:Nat))):=by
 obtain ⟨q',hq,hP,hC⟩:=h.plan
 obtain ⟨f1,f2⟩:=h.far hC
 have c:=plword_any hP x v hL
 rw [hq] at c
 refine c.mono ?_
 intro e w2 hp
 unfold PlanPost at hp
 obtain ⟨rfl,q2,hq2,hP2,hW,hC2⟩:=hp
 refine ⟨rfl,⟨q2,hq2.trans hq,hP2,hC.trans hC2 h.kp.size⟩,h.kp.trans hW λj hj e=> ?_,(hW.block _ (blk_lt h.obj) f1).trans h.obj,h.row.wrote hW λa ha e=> ?_,h.lt,h.ne⟩
 ·rcases hC j e with e|e
  ·exact .inl e
  ·omega
 ·cases ha
  exact f2 e
theorem ly_len (h:LaySt w q t lb b o n zs cs hs vs wr):
  Calls prog 71 #[.pointer (some ⟨q.p,0,none⟩)] wr λe w'=>e= .returned (.int .i64 (hs.length:Nat))∧wr=w':=by
 obtain ⟨q',hq,hP,hC⟩:=h.plan
 have c:=pllen_any hP
 rw [hq] at c
 exact c.mono λ_ _ h=>⟨h.1,h.2.symm⟩
end
theorem lay_any {w:World} {q:Pl} {t:Int} {lb b o n cap p tb sz:Nat} {zs:List Int} {hs vs:List Int} (h:LaySt w q t lb b o n zs (lkO p 0 0 sz tb n) hs vs w) (n1:1≤n) (n2:n≤64) (siz:sizeB sz=true) (s64:sz≤64) (hL:hs.length≤900000) {v:Int} (hv:0≤v∧v<4294967296) {z:Nat} (hz:v%(sz:Int)=(z:Int)):
  Calls prog 53 #[.pointer (some ⟨lb,0,none⟩),.pointer (some ⟨q.p,0,none⟩),.slice (some ⟨b,o,none⟩) n cap,.int .u32 v] w
   (LayPost w q t lb b o n zs (lkO p (hs.length:Nat) ((hs.length:Nat)+1) sz tb n) (hs++[zs.getD 0 0]++homeR zs n sz) (vs++[v]++slotR z sz) (.tuple #[])):=by
 have cS:=λW=>slot_yes v sz hv.1 hv.2 siz W
 rw [hz] at cS
 have hc:=h.row.cell ⟨b,o,none⟩ rfl 0 (by omega)
 have hc:w.cell? ⟨b,o,none⟩=some (.int .i64 (zs.getD 0 0)):=hc
 obtain ⟨x,hx⟩:∃ x,x=zs.getD 0 0:=⟨_,rfl⟩
 rw [←hx] at hc ⊢
 have cW:=ly_word h x v (by omega)
 have o0:=blk_cell h.obj
 have f2:=blk_frozen h.obj 2
 have HH:=Lib.hid h
 clear h hx hz
 have n0:(0:Nat)<n:=n1
 go_enter func53,ntmps53
 go_wp2_with (first
  |(go_at_call 50;(with_reducible refine cW.mono ?_);intro e w2 hq;unfold LayPost at hq;obtain ⟨rfl,hA⟩:=hq;have g2:=blk_frozen hA.obj 2;have q2:=(blk_cell hA.obj 2).trans rfl;have hA2:=hA.set 2 (.int .i64 (hs.length:Nat));have g3:=blk_frozen hA2.obj 3;have q3:=(blk_cell hA2.obj 3).trans rfl;have cL:=ly_len hA2;have hA3:LaySt w q t lb b o n zs (lkO p (hs.length:Nat) ((hs.length:Nat)+1) sz tb n) (hs++[x]) (vs++[v]) ((w2.setCell ⟨lb,2,none⟩ (.int .i64 (hs.length:Nat))).setCell ⟨lb,3,none⟩ (.int .i64 ((hs.length:Nat)+1))):=hA2.set 3 (.int .i64 ((hs.length:Nat)+1));have g4:=hA3.size;have HA:=Lib.hid hA3;rw [show (((hs++[x]).length:Nat):Int)=(hs.length:Int)+1 by simp] at cL;clear hA hA2 hA3)
  |(go_at_call 71;(with_reducible refine cL.mono ?_);rintro e w3 ⟨rfl,rfl⟩))
 clear cW cL hc o0 f2 g2 g3 q2 q3 n0
 go_loopw [8,9,28] (λ_ _ i wr=>∃ k:Nat,k≤sz∧i= .int .i64 k∧LaySt w q t lb b o n zs (lkO p (hs.length:Nat) ((hs.length:Nat)+1) sz tb n) (hs++[x]++homeR zs n k) (vs++[v]++slotR z k) wr) (λ_ _ i _=>sz-(intOf i).toNat)
 case atStart=>exact ⟨0,Nat.zero_le _,rfl,by simpa [homeR,slotR] using HA.out⟩
 case round=>
  clear HA HH g4
  obtain ⟨k,hk,rfl,hl⟩:=hrel
  by_cases hlt:k<sz
  ·have y4:=hl.size
   have hm:k%n<n:=Nat.mod_lt _ (by omega)
   have yc:=hl.home hm
   have cW:=λu=>ly_word hl (zs.getD (k%n) 0) u (by simp only [List.length_append,List.length_singleton,homeR_len];omega)
   have hmore:=homeR_more zs n k
   have smore:=slotR_more z k
   rw [List.append_assoc (hs++[x]),←hmore] at cW
   generalize zs.getD (k%n) 0=y at*
   have HL:=Lib.hid hl
   have htm:Int.tmod (k:Int) (n:Int)=((k%n:Nat):Int):=by rw [Int.tmod_eq_emod_of_nonneg (by omega)];rfl
   have HT:=Lib.hid htm
   clear hl hmore htm
   by_cases hkz:z=k
   ·subst hkz
    rw [if_pos rfl] at smore
    have cW:=cW 1
    rw [List.append_assoc (vs++[v]),←smore] at cW
    clear smore
    go_wp2_with (first
     |(go_at_call 72;(with_reducible refine (cS _).mono ?_);rintro e w3 ⟨rfl,rfl⟩)
     |(go_at_call 50;(with_reducible refine cW.mono ?_);intro e w2 hq;unfold LayPost at hq;obtain ⟨rfl,hA⟩:=hq;have HA:=Lib.hid hA;clear hA))
    go_roundw
    case rel=>exact ⟨z+1,by omega,by go_num,HA.out⟩
    case measure=>simp [intOf];omega
   ·have b1:((k:Int)==(z:Int))=false:=beq_false_of_ne (by omega)
    rw [if_neg hkz] at smore
    have cW:=cW 0
    rw [List.append_assoc (vs++[v]),←smore] at cW
    clear smore hkz
    go_wp2_with (first
     |(go_at_call 72;(with_reducible refine (cS _).mono ?_);rintro e w3 ⟨rfl,rfl⟩)
     |(go_at_call 50;(with_reducible refine cW.mono ?_);intro e w2 hq;unfold LayPost at hq;obtain ⟨rfl,hA⟩:=hq;have HA:=Lib.hid hA;clear hA))
    go_roundw
    case rel=>exact ⟨k+1,by omega,by go_num,HA.out⟩
    case measure=>simp [intOf];omega
  ·obtain rfl:k=sz:=by omega
   have HL:=Lib.hid hl
   clear hl
   go_wp2
   go_end0
   exact ⟨rfl,HL.out⟩
theorem i_pl:(prog.info? 240).map (λi=>(i.zero,i.size,i.bytes))=some (some (.agg #[.int .i64 0,.int .i64 0]),2,16):=by kernel_rfl
theorem made_tk (n:Nat):madeCells (Value.agg #[.int .i64 0,.int .i64 0]).cells (n*2)=(tks n (λ_=>0) (λ_=>0)).toArray:=by
 apply Array.ext'
 show (madeCells (#[.int .i64 0,.int .i64 0]:Array Value) (n*2)).toList=tks n (λ_=>0) (λ_=>0)
 apply List.ext_getElem?
 intro m
 by_cases hm:m<n*2
 ·have ha:m/2<n:=by omega
  have e:m=m/2*2+m%2:=by omega
  have h2:=tks_at n (λ_=>0) (λ_=>0) (k:=m/2) ha (j:=m%2) (Nat.mod_lt _ (by decide))
  rw [←e] at h2
  rw [h2]
  unfold madeCells
  rw [Array.toList_map,List.getElem?_map,Array.toList_range,List.getElem?_range hm]
  have:m%2=0∨m%2=1:=by omega
  rcases this with h|h<;>simp [h,tkC]
 ·rw [List.getElem?_eq_none (by simp [madeCells];omega),List.getElem?_eq_none (by unfold tks;rw [flat_len (tkC_len _ _),List.length_range];omega)]
def NewSlotsPost (w:World) (q:Pl) (t:Int) (hs vs:List Int) (n sz z:Nat) (zs:List Int) (v:Int) (e:Ending) (w':World):Prop:=
 ∃ (L:Lp) (q':Pl),e= .returned (.tuple #[.pointer (some ⟨L.lb,0,none⟩),.int .i64 0])∧FlRaw w' L (.pointer none) (newSeat n false false) sz (λ_=>0) (λ_=>0)∧
  (w.heap.size≤L.lb∧w.heap.size≤L.p∧w.heap.size≤L.b∧w.heap.size≤L.tb)∧L.a1=hs.length∧L.a2=hs.length+1∧q'.p=q.p∧PlanAt w' q' t (hs++[zs.getD 0 0]++homeR zs n sz) (vs++[v]++slotR z sz)∧Wr q.F w w'∧Came w q.F q'.F
theorem size_le {sz:Nat} (h:sizeB sz=true):1≤sz∧sz≤64:=by
 unfold sizeB at h
 have:=of_decide_eq_true h
 omega
theorem lay_start {w ws:World} {q:Pl} {t:Int} {hs vs:List Int} {b o n:Nat} {zs:List Int} (h:PlanAt w q t hs vs) (k:Wr Nil w ws) (hr:RowAt .i64 w (some ⟨b,o,none⟩) n zs) (hbl:b<w.heap.size) (hb:¬ q.F b) (A cs:Array Value) {lb:Nat} (hlb:lb=ws.heap.size+1):
  LaySt ((ws.alloc (.cells A 240)).alloc (.cells cs 119)) q t lb b o n zs cs hs vs ((ws.alloc (.cells A 240)).alloc (.cells cs 119)):=by
 have k2:Wr Nil w ((ws.alloc (.cells A 240)).alloc (.cells cs 119)):=(k.alloc _).alloc _
 have e1:(ws.alloc (.cells A 240)).heap.size=ws.heap.size+1:=nblk_alloc _ _
 have e2:((ws.alloc (.cells A 240)).alloc (.cells cs 119)).heap.size=ws.heap.size+1+1:=by rw [nblk_alloc,e1]
 have s1:=k.size
 refine ⟨⟨q,rfl,h.after k2,Came.refl _ _⟩,Wr.refl _ _,?_,hr.after k2,by omega,λe=>by have:=h.lt e;omega,hb,by omega⟩
 rw [hlb,←e1]
 exact blk_alloc_new _ _
theorem fn_end {w wq ws wr:World} {q:Pl} {t:Int} {hs vs:List Int} {b o n p sb sz z lb tb:Nat} {zs:List Int} {v:Int} {A:Array Value} (h:PlanAt w q t hs vs) (k1:Wr Nil w wq) (hS:SeatAt wq p sb (newSeat n false false)) (hp:w.heap.size≤p) (hsb:w.heap.size≤sb) (k2:Wr Nil wq ws) (htb:tb=ws.heap.size) (hlb:lb=ws.heap.size+1)
  (hA:(tks n (λ_=>0) (λ_=>0)).toArray=A) (siz:sizeB sz=true) (hL:hs.length≤900000) (cs:Array Value)
  (hl:LaySt ((ws.alloc (.cells A 240)).alloc (.cells cs 119)) q t lb b o n zs (lkO p (hs.length:Nat) ((hs.length:Nat)+1) sz tb n) (hs++[zs.getD 0 0]++homeR zs n sz) (vs++[v]++slotR z sz) wr):
  NewSlotsPost w q t hs vs n sz z zs v (.returned (.tuple #[.pointer (some ⟨lb,0,none⟩),.int .i64 0])) wr:=by
 subst hA
 generalize hX:(ws.alloc (.cells (tks n (λ_=>0) (λ_=>0)).toArray 240)).alloc (.cells cs 119)=X at hl
 have e1:(ws.alloc (.cells (tks n (λ_=>0) (λ_=>0)).toArray 240)).heap.size=ws.heap.size+1:=nblk_alloc _ _
 have e2:X.heap.size=ws.heap.size+1+1:=by rw [←hX,nblk_alloc,e1]
 have k3:Wr Nil ws X:=by rw [←hX];exact ((Wr.refl _ _).alloc _).alloc _
 have kX:Wr Nil w X:=(k1.nil k2).nil k3
 have hT:X.heap[tb]? =some (.cells (tks n (λ_=>0) (λ_=>0)).toArray 240 (0,0)):=by
  rw [←hX,htb,blk_alloc_lt _ _ _ (by rw [e1];omega)]
  exact blk_alloc_new _ _
 have s1:=k1.size
 have s2:=k2.size
 have s3:=k3.size
 have hF:∀ k,w.heap.size≤k→k≠lb→¬ (q.F k∨k=lb):=λk hk hk2 e=>by
  rcases e with e|e
  ·have:=h.lt e;omega
  ·exact hk2 e
 have l1:=blk_lt hS.obj
 have l2:=blk_lt hS.ctx
 have hne:=hS.ne
 have hSX:=hS.wrote ((k2.nil k3).mono λ_ _ e=>e.elim:Wr Nil wq X) id id
 obtain ⟨q',hq,hP,hC⟩:=hl.plan
 have hs1:=size_le siz
 refine ⟨⟨lb,p,sb,tb,hs.length,(hs.length:Int)+1,⟨0,0,0,0,0,0,0,0,0,0,0,0,.pointer none⟩,[]⟩,q',rfl,⟨hl.obj,hSX.wrote hl.kp (hF p hp (by omega)) (hF sb hsb (by omega)),(hl.kp.block _ (blk_lt hT) (hF tb (by omega) (by omega))).trans hT,⟨by dsimp only;omega,by dsimp only;omega,by dsimp only;omega,by dsimp only;omega,by dsimp only;omega⟩,λ_=>⟨.inl rfl,Int.le_refl _,by omega⟩,siz,by dsimp only;omega,⟨rfl,λ_=>(by decide:(0:Int)≠4)⟩⟩,⟨by dsimp only;omega,by dsimp only;omega,by dsimp only;omega,by dsimp only;omega⟩,rfl,rfl,hq,hP,?_,λj hj=> ?_⟩
 ·exact (kX.mono (λ_ _ e=>e.elim):Wr q.F w X).trans hl.kp λj hj e=>by
   rcases e with e|e
   ·exact e
   ·omega
 ·rcases hC j hj with e|e
  ·exact .inl e
  ·exact .inr (by omega)
theorem fn_new {w:World} {q:Pl} {t:Int} {hs vs:List Int} (h:PlanAt w q t hs vs) {b o n cap sz z:Nat} {zs:List Int} {v:Int} (hr:RowAt .i64 w (some ⟨b,o,none⟩) n zs) (ho:homesOK zs=true) (n1:1≤n) (n2:n≤64) (siz:sizeB sz=true) (nsz:n≤sz) (hL:hs.length≤900000) (hb:¬ q.F b) (hv:0≤v∧v<4294967296) (hz:v%(sz:Int)=(z:Int)):
  Calls prog 35 #[.pointer (some ⟨q.p,0,none⟩),.slice (some ⟨b,o,none⟩) n cap,.int .i64 (sz:Nat),.int .u32 v] w (NewSlotsPost w q t hs vs n sz z zs v):=by
 obtain ⟨i0,hi,hz0,hz1,hz2⟩:=info_parts i_pl
 have hmk:∀ w:World,(Instr.makeSlice 117 (.int .i64 (n:Int)) (.int .i64 (n:Int))).run prog w= .ok (.slice (some ⟨w.heap.size,0,none⟩) n n) (w.alloc (.cells (tks n (λ_=>0) (λ_=>0)).toArray 240)):=by
  intro w
  have h:=Go.run_make (P:=prog) w 117 240 i0 _ underlying117 hi hz0 .i64 .i64 n n (by omega) (by omega) (by rw [hz2];omega) (by omega)
  rw [hz1] at h
  simp only [Int.toNat_natCast] at h
  rw [made_tk n] at h
  exact h
 generalize hA:(tks n (λ_=>0) (λ_=>0)).toArray=A at hmk
 have s64:=(size_le siz).2
 have cS:=hm_seats (cap:=cap) hr ho false false n1 n2
 have hbx:b<w.heap.size:=World.block_lt_of_cell? w _ (hr.cell ⟨b,o,none⟩ rfl 0 (by omega))
 have HX:=Lib.hid (And.intro h (And.intro hr (And.intro hA (And.intro hbx (And.intro hb (And.intro siz (And.intro hv hz)))))))
 have siz2:=in_seven (sz:Int)
 rw [siz] at siz2
 clear h hr ho hA hb hz siz hbx
 go_enter func35,ntmps35
 go_wp2_with (first
  |(go_at_call 48;(with_reducible refine cS.mono ?_);intro e wq hq;unfold NewSeatPost at hq;obtain ⟨p,sb,rfl,hS,hp,hsb,hW⟩:=hq;have HS:=Lib.hid (And.intro hS (And.intro hp (And.intro hsb hW)));clear hS hp hsb hW cS)
  |(go_at_call 52;(with_reducible refine (sizes_seven wq).mono ?_);rintro e ws ⟨g,gc,rfl,hc,hbel⟩;have cC:=cn_any (cap:=gc) (row_seven hc) (sz:Int) (by omega);rw [siz2] at cC;have HB:=Lib.hid (Wr.ofBelow hbel);clear hc hbel)
  |(go_at_call 51;(with_reducible refine cC.mono ?_);rintro e w6 ⟨rfl,rfl⟩;clear cC)
  |(go_at_call 53;(with_reducible refine (lay_any (lay_start HX.out.1 (HS.out.2.2.2.nil HB.out) HX.out.2.1 HX.out.2.2.2.1 HX.out.2.2.2.2.1 A (lkO p 0 0 sz ws.heap.size n) rfl) n1 n2 HX.out.2.2.2.2.2.1 s64 hL HX.out.2.2.2.2.2.2.1 HX.out.2.2.2.2.2.2.2).mono ?_);intro e wr hq;unfold LayPost at hq;obtain ⟨rfl,hl⟩:=hq;have HL:=Lib.hid hl;clear hl))
 go_ret2
 obtain ⟨h,hr,hA,hbx,hb,siz,hv,hz⟩:=HX.out
 exact fn_end h HS.out.2.2.2 HS.out.1 HS.out.2.1 HS.out.2.2.1 HB.out rfl rfl hA siz hL _ HL.out
open _root_.Go.Proofs.Tryz
def Low (L:Lp) (k:Nat):Prop:=k<L.q.k3
theorem LkAt.low {w w':World} {L:Lp} {f:FL} (h:LkAt w L f) (k:Wr (LF L) w w'):Wr (Low L) w w':=k.mono λb _ e=>by
 have h1:=h.far
 have h2:=h.port.place.le
 unfold Low
 rcases e with rfl|rfl|e
 ·omega
 ·omega
 ·exact e.2
structure LkS (w0 w:World) (L:Lp) (f:FL):Prop where
 lk:LkAt w L f
 low:w0.heap.size≤L.lb∧w0.heap.size≤L.p∧w0.heap.size≤L.b∧w0.heap.size≤L.tb∧w0.heap.size≤L.q.k0
 wr:Wr Nil w0 w
namespace LkS
variable {w0 w w':World} {L:Lp} {f f':FL}
theorem after (h:LkS w0 w L f) (k:Wr Nil w w'):LkS w0 w' L f:=⟨h.lk.after k,h.low,h.wr.nil k⟩
theorem apart {S:Nat→Prop} (h:LkS w0 w L f) (k:Wr S w w') (hS:∀ b,S b→L.q.k3≤b):LkS w0 w' L f:=by
 have h1:=h.lk.far
 have h2:=h.lk.port.place.le
 have h3:=h.low
 have n:∀ b,b<L.q.k3→¬ S b:=λb hb e=>by have:=hS b e;omega
 have ht:=h.lk.top
 refine ⟨h.lk.wrote k (n _ (by omega)) (n _ (by omega)) (n _ (by omega)) (n _ (by omega)) λb _ b2=>n b b2,h.low,h.wr.trans k λb hb e=> ?_⟩
 exact n b (by omega) e
theorem lnew (h:LkS w0 w L f) {k:Nat} (hk:LF L k):w0.heap.size≤k:=by
 have:=h.low
 rcases hk with rfl|rfl|hk
 ·omega
 ·omega
 ·have:=hk.1;omega
theorem call (h:LkS w0 w L f) (hl:LkAt w' L f') (k:Wr (LF L) w w'):LkS w0 w' L f':=⟨hl,h.low,h.wr.trans k λb hb e=>by have:=h.lnew e;unfold Nil;omega⟩
theorem cell0 (h:LkS w0 w L f):w.cell? ⟨L.lb,0,none⟩=some (.pointer (some ⟨L.p,0,none⟩)):=h.lk.raw.cell0
end LkS
def LsPost (w0 w:World) (L:Lp) (f:FL) (v:Value) (e:Ending) (w':World):Prop:=e= .returned v∧LkS w0 w' L f∧Wr (Low L) w w'
section
variable {w0 w:World} {L:Lp} {f:FL}
theorem ls_lock (h:LkS w0 w L f) (t d:Int):Calls prog 127 #[.pointer (some ⟨L.p,0,none⟩),.int .i64 t,.int .i64 d] w (LsPost w0 w L (f.lock t d) (.int .i64 (lockE f.s t d))):=
 (se_lock h.lk.raw.seat t d).mono λe w' ⟨he,hS,hW⟩=>⟨he,h.call (h.lk.seats hS (SS.lock_kS _ _ _) hW) (lf_b hW),h.lk.low (lf_b hW)⟩
theorem ls_unlock (h:LkS w0 w L f) (t:Int):Calls prog 131 #[.pointer (some ⟨L.p,0,none⟩),.int .i64 t] w (LsPost w0 w L (f.turn t 3) (.int .i64 (turnE f.s t))):=
 (se_unlock h.lk.raw.seat t).mono λe w' ⟨he,hS,hW⟩=>⟨he,h.call (h.lk.seats hS (SS.turn_kS _ _ _ (by decide)) hW) (lf_b hW),h.lk.low (lf_b hW)⟩
theorem ls_step (h:LkS w0 w L f) (t u x:Int) (hD:f.ps.D.length<4611686018427387904):Calls prog 146 #[.pointer (some ⟨L.lb,0,none⟩),.int .i64 t,.int .i64 u,.int .i64 x] w (LsPost w0 w L (f.step L t u) (f.did L t u).val):=
 (fl_step h.lk t u x hD).mono λe w' ⟨he,hl,hW⟩=>⟨he,h.call hl hW,h.lk.low hW⟩
end
structure LkP (w0 w:World) (L:Lp) (f:FL):Prop where
 raw:RawF w L (.pointer none) f
 port:PortAt w L.q L.hs f.ps
 far:L.lb<L.q.k0∧L.p<L.q.k0∧L.b<L.q.k0∧L.tb<L.q.k0
 top:L.q.k3≤w.heap.size
 low:w0.heap.size≤L.lb∧w0.heap.size≤L.p∧w0.heap.size≤L.b∧w0.heap.size≤L.tb∧w0.heap.size≤L.q.k0
 wr:Wr Nil w0 w
theorem lp_use {w0 w:World} {L:Lp} {f:FL} (h:LkP w0 w L f):
  Calls prog 147 #[.pointer (some ⟨L.lb,0,none⟩),.pointer (some ⟨L.q.p,0,none⟩)] w λe w'=>e= .returned (.tuple #[])∧LkS w0 w' L f∧Wr (Low L) w w':=by
 refine (fl_use h.raw ⟨L.q.p,0,none⟩).mono ?_
 rintro e w' ⟨rfl,rfl⟩
 have hW:Wr (One L.lb) w (w.setCell ⟨L.lb,1,none⟩ (.pointer (some ⟨L.q.p,0,none⟩))):=(Wr.refl _ w).setCell _ _ λ_=>rfl
 have hr:=h.raw
 have h1:=h.far
 have h2:=h.port.place.le
 have h3:=h.low
 exact ⟨rfl,⟨⟨hr.use _,h.port.wrote hW λb b1 _ e=>by unfold One at e;omega,h.far,Nat.le_trans h.top hW.size⟩,h.low,h.wr.trans hW λb hb e=>by unfold One at e;unfold Nil;omega⟩,hW.mono λb _ e=>by unfold One at e;unfold Low;omega⟩
theorem lp_made {w0 w1 w2:World} {L0:Lp} {q:Place} {f:FL} {hs:List Int} (hr:RawF w1 L0 (.pointer none) f) (hl:w0.heap.size≤L0.lb∧w0.heap.size≤L0.p∧w0.heap.size≤L0.b∧w0.heap.size≤L0.tb) (h0:Wr Nil w0 w1)
  (hP:PortAt w2 q hs f.ps) (h1:w1.heap.size≤q.k0) (h2:q.k3≤w2.heap.size) (hW:Wr Nil w1 w2):LkP w0 w2 {L0 with q:=q,hs:=hs} f:=by
 have l1:=blk_lt hr.obj
 have l2:=blk_lt hr.seat.obj
 have l3:=blk_lt hr.seat.ctx
 have l4:=blk_lt hr.tick
 have s0:=h0.size
 exact ⟨(hr.after hW).place q hs,hP,⟨by dsimp only;omega,by dsimp only;omega,by dsimp only;omega,by dsimp only;omega⟩,h2,⟨by dsimp only;omega,by dsimp only;omega,by dsimp only;omega,by dsimp only;omega,by dsimp only;omega⟩,h0.nil hW⟩
def newF (n t sz z:Nat) (v:Int):FL:=⟨newSeat n false false,sz,λ_=>0,λ_=>0,newS t ([v]++slotR z sz)⟩
def homesS (zs:List Int) (n sz:Nat):List Int:=[zs.getD 0 0]++homeR zs n sz
theorem getD_ok {zs:List Int} (h:homesOK zs=true) (i:Nat):okH (zs.getD i 0)=true:=by
 unfold homesOK at h
 rw [List.all_eq_true] at h
 by_cases hi:i<zs.length
 ·exact h _ (by rw [List.getD_eq_getElem?_getD,List.getElem?_eq_getElem hi];exact List.getElem_mem hi)
 ·rw [List.getD_eq_getElem?_getD,List.getElem?_eq_none (by omega)];rfl
theorem homesS_ok {zs:List Int} (h:homesOK zs=true) (n sz:Nat):homesOK (homesS zs n sz)=true:=by
 unfold homesOK homesS homeR
 rw [List.all_eq_true]
 intro x hx
 rw [List.mem_append,List.mem_singleton,List.mem_map] at hx
 rcases hx with rfl|⟨i,_,rfl⟩
 ·exact getD_ok h 0
 ·exact getD_ok h _
theorem homesS_len (zs:List Int) (n sz:Nat):(homesS zs n sz).length=sz+1:=by unfold homesS;rw [List.length_append,homeR_len];simp;omega
theorem slotR_rng (z sz j:Nat):0≤(slotR z sz).getD j 0∧(slotR z sz).getD j 0<4294967296:=by
 by_cases hj:j<sz
 ·have e:(slotR z sz).getD j 0=if z=j then 1 else 0:=by simp [slotR,hj]
  rw [e]
  split<;>decide
 ·rw [List.getD_eq_getElem?_getD,List.getElem?_eq_none (by simp [slotR];omega)];decide
theorem vals_rng {v:Int} (hv:0≤v∧v<4294967296) (z sz j:Nat):0≤([v]++slotR z sz).getD j 0∧([v]++slotR z sz).getD j 0<4294967296:=by
 match j with
 |0=>exact hv
 |j+1=>exact slotR_rng z sz j
def MadePost (w0:World) (n sz z:Nat) (v:Int) (L:Lp) (w':World):Prop:=L.a1=0∧L.a2=1∧LkP w0 w' L (newF n n sz z v)
theorem fl_port {w0 w w1:World} {q q':Pl} {n sz z:Nat} {zs:List Int} {v:Int} {L0:Lp} (h0:Wr Nil w0 w) (hq:∀ k,q.F k→w0.heap.size≤k) (n1:1≤n) (n2:n≤64) (ho:homesOK zs=true) (siz:sizeB sz=true) (hv:0≤v∧v<4294967296)
  (hR:FlRaw w1 L0 (.pointer none) (newSeat n false false) sz (λ_=>0) (λ_=>0)) (hl:w.heap.size≤L0.lb∧w.heap.size≤L0.p∧w.heap.size≤L0.b∧w.heap.size≤L0.tb) (h1:L0.a1=0) (h2:L0.a2=1) (hqq:q'.p=q.p) (hP:PlanAt w1 q' n (homesS zs n sz) ([v]++slotR z sz)) (hW:Wr q.F w w1) (hne:q.p<w.heap.size):
  Calls prog 26 #[.pointer (some ⟨q.p,0,none⟩)] w1 λe w'=>∃ L:Lp,e= .returned (.tuple #[.pointer (some ⟨L.q.p,0,none⟩),.int .i64 0])∧MadePost w0 n sz z v L w'∧L.lb=L0.lb∧L.hs=homesS zs n sz∧w'.cell? ⟨q.p,1,none⟩=some (.int .i64 ((sz+1:Nat):Int))∧¬ LF L q.p∧q.p≠L.lb:=by
 have s64:=(size_le siz).2
 have c:=plport_good hP (vals_rng hv z sz) n1 n2 (by rw [homesS_len];omega) (homesS_ok ho n sz)
 have hp1:=hP.cell1
 rw [hqq,homesS_len] at hp1
 rw [hqq] at c
 refine c.mono ?_
 rintro e w' ⟨qq,rfl,hA,hk0,hk3,hW2⟩
 have s0:=h0.size
 have s1:=hW.size
 refine ⟨{L0 with q:=qq,hs:=homesS zs n sz},rfl,⟨h1,h2,?_⟩,rfl,rfl,hW2.old hp1,λe=> ?_,by dsimp only;omega⟩
 ·exact lp_made (f:=newF n n sz z v) hR (by omega) (h0.trans hW λk hk e=>by have:=hq k e;unfold Nil;omega) hA hk0 hk3 hW2
 ·unfold LF Rng at e
  dsimp only at e
  omega
end Go.Proofs.YtmnephejhkfchaaGreat.Ks
