
import Derived.Test.YtmnephejhkfchaaGreatSlotsEnd
import Derived.Test.YtmnephejhkfchaaGreatSizeIn
namespace Go.Proofs.YtmnephejhkfchaaGreat.Ks
set_option linter.unusedVariables false
set_option maxRecDepth 100000
theorem L4 {ps:AK} {nx:Int} {l:List Int} {k:Nat} (h:ps.ws=nx::l) (hk:k<ps.ac.length):
  A6 ps k 5 0=nx/\(A5 ps k 5 0 0 1).ws=(nx+1)%4294967296::l/\(A5 ps k 5 0 0 1).ac.length=ps.ac.length/\(A5 ps k 5 0 0 1).D.length=ps.D.length+1:=zz7m
theorem BL {ps:AK} {l:List Int} {k i:Nat} {a:Int} (h:ps.ws=l) (hk:k<ps.ac.length) (ha:a=((i:Nat):Int)) (hi:i<l.length):
  A6 ps k 1 a=l.getD i 0/\(A5 ps k 1 a 0 0).ws=l/\(A5 ps k 1 a 0 0).ac.length=ps.ac.length/\(A5 ps k 1 a 0 0).D.length=ps.D.length+1:=by
 subst ha h;exact zzq
theorem BQ {ps:AK} {l:List Int} {k i:Nat} {a v:Int} (h:ps.ws=l) (hk:k<ps.ac.length) (ha:a=((i:Nat):Int)) (hi:i<l.length):
  (A5 ps k 2 a 0 v).ws=l.set i v/\(A5 ps k 2 a 0 v).ac.length=ps.ac.length/\(A5 ps k 2 a 0 v).D.length=ps.D.length+1:=by
 subst ha h;exact zz10
theorem BU {s:SS} {k:Nat} {ev:Int} (h:AH (s.st k) ev=none):s.fin k ev=s:=zz1c
theorem Aw {s:SS} {k:Nat} {ev y:Int} (hk:k<s.n) (h:AH (s.st k) ev=some y):s.fin k ev=s.set k y 0:=zz19
def Bp (N:Nat) (x:Option Nat):List Int:=(List.range N).map λi=>if x=some i then 1 else 0
theorem I7 (N:Nat) (x:Option Nat):(Bp N x).length=N:=by simp [Bp]
theorem RH (N:Nat) (x:Option Nat) {i:Nat} (hi:i<N):(Bp N x).getD i 0=if x=some i then 1 else 0:=by
 simp [Bp,hi]
theorem RI (N i:Nat):(Bp N none).set i 1=Bp N (some i):=zz4g
theorem OA (N i:Nat):(Bp N (some i)).set i 0=Bp N none:=zz4g
def IX (g:Option Nat) (ow N:Nat):Option Nat:=match g with
 |none=>some (ow%N)
 |some _=>none
theorem RG {ow i N:Nat} (hi:i<N) (h:ow%N=(ow+i)%N):i=0:=by
 have h2:=Nat.sub_mod_eq_zero_of_mod_eq h.symm;rw [show ow+i-ow=i by omega,Nat.mod_eq_of_lt hi] at h2;exact h2
theorem WW {nx N:Nat} (h:N ∣ 4294967296):(((nx%4294967296:Nat):Int))%(N:Int)=((nx%N:Nat):Int):=by
 rw [<-Int.natCast_emod,Nat.mod_mod_of_dvd _ h]
theorem RF (ow N:Nat):((((ow%N:Nat):Int))+1)%(N:Int)=(((ow+1)%N:Nat):Int):=by
 have e:(((ow%N:Nat):Int))+1=((ow%N+1:Nat):Int):=by omega
 rw [e,<-Int.natCast_emod,Nat.mod_add_mod]
structure OrdJ (f:FL) (g:Option Nat) (W:List Nat) (nx ow:Nat):Prop where
 n8:f.s.n<=8
 nN:f.s.n<=f.sz
 dN:f.sz ∣ 4294967296
 sN:f.sz<=64
 pr:f.s.Af=false
 ws:f.ps.ws=((nx%4294967296:Nat):Int)::Bp f.sz (IX g ow f.sz)
 ac:f.ps.ac.length=f.s.n
 nodup:(g.toList++W).Nodup
 lt:∀ k∈g.toList++W,k<f.s.n
 num:∀ (i k:Nat),(g.toList++W)[i]? =some k->f.own k=(((ow+i)%f.sz:Nat):Int)
 Md:nx=ow+(g.toList++W).length
 dr:∀ k,k<f.s.n->(f.pc k≠0↔k∈g.toList++W)
 p2:∀ k,k<f.s.n->f.pc k=2->g=some k\/(g=none/\∃ r,W=k::r)
 Ev:∀ k,f.pc k=0\/f.pc k=1\/f.pc k=2
 FZ:∀ k,g=some k->f.s.st k=2\/f.s.st k=3
 EN:∀ k∈W,f.s.st k=1
 FB:∀ k,k<f.s.n->k∉g.toList++W->f.s.st k=0\/f.s.st k=1
namespace OrdJ
variable {f:FL} {g:Option Nat} {W:List Nat} {nx ow:Nat} {L:Lp}
theorem len (h:OrdJ f g W nx ow):(g.toList++W).length<=f.s.n:=by
 have h1:(g.toList++W).length<=(List.range f.s.n).length:=List.Nodup.length_le_of_subset h.nodup λk hk=>List.mem_range.2 (h.lt k hk);rw [List.length_range] at h1;exact h1
theorem pos (h:OrdJ f g W nx ow):0<f.sz:=Nat.pos_of_dvd_of_pos h.dN (by decide)
theorem held (h:OrdJ f g W nx ow) {k:Nat} (hk:k<f.s.n) (hs:f.s.st k=2\/f.s.st k=3):g=some k:=zz1p
theorem idle (h:OrdJ f g W nx ow) {k:Nat} (hk:k<f.s.n) (hs:f.s.st k=0):k∉g.toList++W:=λhm=>zz29
theorem UR (h:OrdJ f g W nx ow) (k:Nat) (x d:Int) (h0:k∉g.toList++W->x=0\/x=1) (h1:k∈W->x=1) (h2:g=some k->x=2\/x=3):OrdJ {f with s:=f.s.set k x d} g W nx ow:=by
 refine ⟨h.n8,h.nN,h.dN,h.sN,h.pr,h.ws,h.ac,h.nodup,h.lt,h.num,h.Md,h.dr,h.p2,h.Ev,λj hj=> ?_,λj hj=> ?_,λj hj hn=> ?_⟩
 ·show upd f.s.st k x j=2\/upd f.s.st k x j=3
  exact zz64
 ·exact zz5j
 ·exact zz4v
theorem lock (h:OrdJ f g W nx ow) (t d:Int):OrdJ (f.lock t d) g W nx ow:=zz25
theorem turn (h:OrdJ f g W nx ow) (t:Int):OrdJ (f.turn t 3) g W nx ow:=by
 unfold FL.turn SS.turn;split
 ·rename_i he
  unfold BR at he;split at he
  ·rename_i hc
   split at he
   ·omega
   ·split at he
    ·rename_i hs
     have hk:t.toNat<f.s.n:=by omega
     have hg:=h.held hk (.inl hs);refine h.UR _ _ _ (λhn=>absurd (List.mem_append_left W (by rw [hg];simp)) hn) (λhw=> ?_) λ_=> .inr rfl;have:=h.EN _ hw;omega
    ·omega
  ·omega
 ·exact h
theorem WM (h:OrdJ f g W nx ow) {ps:AK} (hw:ps.ws=f.ps.ws) (ha:ps.ac.length=f.ps.ac.length):OrdJ {f with ps:=ps} g W nx ow:=
 ⟨h.n8,h.nN,h.dN,h.sN,h.pr,hw.trans h.ws,ha.trans h.ac,h.nodup,h.lt,h.num,h.Md,h.dr,h.p2,h.Ev,h.FZ,h.EN,h.FB⟩
theorem BW (h:OrdJ f g W nx ow) {k:Nat} (hk:k<f.s.n) (hs:f.s.st k=1) (hd:f.pc k=0) {ps:AK} (hw:ps.ws=(((nx%4294967296:Nat):Int)+1)%4294967296::Bp f.sz (IX g ow f.sz)) (ha:ps.ac.length=f.ps.ac.length):
  OrdJ {f with pc:=upd f.pc k 1,own:=upd f.own k ((nx%4294967296:Nat)%(f.sz:Int)),ps:=ps} g (W++[k]) (nx+1) ow:=by
 have hn:k∉g.toList++W:=λe=>(h.dr k hk).2 e hd;refine ⟨h.n8,h.nN,h.dN,h.sN,h.pr,?_,ha.trans h.ac,?_,?_,?_,?_,?_,?_,?_,h.FZ,?_,?_⟩
 ·show ps.ws=_::Bp f.sz _
  rw [hw]
  congr 1
  omega
 ·exact zz4d
 ·exact zz2q
 ·intro i j hj
  rw [<-List.append_assoc] at hj;show upd f.own k _ j=_;by_cases hi:i<(g.toList++W).length
  ·exact zz4r
  ·rw [List.getElem?_append_right (by omega)] at hj
   have hi2:i-(g.toList++W).length=0:=by
    have:=(List.getElem?_eq_some_iff.1 hj).1;simpa using this
   rw [hi2] at hj;obtain rfl:k=j:=by simpa using hj
   rw [upd_same,WW h.dN,h.Md,show i=(g.toList++W).length by omega]
 ·exact zz4h
 ·intro j hj
  show upd f.pc k 1 j≠0↔_;exact zz4m
 ·intro j hj hp
  replace hp:upd f.pc k 1 j=2:=hp;by_cases e:j=k
  ·exact zz6d
  ·rw [A0 _ _ e] at hp
   rcases h.p2 j hj hp with q|⟨q,r,hr⟩
   ·exact .inl q
   ·exact .inr ⟨q,r++[k],by rw [hr];rfl⟩
 ·intro j
  show upd f.pc k 1 j=0\/upd f.pc k 1 j=1\/upd f.pc k 1 j=2;by_cases e:j=k
  ·subst e;rw [upd_same];exact .inr (.inl rfl)
  ·rw [A0 _ _ e];exact h.Ev j
 ·exact zz3f
 ·exact zz3y
theorem I1 (h:OrdJ f g W nx ow) {k:Nat} (hm:k∈g.toList++W):∃ o:Nat,o<f.sz/\f.own k=(o:Int):=by
 obtain ⟨i,hi⟩:=List.getElem?_of_mem hm;exact ⟨_,Nat.mod_lt _ h.pos,h.num i k hi⟩
theorem waits (h:OrdJ f g W nx ow) {k:Nat} (hk:k<f.s.n) (hs:f.s.st k=1) (hp:f.pc k≠0):k∈W:=by
 rcases List.mem_append.1 ((h.dr k hk).1 hp) with hm|hm
 ·exact zz3v
 ·exact hm
theorem first (h:OrdJ f g W nx ow) {k o:Nat} (hm:k∈W) (ho:f.own k=(o:Int)) (he:IX g ow f.sz=some o):g=none/\∃ W',W=k::W'/\k∉W':=by
 have hnd:=h.nodup;cases g with
 |some a=>cases he
 |none=>
  obtain ⟨i,hi⟩:=List.getElem?_of_mem hm;have hlt:=(List.getElem?_eq_some_iff.1 hi).1;have hl:=h.len;have hN:=h.nN;have hn:=h.num i k hi;rw [ho] at hn;have e1:ow%f.sz=o:=by simpa [IX] using he
  have e2:ow%f.sz=(ow+i)%f.sz:=by omega
  have hi0:i<f.sz:=by simp at hl;omega
  obtain rfl:i=0:=RG hi0 e2;exact zz45
theorem look {k:Nat} (h:OrdJ f none (k::W) nx ow) {ps:AK} (hw:ps.ws=f.ps.ws) (ha:ps.ac.length=f.ps.ac.length):
  OrdJ {f with pc:=upd f.pc k 2,ps:=ps} none (k::W) nx ow:=by
 refine ⟨h.n8,h.nN,h.dN,h.sN,h.pr,hw.trans h.ws,ha.trans h.ac,h.nodup,h.lt,h.num,h.Md,λj hj=> ?_,λj hj hp=> ?_,λj=> ?_,h.FZ,h.EN,h.FB⟩
 ·show upd f.pc k 2 j≠0↔_
  by_cases e:j=k
  ·subst e;rw [upd_same];simp
  ·rw [A0 _ _ e];exact h.dr j hj
 ·replace hp:upd f.pc k 2 j=2:=hp
  by_cases e:j=k
  ·subst e;exact .inr ⟨rfl,W,rfl⟩
  ·rw [A0 _ _ e] at hp;exact h.p2 j hj hp
 ·show upd f.pc k 2 j=0\/upd f.pc k 2 j=1\/upd f.pc k 2 j=2
  by_cases e:j=k
  ·subst e;rw [upd_same];exact .inr (.inr rfl)
  ·rw [A0 _ _ e];exact h.Ev j
theorem Bs {k:Nat} (h:OrdJ f none (k::W) nx ow) (hp:f.pc k=2) {ps:AK} (hw:ps.ws=((nx%4294967296:Nat):Int)::Bp f.sz none) (ha:ps.ac.length=f.ps.ac.length) (d:Int):
  OrdJ {f with s:=f.s.set k 2 d,ps:=ps} (some k) W nx ow:=by
 refine ⟨h.n8,h.nN,h.dN,h.sN,h.pr,hw,ha.trans h.ac,h.nodup,h.lt,h.num,h.Md,h.dr,λj hj hq=> ?_,h.Ev,λj hj=> ?_,λj hj=> ?_,λj hj hn=> ?_⟩
 ·rcases h.p2 j hj hq with q|⟨_,r,hr⟩
  ·cases q
  ·obtain rfl:k=j:=(List.cons.inj hr).1
   exact .inl rfl
 ·exact zz56
 ·exact zz4q
 ·exact zz57
theorem free {k:Nat} (h:OrdJ f (some k) W nx ow) {ps:AK} (hw:ps.ws=((nx%4294967296:Nat):Int)::Bp f.sz (some ((ow+1)%f.sz))) (ha:ps.ac.length=f.ps.ac.length) (d:Int):
  OrdJ {f with s:=f.s.set k 0 d,pc:=upd f.pc k 0,own:=upd f.own k 0,ps:=ps} none W nx (ow+1):=by
 have LN:k∉W:=(List.nodup_cons.1 h.nodup).1;refine ⟨h.n8,h.nN,h.dN,h.sN,h.pr,hw,ha.trans h.ac,(List.nodup_cons.1 h.nodup).2,λj hj=>h.lt j (List.mem_append_right _ hj),λi j hj=> ?_,?_,λj hj=> ?_,λj hj hp=> ?_,λj=> ?_,λj hj=>(by cases hj),λj hj=> ?_,λj hj hn=> ?_⟩
 ·show upd f.own k 0 j=_
  have hm:j∈W:=List.mem_of_getElem? hj;rw [A0 _ _ (λe=>by subst e;exact LN hm),h.num (i+1) j (by simpa using hj),show ow+(i+1)=ow+1+i by omega]
 ·exact zz4y
 ·show upd f.pc k 0 j≠0↔_
  exact zz61
 ·replace hp:upd f.pc k 0 j=2:=hp
  by_cases e:j=k
  ·exact zz6d
  ·rw [A0 _ _ e] at hp
   rcases h.p2 j hj hp with q|⟨q,_⟩
   ·exact absurd (by simpa using q:k=j) λx=>e x.symm
   ·cases q
 ·show upd f.pc k 0 j=0\/upd f.pc k 0 j=1\/upd f.pc k 0 j=2
  by_cases e:j=k
  ·exact zz7w
  ·rw [A0 _ _ e];exact h.Ev j
 ·exact zz66
 ·exact zz47
theorem D6 {t:Int} (hk:¬ ((0:Int)<=t/\t<f.s.n)):f.did L t t=Dd.no/\f.step L t t=f:=zzr
theorem D5 (h:OrdJ f g W nx ow) {k:Nat} (hk:k<f.s.n) (s0:f.s.st k≠1) (s3:f.s.st k≠3):f.did L k k=Dd.no/\f.step L k k=f:=by
 have ht:(0:Int)<=(k:Int)/\(k:Int)<f.s.n:=by omega
 have e:f.did L k k=Dd.no:=by
  unfold FL.did;rw [Qj ht,Int.toNat_natCast,Qq s0,Qq s3]
 have em:f.mid L k k=f:=by
  unfold FL.mid;rw [Qj ht,Int.toNat_natCast,Qq s0,Qq s3]
 refine ⟨e,?_⟩;unfold FL.step;rw [e,em,BU (by
  unfold AH;rw [Qq (λe=>s0 e.1),Qq (λe=>s0 e.1),Qq (λe=>s3 e.1),Qq (λe=>e.2.elim (λq=>absurd q (by decide)) λq=>absurd q (by decide))])]
theorem Ue (h:OrdJ f g W nx ow) (h1:L.a1=0) {k:Nat} (hk:k<f.s.n) (s1:f.s.st k=1) (hd:f.pc k=0):
  f.did L k k=⟨0,true,false,false⟩/\f.step L k k={f with pc:=upd f.pc k 1,own:=upd f.own k ((nx%4294967296:Nat)%(f.sz:Int)),ps:=A5 f.ps k 5 0 0 1}:=by
 have ht:(0:Int)<=(k:Int)/\(k:Int)<f.s.n:=by omega
 have e:f.did L k k=⟨0,true,false,false⟩:=by
  unfold FL.did FL.A7;rw [Qj ht,Int.toNat_natCast,Qj s1,Qj hd]
 have em:f.mid L k k={f with pc:=upd f.pc k 1,own:=upd f.own k ((nx%4294967296:Nat)%(f.sz:Int)),ps:=A5 f.ps k 5 0 0 1}:=by
  unfold FL.mid FL.acq;rw [Qj ht,Int.toNat_natCast,Qj s1,Qj hd,h1,(L4 h.ws (by rw [h.ac];exact hk)).1]
 exact zz54
theorem sees (h:OrdJ f g W nx ow) (h2:L.a2=1) {k o:Nat} (hk:k<f.s.n) (ho:f.own k=(o:Int)) (o1:o<f.sz):
  A6 f.ps k 1 (L.a2+f.own k)=(if IX g ow f.sz=some o then 1 else 0)/\(A5 f.ps k 1 (L.a2+f.own k) 0 0).ws=f.ps.ws/\(A5 f.ps k 1 (L.a2+f.own k) 0 0).ac.length=f.ps.ac.length/\(A5 f.ps k 1 (L.a2+f.own k) 0 0).D.length=f.ps.D.length+1:=by
 have hl:(1+o)<f.ps.ws.length:=by rw [h.ws,List.length_cons,I7];omega
 obtain ⟨a,b,c,d⟩:=BL (a:=L.a2+f.own k) (i:=1+o) rfl (show k<f.ps.ac.length by rw [h.ac];exact hk) (by rw [h2,ho];omega) hl;refine ⟨?_,b,c,d⟩;rw [a,h.ws,Nat.add_comm 1 o,List.getD_cons_succ,RH _ _ o1]
theorem Ug (h:OrdJ f g W nx ow) (h2:L.a2=1) {k o:Nat} (hk:k<f.s.n) (s1:f.s.st k=1) (hd:f.pc k=1) (ho:f.own k=(o:Int)) (o1:o<f.sz) (he:IX g ow f.sz=some o):
  f.did L k k=Dd.no/\f.step L k k={f with pc:=upd f.pc k 2,ps:=A5 f.ps k 1 (L.a2+f.own k) 0 0}:=by
 have ht:(0:Int)<=(k:Int)/\(k:Int)<f.s.n:=by omega
 have e1:=(h.sees h2 hk ho o1).1;rw [Qj he] at e1;have e:f.did L k k=Dd.no:=zz6i;have em:f.mid L k k={f with pc:=upd f.pc k 2,ps:=A5 f.ps k 1 (L.a2+f.own k) 0 0}:=by
  unfold FL.mid FL.acq;rw [Qj ht,Int.toNat_natCast,Qj s1,Qq (by omega),Qj hd,Qq (by rw [e1];decide)]
 exact zz54
theorem Kt (h:OrdJ f g W nx ow) (h2:L.a2=1) {k o:Nat} (hk:k<f.s.n) (s1:f.s.st k=1) (hd:f.pc k=1) (ho:f.own k=(o:Int)) (o1:o<f.sz) (he:IX g ow f.sz≠some o):
  f.did L k k=Dd.no/\f.step L k k={f with ps:=A5 f.ps k 1 (L.a2+f.own k) 0 0}:=by
 have ht:(0:Int)<=(k:Int)/\(k:Int)<f.s.n:=by omega
 have e1:=(h.sees h2 hk ho o1).1;rw [Qq he] at e1;have e:f.did L k k=Dd.no:=zz6i;have em:f.mid L k k={f with ps:=A5 f.ps k 1 (L.a2+f.own k) 0 0}:=by
  unfold FL.mid FL.acq;rw [Qj ht,Int.toNat_natCast,Qj s1,Qq (by omega),Qj hd,Qj e1]
 exact zz54
theorem Uj {k:Nat} (h:OrdJ f none (k::W) nx ow) (h2:L.a2=1) (hk:k<f.s.n) (s1:f.s.st k=1) (hd:f.pc k=2):
  f.did L k k=⟨1,false,false,false⟩/\f.step L k k={f with s:=f.s.set k 2 0,ps:=A5 f.ps k 2 (L.a2+f.own k) 0 0}/\(A5 f.ps k 2 (L.a2+f.own k) 0 0).ws=((nx%4294967296:Nat):Int)::Bp f.sz none/\(A5 f.ps k 2 (L.a2+f.own k) 0 0).ac.length=f.ps.ac.length/\(A5 f.ps k 2 (L.a2+f.own k) 0 0).D.length=f.ps.D.length+1:=by
 have ht:(0:Int)<=(k:Int)/\(k:Int)<f.s.n:=by omega
 have hp:=h.pos;have ho:f.own k=((ow%f.sz:Nat):Int):=h.num 0 k rfl;have hlt:=Nat.mod_lt ow hp;have hl:(1+ow%f.sz)<f.ps.ws.length:=by rw [h.ws,List.length_cons,I7];omega
 obtain ⟨b,c,d⟩:=BQ (a:=L.a2+f.own k) (i:=1+ow%f.sz) (v:=0) rfl (show k<f.ps.ac.length by rw [h.ac];exact hk) (by rw [h2,ho];omega) hl;have e:f.did L k k=⟨1,false,false,false⟩:=by
  unfold FL.did FL.A7;exact zz40
 have em:f.mid L k k={f with ps:=A5 f.ps k 2 (L.a2+f.own k) 0 0}:=by
  unfold FL.mid FL.acq;exact zz40
 refine ⟨e,?_,?_,c,d⟩
 ·unfold FL.step
  rw [e,em,Aw hk (by rw [s1];rfl:AH (f.s.st k) 1=some 2)]
 ·rw [b,h.ws,Nat.add_comm 1 _,List.set_cons_succ]
  congr 1
  exact OA _ _
theorem Kr {k:Nat} (h:OrdJ f (some k) W nx ow) (h2:L.a2=1) (hk:k<f.s.n) (s3:f.s.st k=3):
  f.did L k k=⟨3,false,false,false⟩/\f.step L k k={f with s:=f.s.set k 0 0,pc:=upd f.pc k 0,own:=upd f.own k 0,ps:=A5 f.ps k 2 (L.a2+(f.own k+1)%f.sz) 0 1}/\
   (A5 f.ps k 2 (L.a2+(f.own k+1)%f.sz) 0 1).ws=((nx%4294967296:Nat):Int)::Bp f.sz (some ((ow+1)%f.sz))/\(A5 f.ps k 2 (L.a2+(f.own k+1)%f.sz) 0 1).ac.length=f.ps.ac.length/\(A5 f.ps k 2 (L.a2+(f.own k+1)%f.sz) 0 1).D.length=f.ps.D.length+1:=by
 have ht:(0:Int)<=(k:Int)/\(k:Int)<f.s.n:=by omega
 have hp:=h.pos;have ho:f.own k=((ow%f.sz:Nat):Int):=h.num 0 k rfl;have Z6:(f.own k+1)%(f.sz:Int)=(((ow+1)%f.sz:Nat):Int):=by rw [ho,RF]
 have hlt:=Nat.mod_lt (ow+1) hp;have hl:(1+(ow+1)%f.sz)<f.ps.ws.length:=by rw [h.ws,List.length_cons,I7];omega
 obtain ⟨b,c,d⟩:=BQ (a:=L.a2+(f.own k+1)%f.sz) (i:=1+(ow+1)%f.sz) (v:=1) rfl (show k<f.ps.ac.length by rw [h.ac];exact hk) (by rw [h2,Z6];omega) hl;have e:f.did L k k=⟨3,false,false,false⟩:=by
  unfold FL.did;exact zz5z
 have em:f.mid L k k=f.rel L k k:=by
  unfold FL.mid;exact zz5z
 refine ⟨e,?_,?_,c,d⟩
 ·unfold FL.step
  rw [e,em,Aw hk (by rw [s3];rfl:AH (f.s.st k) 3=some 0)];rfl
 ·rw [b,h.ws,Nat.add_comm 1 _,List.set_cons_succ]
  congr 1
  exact RI _ _
inductive BC (W:List Nat) (t:Int) (d:Dd) (W':List Nat):Prop where
 |same (h0:d.BW=false) (h1:d.ev≠1) (h2:d.ev≠2) (e:W'=W):BC W t d W'
 |BW (hd:d=⟨0,true,false,false⟩) (k:Nat) (ht:t=k) (e:W'=W++[k]):BC W t d W'
 |Bs (hd:d=⟨1,false,false,false⟩) (k:Nat) (ht:t=k) (e:W=k::W') (hn:k∉W'):BC W t d W'
theorem step (h:OrdJ f g W nx ow) (h1:L.a1=0) (h2:L.a2=1) (t:Int):
  ∃ g' W' nx' WG,OrdJ (f.step L t t) g' W' nx' WG/\(f.step L t t).ps.D.length<=f.ps.D.length+1/\BC W t (f.did L t t) W':=by
 by_cases ht:0<=t/\t<f.s.n
 ·obtain ⟨k,rfl⟩:=Qx ht.1
  have hk:k<f.s.n:=by omega
  by_cases s1:f.s.st k=1
  ·by_cases p0:f.pc k=0
   ·obtain ⟨_,e2,e3,e4⟩:=L4 h.ws (show k<f.ps.ac.length by rw [h.ac];exact hk)
    obtain ⟨d1,d2⟩:=h.Ue h1 hk s1 p0;rw [d1,d2];exact ⟨g,W++[k],nx+1,ow,h.BW hk s1 p0 e2 e3,Nat.le_of_eq e4,.BW rfl k rfl rfl⟩
   ·have hm:=h.waits hk s1 p0
    obtain ⟨o,o1,ho⟩:=h.I1 (List.mem_append_right _ hm);rcases h.Ev k with q|q|q
    ·exact absurd q p0
    ·obtain ⟨_,a2,a3,a4⟩:=h.sees h2 hk ho o1
     by_cases he:IX g ow f.sz=some o
     ·obtain ⟨d1,d2⟩:=h.Ug h2 hk s1 q ho o1 he
      obtain ⟨rfl,W',rfl,hn⟩:=h.first hm ho he;rw [d1,d2];exact ⟨none,k::W',nx,ow,h.look a2 a3,Nat.le_of_eq a4,.same rfl (by decide) (by decide) rfl⟩
     ·obtain ⟨d1,d2⟩:=h.Kt h2 hk s1 q ho o1 he
      rw [d1,d2];exact ⟨g,W,nx,ow,h.WM a2 a3,Nat.le_of_eq a4,.same rfl (by decide) (by decide) rfl⟩
    ·rcases h.p2 k hk q with e|⟨rfl,W',rfl⟩
     ·have:=h.FZ k e;omega
     ·obtain ⟨d1,d2,d3,d4,d5⟩:=h.Uj h2 hk s1 q
      rw [d1,d2];exact ⟨some k,W',nx,ow,h.Bs q d3 d4 0,Nat.le_of_eq d5,.Bs rfl k rfl rfl (List.nodup_cons.1 h.nodup).1⟩
  ·by_cases s3:f.s.st k=3
   ·obtain rfl:=h.held hk (.inr s3)
    obtain ⟨d1,d2,d3,d4,d5⟩:=h.Kr h2 hk s3;rw [d1,d2];exact ⟨none,W,nx,ow+1,h.free d3 d4 0,Nat.le_of_eq d5,.same rfl (by decide) (by decide) rfl⟩
   ·obtain ⟨d1,d2⟩:=h.D5 (L:=L) hk s1 s3
    exact zz5y
 ·obtain ⟨d1,d2⟩:=D6 (L:=L) ht
  exact zz5y
end OrdJ
def OrdI (f:FL) (W:List Nat):Prop:=∃ g nx ow,OrdJ f g W nx ow
namespace OrdI
variable {f:FL} {W:List Nat} {L:Lp}
theorem lock (h:OrdI f W) (t d:Int):OrdI (f.lock t d) W:=by obtain ⟨g,nx,ow,h⟩:=h;exact ⟨g,nx,ow,h.lock t d⟩
theorem unlock (h:OrdI f W) (t:Int):OrdI (f.turn t 3) W:=by obtain ⟨g,nx,ow,h⟩:=h;exact ⟨g,nx,ow,h.turn t⟩
theorem step (h:OrdI f W) (h1:L.a1=0) (h2:L.a2=1) (t:Int):∃ W',OrdI (f.step L t t) W'/\(f.step L t t).ps.D.length<=f.ps.D.length+1/\OrdJ.BC W t (f.did L t t) W':=zz59
theorem one (h:OrdI f W) {j k:Nat} (hj:j<f.s.n) (hk:k<f.s.n) (ej:f.s.st j=2) (ek:f.s.st k=2):j=k:=by
 obtain ⟨g,nx,ow,h⟩:=h;exact zz41
end OrdI
set_option maxHeartbeats 8000000
open _root_.Go.Proofs.Tryz Go.Deep
open Go.RowKit Go.BigFrame
abbrev FC (p:Nat) (x y:Int) (sz tb n:Nat):Array Value:= #[.pointer (some ⟨p,0,none⟩),.pointer none,.int .i64 x,.int .i64 y,.int .i64 (sz:Nat),.slice (some ⟨tb,0,none⟩) n n]
def FV (zs:List Int) (n k:Nat):List Int:=(List.range k).map λi=>zs.getD (i%n) 0
def D4 (z k:Nat):List Int:=(List.range k).map λi=>if z=i then 1 else 0
theorem NZ (zs:List Int) (n k:Nat):FV zs n (k+1)=FV zs n k++[zs.getD (k%n) 0]:=by unfold FV;rw [List.range_succ,List.map_append];rfl
theorem O9 (z k:Nat):D4 z (k+1)=D4 z k++[if z=k then 1 else 0]:=by unfold D4;rw [List.range_succ,List.map_append];rfl
theorem K2 (zs:List Int) (n k:Nat):(FV zs n k).length=k:=by simp [FV]
theorem RD (z N:Nat):D4 z N=Bp N (some z):=by unfold D4 Bp;simp
structure LaySt (w:World) (q:Pl) (t:Int) (lb b o n:Nat) (zs:List Int) (cs:Array Value) (hs vs:List Int) (wr:World):Prop where
 plan:∃ q':Pl,q'.p=q.p/\PlanAt wr q' t hs vs/\Came w q.F q'.F
 kp:Wr (λj=>q.F j\/j=lb) w wr
 obj:wr.heap[lb]? =some (.cells cs 119 (0,0))
 row:Ad .i64 wr (some ⟨b,o,none⟩) n zs
 lt:lb<w.heap.size/\b<w.heap.size
 ne:¬ q.F lb/\¬ q.F b/\b≠lb
namespace LaySt
variable {w wr w':World} {q:Pl} {t:Int} {lb b o n:Nat} {zs:List Int} {cs:Array Value} {hs vs:List Int}
theorem far (h:LaySt w q t lb b o n zs cs hs vs wr) {q':Pl} (c:Came w q.F q'.F):¬ q'.F lb/\¬ q'.F b:=by
 have hl:=h.lt;have hn:=h.ne;refine ⟨λe=> ?_,λe=> ?_⟩
 ·rcases c _ e with e|e
  ·exact hn.1 e
  ·omega
 ·rcases c _ e with e|e
  ·exact hn.2.1 e
  ·omega
theorem set (h:LaySt w q t lb b o n zs cs hs vs wr) (i:Nat) (v:Value):LaySt w q t lb b o n zs (cs.setIfInBounds i v) hs vs (wr.setCell ⟨lb,i,none⟩ v):=by
 obtain ⟨q',hq,hP,hC⟩:=h.plan;obtain ⟨f1,f2⟩:=h.far hC;have k:Wr (One lb) wr (wr.setCell ⟨lb,i,none⟩ v):=(Wr.refl _ _).setCell _ _ λ_=>rfl;refine ⟨⟨q',hq,hP.wrote k λj hj e=>by cases e;exact f1 hj,hC⟩,h.kp.trans k λj _ e=> .inr e,A3 h.obj i v,h.row.wrote k λa ha e=> ?_,h.lt,h.ne⟩;cases ha;exact h.ne.2.2 e
theorem size {p sz tb m:Nat} {x y:Int} (h:LaySt w q t lb b o n zs (FC p x y sz tb m) hs vs wr):wr.cell? ⟨lb,4,none⟩=some (.int .i64 (sz:Nat)):=by rw [A1 h.obj];rfl
theorem home (h:LaySt w q t lb b o n zs cs hs vs wr) {j:Nat} (hj:j<n):wr.cell? ⟨b,o+j,none⟩=some (.int .i64 (zs.getD j 0)):=zz2m
end LaySt
def Ax (w:World) (q:Pl) (t:Int) (lb b o n:Nat) (zs:List Int) (cs:Array Value) (hs vs:List Int) (r:Value) (e:Ending) (w':World):Prop:=e= .returned r/\LaySt w q t lb b o n zs cs hs vs w'
section
variable {w wr:World} {q:Pl} {t:Int} {lb b o n:Nat} {zs:List Int} {cs:Array Value} {hs vs:List Int}
theorem DY (h:LaySt w q t lb b o n zs cs hs vs wr) (x v:Int) (hL:hs.length<=1000000):
  Calls prog 50 #[.pointer (some ⟨q.p,0,none⟩),.int .i64 x,.int .u32 v] wr (Ax w q t lb b o n zs cs (hs++[x]) (vs++[v]) (.int .i64 (hs.length:Nat))):=by
 obtain ⟨q',hq,hP,hC⟩:=h.plan;obtain ⟨f1,f2⟩:=h.far hC;have c:=Ci hP x v hL;rw [hq] at c;refine c.mono ?_;intro e w2 hp;unfold C4 at hp;obtain ⟨rfl,q2,D7,Fk,hW,Gj⟩:=hp;refine ⟨rfl,⟨q2,D7.trans hq,Fk,hC.trans Gj h.kp.size⟩,h.kp.trans hW λj hj e=> ?_,(hW.block _ (A2 h.obj) f1).trans h.obj,h.row.wrote hW λa ha e=> ?_,h.lt,h.ne⟩
 ·rcases hC j e with e|e
  ·exact .inl e
  ·omega
 ·cases ha
  exact f2 e
theorem Xw (h:LaySt w q t lb b o n zs cs hs vs wr):
  Calls prog 71 #[.pointer (some ⟨q.p,0,none⟩)] wr λe w'=>e= .returned (.int .i64 (hs.length:Nat))/\wr=w':=by
 obtain ⟨q',hq,hP,hC⟩:=h.plan;have c:=KI hP;rw [hq] at c;exact c.mono λ_ _ h=>⟨h.1,h.2.symm⟩
end
theorem Gp {w:World} {q:Pl} {t:Int} {lb b o n cap p tb sz:Nat} {zs:List Int} {hs vs:List Int} (h:LaySt w q t lb b o n zs (FC p 0 0 sz tb n) hs vs w) (n1:1<=n) (n2:n<=64) (Fa:Bj sz=true) (ij:sz<=64) (hL:hs.length<=900000) {v:Int} (hv:0<=v/\v<4294967296) {z:Nat} (hz:v%(sz:Int)=(z:Int)):
  Calls prog 53 #[.pointer (some ⟨lb,0,none⟩),.pointer (some ⟨q.p,0,none⟩),.slice (some ⟨b,o,none⟩) n cap,.int .u32 v] w
   (Ax w q t lb b o n zs (FC p (hs.length:Nat) ((hs.length:Nat)+1) sz tb n) (hs++[zs.getD 0 0]++FV zs n sz) (vs++[v]++D4 z sz) (.tuple #[])):=by
 have cS:=λW=>Jc v sz hv.1 hv.2 Fa W;rw [hz] at cS;have hc:=h.row.cell ⟨b,o,none⟩ rfl 0 (by omega);have hc:w.cell? ⟨b,o,none⟩=some (.int .i64 (zs.getD 0 0)):=hc;obtain ⟨x,hx⟩:∃ x,x=zs.getD 0 0:=⟨_,rfl⟩
 rw [<-hx] at hc ⊢;have cW:=DY h x v (by omega);have o0:=A1 h.obj;have f2:=A4 h.obj 2;have HH:=Qw h;clear h hx hz;have n0:(0:Nat)<n:=n1
 go_in
 go_wp2_with (first
  |((with_reducible refine cW.mono ?_);intro e w2 hq;unfold Ax at hq;obtain ⟨rfl,hA⟩:=hq;have g2:=A4 hA.obj 2;have q2:=(A1 hA.obj 2).trans rfl;have Im:=hA.set 2 (.int .i64 (hs.length:Nat));have g3:=A4 Im.obj 3;have q3:=(A1 Im.obj 3).trans rfl;have cL:=Xw Im;have AJ:LaySt w q t lb b o n zs (FC p (hs.length:Nat) ((hs.length:Nat)+1) sz tb n) (hs++[x]) (vs++[v]) ((w2.setCell ⟨lb,2,none⟩ (.int .i64 (hs.length:Nat))).setCell ⟨lb,3,none⟩ (.int .i64 ((hs.length:Nat)+1))):=Im.set 3 (.int .i64 ((hs.length:Nat)+1));have g4:=AJ.size;have HA:=Qw AJ;rw [show (((hs++[x]).length:Nat):Int)=(hs.length:Int)+1 by simp] at cL;clear hA Im AJ)
  |((with_reducible refine cL.mono ?_);rintro e w3 ⟨rfl,rfl⟩))
 clear cW cL hc o0 f2 g2 g3 q2 q3 n0;go_loopw [8,9,28] (λ_ _ i wr=>∃ k:Nat,k<=sz/\i= .int .i64 k/\LaySt w q t lb b o n zs (FC p (hs.length:Nat) ((hs.length:Nat)+1) sz tb n) (hs++[x]++FV zs n k) (vs++[v]++D4 z k) wr) (λ_ _ i _=>sz-(intOf i).toNat)
 case atStart=>exact ⟨0,Nat.zero_le _,rfl,by simpa [FV,D4] using HA.out⟩
 case round=>
  clear HA HH g4;obtain ⟨k,hk,rfl,hl⟩:=hrel;by_cases hlt:k<sz
  ·have y4:=hl.size
   have hm:k%n<n:=Nat.mod_lt _ (by omega);have yc:=hl.home hm;have cW:=λu=>DY hl (zs.getD (k%n) 0) u (by simp only [List.length_append,List.length_singleton,K2];omega);have DG:=NZ zs n k;have KR:=O9 z k;rw [List.append_assoc (hs++[x]),<-DG] at cW;generalize zs.getD (k%n) 0=y at*;have HL:=Qw hl;have kI:Int.tmod (k:Int) (n:Int)=((k%n:Nat):Int):=by rw [Int.tmod_eq_emod_of_nonneg (by omega)];rfl
   have HT:=Qw kI;clear hl DG kI;by_cases gD:z=k
   ·subst gD
    rw [Qj rfl] at KR;have cW:=cW 1;rw [List.append_assoc (vs++[v]),<-KR] at cW;clear KR
    go_wp2_with (first
     |((with_reducible refine (cS _).mono ?_);rintro e w3 ⟨rfl,rfl⟩)
     |((with_reducible refine cW.mono ?_);intro e w2 hq;unfold Ax at hq;obtain ⟨rfl,hA⟩:=hq;have HA:=Qw hA;clear hA))
    go_roundw
    case rel=>exact ⟨z+1,by omega,by go_num,HA.out⟩
    case measure=>simp [intOf];omega
   ·have b1:((k:Int)==(z:Int))=false:=beq_false_of_ne (by omega)
    rw [Qq gD] at KR;have cW:=cW 0;rw [List.append_assoc (vs++[v]),<-KR] at cW;clear KR gD
    go_wp2_with (first
     |((with_reducible refine (cS _).mono ?_);rintro e w3 ⟨rfl,rfl⟩)
     |((with_reducible refine cW.mono ?_);intro e w2 hq;unfold Ax at hq;obtain ⟨rfl,hA⟩:=hq;have HA:=Qw hA;clear hA))
    exact zz14
  ·obtain rfl:k=sz:=by omega
   have HL:=Qw hl;clear hl;go_wp2
   go_end0
   exact ⟨rfl,HL.out⟩
theorem LP:(prog.info? 240).map (λi=>(i.zero,i.size,i.bytes))=some (some (.agg #[.int .i64 0,.int .i64 0]),2,16):=by kernel_rfl
theorem DZ (n:Nat):madeCells (Value.agg #[.int .i64 0,.int .i64 0]).cells (n*2)=(BS n (λ_=>0) (λ_=>0)).toArray:=by
 apply Array.ext';show (madeCells (#[.int .i64 0,.int .i64 0]:Array Value) (n*2)).toList=BS n (λ_=>0) (λ_=>0);exact zz1d
def FH (w:World) (q:Pl) (t:Int) (hs vs:List Int) (n sz z:Nat) (zs:List Int) (v:Int) (e:Ending) (w':World):Prop:=
 ∃ (L:Lp) (q':Pl),e= .returned (.tuple #[.pointer (some ⟨L.lb,0,none⟩),.int .i64 0])/\FlRaw w' L (.pointer none) (AQ n false false) sz (λ_=>0) (λ_=>0)/\
  (w.heap.size<=L.lb/\w.heap.size<=L.p/\w.heap.size<=L.b/\w.heap.size<=L.tb)/\L.a1=hs.length/\L.a2=hs.length+1/\q'.p=q.p/\PlanAt w' q' t (hs++[zs.getD 0 0]++FV zs n sz) (vs++[v]++D4 z sz)/\Wr q.F w w'/\Came w q.F q'.F
theorem size_le {sz:Nat} (h:Bj sz=true):1<=sz/\sz<=64:=by
 unfold Bj at h;have:=of_decide_eq_true h;omega
theorem CG {w ws:World} {q:Pl} {t:Int} {hs vs:List Int} {b o n:Nat} {zs:List Int} (h:PlanAt w q t hs vs) (k:Wr Nil w ws) (hr:Ad .i64 w (some ⟨b,o,none⟩) n zs) (QH:b<w.heap.size) (hb:¬ q.F b) (A cs:Array Value) {lb:Nat} (hlb:lb=ws.heap.size+1):
  LaySt ((ws.alloc (.cells A 240)).alloc (.cells cs 119)) q t lb b o n zs cs hs vs ((ws.alloc (.cells A 240)).alloc (.cells cs 119)):=by
 have k2:Wr Nil w ((ws.alloc (.cells A 240)).alloc (.cells cs 119)):=(k.alloc _).alloc _;have e1:(ws.alloc (.cells A 240)).heap.size=ws.heap.size+1:=nblk_alloc _ _;have e2:((ws.alloc (.cells A 240)).alloc (.cells cs 119)).heap.size=ws.heap.size+1+1:=by rw [nblk_alloc,e1]
 have s1:=k.size;refine ⟨⟨q,rfl,h.after k2,Came.refl _ _⟩,Wr.refl _ _,?_,hr.after k2,by omega,λe=>by have:=h.lt e;omega,hb,by omega⟩;rw [hlb,<-e1];exact blk_alloc_new _ _
theorem DA {w wq ws wr:World} {q:Pl} {t:Int} {hs vs:List Int} {b o n p sb sz z lb tb:Nat} {zs:List Int} {v:Int} {A:Array Value} (h:PlanAt w q t hs vs) (k1:Wr Nil w wq) (hS:SeatAt wq p sb (AQ n false false)) (hp:w.heap.size<=p) (Eg:w.heap.size<=sb) (k2:Wr Nil wq ws) (VY:tb=ws.heap.size) (hlb:lb=ws.heap.size+1)
  (hA:(BS n (λ_=>0) (λ_=>0)).toArray=A) (Fa:Bj sz=true) (hL:hs.length<=900000) (cs:Array Value)
  (hl:LaySt ((ws.alloc (.cells A 240)).alloc (.cells cs 119)) q t lb b o n zs (FC p (hs.length:Nat) ((hs.length:Nat)+1) sz tb n) (hs++[zs.getD 0 0]++FV zs n sz) (vs++[v]++D4 z sz) wr):
  FH w q t hs vs n sz z zs v (.returned (.tuple #[.pointer (some ⟨lb,0,none⟩),.int .i64 0])) wr:=by
 subst hA;generalize hX:(ws.alloc (.cells (BS n (λ_=>0) (λ_=>0)).toArray 240)).alloc (.cells cs 119)=X at hl;have e1:(ws.alloc (.cells (BS n (λ_=>0) (λ_=>0)).toArray 240)).heap.size=ws.heap.size+1:=nblk_alloc _ _;have e2:X.heap.size=ws.heap.size+1+1:=by rw [<-hX,nblk_alloc,e1]
 have k3:Wr Nil ws X:=by rw [<-hX];exact ((Wr.refl _ _).alloc _).alloc _
 have kX:Wr Nil w X:=(k1.nil k2).nil k3;have hT:X.heap[tb]? =some (.cells (BS n (λ_=>0) (λ_=>0)).toArray 240 (0,0)):=by
  rw [<-hX,VY,blk_alloc_lt _ _ _ (by rw [e1];omega)];exact blk_alloc_new _ _
 have s1:=k1.size;have s2:=k2.size;have s3:=k3.size;have hF:∀ k,w.heap.size<=k->k≠lb->¬ (q.F k\/k=lb):=λk hk hk2 e=>by
  rcases e with e|e
  ·have:=h.lt e;omega
  ·exact hk2 e
 have l1:=A2 hS.obj;have l2:=A2 hS.ctx;have hne:=hS.ne;have Zo:=hS.wrote ((k2.nil k3).mono λ_ _ e=>e.elim:Wr Nil wq X) id id;obtain ⟨q',hq,hP,hC⟩:=hl.plan;have hs1:=size_le Fa;refine ⟨⟨lb,p,sb,tb,hs.length,(hs.length:Int)+1,⟨0,0,0,0,0,0,0,0,0,0,0,0,.pointer none⟩,[]⟩,q',rfl,⟨hl.obj,Zo.wrote hl.kp (hF p hp (by omega)) (hF sb Eg (by omega)),(hl.kp.block _ (A2 hT) (hF tb (by omega) (by omega))).trans hT,⟨by dsimp only;omega,by dsimp only;omega,by dsimp only;omega,by dsimp only;omega,by dsimp only;omega⟩,λ_=>⟨.inl rfl,Int.le_refl _,by omega⟩,Fa,by dsimp only;omega,⟨rfl,λ_=>(by decide:(0:Int)≠4)⟩⟩,⟨by dsimp only;omega,by dsimp only;omega,by dsimp only;omega,by dsimp only;omega⟩,rfl,rfl,hq,hP,?_,λj hj=> ?_⟩
 ·exact (kX.mono (λ_ _ e=>e.elim):Wr q.F w X).trans hl.kp λj hj e=>by
   rcases e with e|e
   ·exact e
   ·omega
 ·exact zz39
theorem Cv {w:World} {q:Pl} {t:Int} {hs vs:List Int} (h:PlanAt w q t hs vs) {b o n cap sz z:Nat} {zs:List Int} {v:Int} (hr:Ad .i64 w (some ⟨b,o,none⟩) n zs) (ho:A8 zs=true) (n1:1<=n) (n2:n<=64) (Fa:Bj sz=true) (oO:n<=sz) (hL:hs.length<=900000) (hb:¬ q.F b) (hv:0<=v/\v<4294967296) (hz:v%(sz:Int)=(z:Int)):
  Calls prog 35 #[.pointer (some ⟨q.p,0,none⟩),.slice (some ⟨b,o,none⟩) n cap,.int .i64 (sz:Nat),.int .u32 v] w (FH w q t hs vs n sz z zs v):=by
 obtain ⟨i0,hi,hz0,hz1,hz2⟩:=info_parts LP;have hmk:∀ w:World,(Instr.makeSlice 117 (.int .i64 (n:Int)) (.int .i64 (n:Int))).run prog w= .ok (.slice (some ⟨w.heap.size,0,none⟩) n n) (w.alloc (.cells (BS n (λ_=>0) (λ_=>0)).toArray 240)):=by
  intro w;have h:=Go.run_make (P:=prog) w 117 240 i0 _ underlying117 hi hz0 .i64 .i64 n n (by omega) (by omega) (by rw [hz2];omega) (by omega);exact zz2o
 generalize hA:(BS n (λ_=>0) (λ_=>0)).toArray=A at hmk;have ij:=(size_le Fa).2;have cS:=EY (cap:=cap) hr ho false false n1 n2;have Fy:b<w.heap.size:=World.block_lt_of_cell? w _ (hr.cell ⟨b,o,none⟩ rfl 0 (by omega));have HX:=Qw (Qz h (Qz hr (Qz hA (Qz Fy (Qz hb (Qz Fa (Qz hv hz)))))));have cz:=T6 (sz:Int);rw [Fa] at cz;clear h hr ho hA hb hz Fa Fy
 go_in
 go_wp2_with (first
  |((with_reducible refine cS.mono ?_);intro e wq hq;unfold Br at hq;obtain ⟨p,sb,rfl,hS,hp,Eg,hW⟩:=hq;have HS:=Qw (Qz hS (Qz hp (Qz Eg hW)));clear hS hp Eg hW cS)
  |((with_reducible refine (Mr wq).mono ?_);rintro e ws ⟨g,gc,rfl,hc,QG⟩;have cC:=NL (cap:=gc) (R7 hc) (sz:Int) (by omega);rw [cz] at cC;have HB:=Qw (Wr.PC QG);clear hc QG)
  |((with_reducible refine cC.mono ?_);rintro e w6 ⟨rfl,rfl⟩;clear cC)
  |((with_reducible refine (Gp (CG HX.out.1 (HS.out.2.2.2.nil HB.out) HX.out.2.1 HX.out.2.2.2.1 HX.out.2.2.2.2.1 A (FC p 0 0 sz ws.heap.size n) rfl) n1 n2 HX.out.2.2.2.2.2.1 ij hL HX.out.2.2.2.2.2.2.1 HX.out.2.2.2.2.2.2.2).mono ?_);intro e wr hq;unfold Ax at hq;obtain ⟨rfl,hl⟩:=hq;have HL:=Qw hl;clear hl))
 go_ret2
 obtain ⟨h,hr,hA,Fy,hb,Fa,hv,hz⟩:=HX.out;exact DA h HS.out.2.2.2 HS.out.1 HS.out.2.1 HS.out.2.2.1 HB.out rfl rfl hA Fa hL _ HL.out
open _root_.Go.Proofs.Tryz
def Low (L:Lp) (k:Nat):Prop:=k<L.q.k3
theorem LkAt.low {w w':World} {L:Lp} {f:FL} (h:LkAt w L f) (k:Wr (LF L) w w'):Wr (Low L) w w':=k.mono λb _ e=>zz1h
structure LkS (w0 w:World) (L:Lp) (f:FL):Prop where
 lk:LkAt w L f
 low:w0.heap.size<=L.lb/\w0.heap.size<=L.p/\w0.heap.size<=L.b/\w0.heap.size<=L.tb/\w0.heap.size<=L.q.k0
 wr:Wr Nil w0 w
namespace LkS
variable {w0 w w':World} {L:Lp} {f f':FL}
theorem after (h:LkS w0 w L f) (k:Wr Nil w w'):LkS w0 w' L f:=⟨h.lk.after k,h.low,h.wr.nil k⟩
theorem apart {S:Nat->Prop} (h:LkS w0 w L f) (k:Wr S w w') (hS:∀ b,S b->L.q.k3<=b):LkS w0 w' L f:=zzn
theorem Hy (h:LkS w0 w L f) {k:Nat} (hk:LF L k):w0.heap.size<=k:=zz23
theorem call (h:LkS w0 w L f) (hl:LkAt w' L f') (k:Wr (LF L) w w'):LkS w0 w' L f':=⟨hl,h.low,h.wr.trans k λb hb e=>by have:=h.Hy e;unfold Nil;omega⟩
theorem cell0 (h:LkS w0 w L f):w.cell? ⟨L.lb,0,none⟩=some (.pointer (some ⟨L.p,0,none⟩)):=h.lk.raw.cell0
end LkS
def Bf (w0 w:World) (L:Lp) (f:FL) (v:Value) (e:Ending) (w':World):Prop:=e= .returned v/\LkS w0 w' L f/\Wr (Low L) w w'
section
variable {w0 w:World} {L:Lp} {f:FL}
theorem Cr (h:LkS w0 w L f) (t d:Int):Calls prog 127 #[.pointer (some ⟨L.p,0,none⟩),.int .i64 t,.int .i64 d] w (Bf w0 w L (f.lock t d) (.int .i64 (BZ f.s t d))):=
 (Eo h.lk.raw.seat t d).mono λe w' ⟨he,hS,hW⟩=>⟨he,h.call (h.lk.seats hS (SS.Vi _ _ _) hW) (CH hW),h.lk.low (CH hW)⟩
theorem Bt (h:LkS w0 w L f) (t:Int):Calls prog 131 #[.pointer (some ⟨L.p,0,none⟩),.int .i64 t] w (Bf w0 w L (f.turn t 3) (.int .i64 (BR f.s t))):=
 (DJ h.lk.raw.seat t).mono λe w' ⟨he,hS,hW⟩=>⟨he,h.call (h.lk.seats hS (SS.We _ _ _ (by decide)) hW) (CH hW),h.lk.low (CH hW)⟩
theorem Cs (h:LkS w0 w L f) (t u x:Int) (hD:f.ps.D.length<4611686018427387904):Calls prog 146 #[.pointer (some ⟨L.lb,0,none⟩),.int .i64 t,.int .i64 u,.int .i64 x] w (Bf w0 w L (f.step L t u) (f.did L t u).val):=
 (CB h.lk t u x hD).mono λe w' ⟨he,hl,hW⟩=>⟨he,h.call hl hW,h.lk.low hW⟩
end
structure G' (w0 w:World) (L:Lp) (f:FL):Prop where
 raw:Ey w L (.pointer none) f
 port:PortAt w L.q L.hs f.ps
 far:L.lb<L.q.k0/\L.p<L.q.k0/\L.b<L.q.k0/\L.tb<L.q.k0
 top:L.q.k3<=w.heap.size
 low:w0.heap.size<=L.lb/\w0.heap.size<=L.p/\w0.heap.size<=L.b/\w0.heap.size<=L.tb/\w0.heap.size<=L.q.k0
 wr:Wr Nil w0 w
theorem Dp {w0 w:World} {L:Lp} {f:FL} (h:G' w0 w L f):
  Calls prog 147 #[.pointer (some ⟨L.lb,0,none⟩),.pointer (some ⟨L.q.p,0,none⟩)] w λe w'=>e= .returned (.tuple #[])/\LkS w0 w' L f/\Wr (Low L) w w':=zz5
theorem DX {w0 w1 w2:World} {L0:Lp} {q:Place} {f:FL} {hs:List Int} (hr:Ey w1 L0 (.pointer none) f) (hl:w0.heap.size<=L0.lb/\w0.heap.size<=L0.p/\w0.heap.size<=L0.b/\w0.heap.size<=L0.tb) (h0:Wr Nil w0 w1)
  (hP:PortAt w2 q hs f.ps) (h1:w1.heap.size<=q.k0) (h2:q.k3<=w2.heap.size) (hW:Wr Nil w1 w2):G' w0 w2 {L0 with q:=q,hs:=hs} f:=zz7g
def Bl (n t sz z:Nat) (v:Int):FL:=⟨AQ n false false,sz,λ_=>0,λ_=>0,Dq t ([v]++D4 z sz)⟩
def FN (zs:List Int) (n sz:Nat):List Int:=[zs.getD 0 0]++FV zs n sz
theorem Co {zs:List Int} (h:A8 zs=true) (i:Nat):FO (zs.getD i 0)=true:=zzm
theorem QO {zs:List Int} (h:A8 zs=true) (n sz:Nat):A8 (FN zs n sz)=true:=by
 unfold A8 FN FV;rw [List.all_eq_true];intro x hx;rw [List.mem_append,List.mem_singleton,List.mem_map] at hx;rcases hx with rfl|⟨i,_,rfl⟩
 ·exact Co h 0
 ·exact Co h _
theorem JA (zs:List Int) (n sz:Nat):(FN zs n sz).length=sz+1:=by unfold FN;rw [List.length_append,K2];simp;omega
theorem RE (z sz j:Nat):0<=(D4 z sz).getD j 0/\(D4 z sz).getD j 0<4294967296:=by
 by_cases hj:j<sz
 ·have e:(D4 z sz).getD j 0=if z=j then 1 else 0:=by simp [D4,hj]
  rw [e];split<;>decide
 ·rw [List.getD_eq_getElem?_getD,List.getElem?_eq_none (by simp [D4];omega)];decide
theorem UD {v:Int} (hv:0<=v/\v<4294967296) (z sz j:Nat):0<=([v]++D4 z sz).getD j 0/\([v]++D4 z sz).getD j 0<4294967296:=by
 match j with
 |0=>exact hv
 |j+1=>exact RE z sz j
def EP (w0:World) (n sz z:Nat) (v:Int) (L:Lp) (w':World):Prop:=L.a1=0/\L.a2=1/\G' w0 w' L (Bl n n sz z v)
theorem Cn {w0 w w1:World} {q q':Pl} {n sz z:Nat} {zs:List Int} {v:Int} {L0:Lp} (h0:Wr Nil w0 w) (hq:∀ k,q.F k->w0.heap.size<=k) (n1:1<=n) (n2:n<=64) (ho:A8 zs=true) (Fa:Bj sz=true) (hv:0<=v/\v<4294967296)
  (hR:FlRaw w1 L0 (.pointer none) (AQ n false false) sz (λ_=>0) (λ_=>0)) (hl:w.heap.size<=L0.lb/\w.heap.size<=L0.p/\w.heap.size<=L0.b/\w.heap.size<=L0.tb) (h1:L0.a1=0) (h2:L0.a2=1) (Eu:q'.p=q.p) (hP:PlanAt w1 q' n (FN zs n sz) ([v]++D4 z sz)) (hW:Wr q.F w w1) (hne:q.p<w.heap.size):
  Calls prog 26 #[.pointer (some ⟨q.p,0,none⟩)] w1 λe w'=>∃ L:Lp,e= .returned (.tuple #[.pointer (some ⟨L.q.p,0,none⟩),.int .i64 0])/\EP w0 n sz z v L w'/\L.lb=L0.lb/\L.hs=FN zs n sz/\w'.cell? ⟨q.p,1,none⟩=some (.int .i64 ((sz+1:Nat):Int))/\¬ LF L q.p/\q.p≠L.lb:=by
 have ij:=(size_le Fa).2;have c:=Ch hP (UD hv z sz) n1 n2 (by rw [JA];omega) (QO ho n sz);have hp1:=hP.cell1;rw [Eu,JA] at hp1;rw [Eu] at c;refine c.mono ?_;rintro e w' ⟨qq,rfl,hA,Ly,Gn,Ba⟩;have s0:=h0.size;have s1:=hW.size;refine ⟨{L0 with q:=qq,hs:=FN zs n sz},rfl,⟨h1,h2,?_⟩,rfl,rfl,Ba.old hp1,λe=> ?_,by dsimp only;omega⟩
 ·exact DX (f:=Bl n n sz z v) hR (by omega) (h0.trans hW λk hk e=>by have:=hq k e;unfold Nil;omega) hA Ly Gn Ba
 ·unfold LF Bk at e
  dsimp only at e;omega
end Go.Proofs.YtmnephejhkfchaaGreat.Ks
