
import Derived.Test.YtcikfcplagelaaaGreatFlatOrd
namespace Go.Proofs.YtcikfcplagelaaaGreat
open Go.RowKit
set_option linter.unusedVariables false
def sub (l:List Int) (o n:Nat):List Int:=(l.drop o).take n
theorem sub_len {l:List Int} {o n:Nat} (h:o+n≤l.length):(sub l o n).length=n:=by unfold sub;rw [List.length_take,List.length_drop];omega
theorem sub_at {l:List Int} {o n i:Nat} (hi:i<n):(sub l o n).getD i 0=l.getD (o+i) 0:=by
 unfold sub
 rw [List.getD_eq_getElem?_getD,List.getD_eq_getElem?_getD,List.getElem?_take_of_lt hi,List.getElem?_drop]
theorem sub_set {l:List Int} {o n i:Nat} (v:Int):sub (l.set (o+i) v) o n=(sub l o n).set i v:=by
 unfold sub
 rw [List.drop_set,if_neg (by omega),List.take_set,show o+i-o=i by omega]
theorem sub_set_off {l:List Int} {o n i:Nat} (v:Int) (h:i<o∨o+n≤i):sub (l.set i v) o n=sub l o n:=by
 unfold sub
 rw [List.drop_set]
 rcases h with h|h
 ·rw [if_pos h]
 ·rw [if_neg (by omega),List.take_set,List.set_eq_of_length_le (by rw [List.length_take];omega)]
def PSta.vw (ps:PSta) (o n m:Nat):PSta:=⟨sub ps.ws o n,[],List.replicate m 0,[],[]⟩
def PSta.nrm (ps:PSta) (m:Nat):PSta:=⟨ps.ws,[],List.replicate m 0,[],[]⟩
theorem load_sub {l:List Int} {o n i:Nat} (hi:i<n):loadI l ((o:Int)+i)=loadI (sub l o n) i:=by
 rw [show (o:Int)+i=((o+i:Nat):Int) by omega,load_at,load_at,sub_at hi]
theorem store_sub {l:List Int} {o n i:Nat} (v:Int):sub (storeL l ((o:Int)+i) v) o n=storeL (sub l o n) i v:=by
 unfold storeL
 rw [if_pos (by omega),if_pos (by omega),show ((o:Int)+i).toNat=o+i by omega,Int.toNat_natCast,sub_set]
theorem has_sub {l:List Int} {o n i:Nat} (hi:i<n) (h:o+n≤l.length):hasB l.length ((o:Int)+i)=true∧hasB (sub l o n).length i=true:=by
 rw [sub_len h]
 exact ⟨decide_eq_true (by omega),decide_eq_true (by omega)⟩
theorem cas_sub {l:List Int} {o n i:Nat} (hi:i<n) (h:o+n≤l.length) (old:Int):casB l ((o:Int)+i) old=casB (sub l o n) i old:=by
 unfold casB
 rw [(has_sub hi h).1,(has_sub hi h).2,load_sub hi]
section
variable {ps:PSta} {o n m u v i:Nat}
theorem ok_vw (hu:u<ps.ac.length) (hv:v<m) (hi:i<n) (h:o+n≤ps.ws.length):okT ps u ((o:Int)+i)=true∧okT (ps.vw o n m) v i=true:=by
 refine ⟨decide_eq_true (by omega),decide_eq_true ?_⟩
 have h1:(ps.vw o n m).ws.length=n:=sub_len h
 have h2:(ps.vw o n m).ac.length=m:=by simp [PSta.vw]
 omega
theorem tell_vw (hu:u<ps.ac.length) (hv:v<m) (hi:i<n) (h:o+n≤ps.ws.length) (K:Int):tellS ps u K ((o:Int)+i)=tellS (ps.vw o n m) v K i:=by
 unfold tellS okS
 rw [(ok_vw hu hv hi h).1,(ok_vw hu hv hi h).2]
 unfold tellI
 rw [load_sub hi]
 rfl
theorem do_vw (hu:u<ps.ac.length) (hv:v<m) (hi:i<n) (h:o+n≤ps.ws.length) (K old x:Int):(doS ps u K ((o:Int)+i) old x).vw o n m=(doS (ps.vw o n m) v K i old x).nrm m:=by
 unfold doS okS
 rw [(ok_vw hu hv hi h).1,(ok_vw hu hv hi h).2]
 by_cases hK:1≤K∧K≤5
 ·rw [decide_eq_true hK,Bool.and_self,if_pos rfl,if_pos rfl]
  unfold PSta.nrm
  unfold PSta.vw
  dsimp only
  congr 1
  unfold doL
  by_cases k2:K=2∨K=3
  ·rw [if_pos k2,if_pos k2];exact store_sub x
  ·rw [if_neg k2,if_neg k2]
   by_cases k4:K=4
   ·rw [if_pos k4,if_pos k4]
    unfold casL
    rw [cas_sub hi h]
    split
    ·exact store_sub x
    ·rfl
   ·rw [if_neg k4,if_neg k4]
    by_cases k5:K=5
    ·rw [if_pos k5,if_pos k5]
     unfold addL
     rw [load_sub (n:=n) hi]
     exact store_sub _
    ·rw [if_neg k5,if_neg k5]
 ·rw [decide_eq_false hK,Bool.and_false,if_neg (by decide),if_neg (by decide)]
  rfl
theorem cast_vw (hu:u<ps.ac.length) (hv:v<m) (hi:i<n) (h:o+n≤ps.ws.length) (old:Int):(okT ps u ((o:Int)+i)&&casB ps.ws ((o:Int)+i) old)=(okT (ps.vw o n m) v i&&casB (ps.vw o n m).ws i old):=by
 rw [(ok_vw hu hv hi h).1,(ok_vw hu hv hi h).2,cas_sub hi h]
 rfl
theorem do_off (K old x:Int) {o' n':Nat} (ha:o+i<o'∨o'+n'≤o+i):sub (doS ps u K ((o:Int)+i) old x).ws o' n'=sub ps.ws o' n':=by
 have key:∀ y,sub (storeL ps.ws ((o:Int)+i) y) o' n'=sub ps.ws o' n':=λy=>by
  unfold storeL
  rw [if_pos (by omega),show ((o:Int)+i).toNat=o+i by omega]
  exact sub_set_off y ha
 unfold doS
 split
 ·dsimp only
  unfold doL casL addL
  repeat' split
  all_goals first|exact key _|rfl
 ·rfl
theorem do_len' (ps:PSta) (t a K old x:Int):(doS ps t K a old x).ws.length=ps.ws.length∧(doS ps t K a old x).ac.length=ps.ac.length:=by
 unfold doS
 split
 ·dsimp only [touchS]
  exact ⟨doL_len _ _ _ _ _,bump_len _ _ _⟩
 ·exact ⟨rfl,rfl⟩
end
end Go.Proofs.YtcikfcplagelaaaGreat
namespace Go.Proofs.YtcikfcplagelaaaGreat.Kf
set_option linter.unusedVariables false
set_option maxRecDepth 100000
def FL.vw (f:FL) (o n m:Nat):FL:={f with ps:=f.ps.vw o n m}
def FL.nrm (f:FL) (m:Nat):FL:={f with ps:=f.ps.nrm m}
section
variable {f:FL} {L L0:Lp} {o m k u:Nat}
theorem did_vw (h1:L.a1=(o:Int)+(0:Nat)) (h2:L.a2=(o:Int)+(1:Nat)) (z1:L0.a1=(0:Nat)) (z2:L0.a2=(1:Nat)) (hl:o+2≤f.ps.ws.length) (hu:u<f.ps.ac.length) (hm:k<m):
  f.did L k u=(f.vw o 2 m).did L0 k k:=by
 have t0:=λK=>tell_vw (v:=k) (m:=m) (n:=2) (i:=0) hu hm (by decide) hl K
 have t1:=λK=>tell_vw (v:=k) (m:=m) (n:=2) (i:=1) hu hm (by decide) hl K
 unfold FL.did FL.acqD FL.askD
 rw [h1,h2,z1,z2,t0,t1]
 rfl
theorem mid_vw (h1:L.a1=(o:Int)+(0:Nat)) (h2:L.a2=(o:Int)+(1:Nat)) (z1:L0.a1=(0:Nat)) (z2:L0.a2=(1:Nat)) (hl:o+2≤f.ps.ws.length) (hu:u<f.ps.ac.length) (hm:k<m):
  (f.mid L k u).vw o 2 m=((f.vw o 2 m).mid L0 k k).nrm m:=by
 have t0:=λK=>tell_vw (v:=k) (m:=m) (n:=2) (i:=0) hu hm (by decide) hl K
 have d0:=λK old x=>do_vw (v:=k) (m:=m) (n:=2) (i:=0) hu hm (by decide) hl K old x
 have d1:=λK old x=>do_vw (v:=k) (m:=m) (n:=2) (i:=1) hu hm (by decide) hl K old x
 unfold FL.mid FL.acq FL.rel FL.ask
 rw [h1,h2,z1,z2,t0]
 show FL.vw (if 0≤(k:Int)∧(k:Int)<f.s.n then _ else _) o 2 m=FL.nrm (if 0≤(k:Int)∧(k:Int)<f.s.n then _ else _) m
 by_cases ht:0≤(k:Int)∧(k:Int)<f.s.n
 ·rw [if_pos ht,if_pos ht]
  show FL.vw (if f.s.st (k:Int).toNat=1 then _ else _) o 2 m=FL.nrm (if f.s.st (k:Int).toNat=1 then _ else _) m
  by_cases s1:f.s.st (k:Int).toNat=1
  ·rw [if_pos s1,if_pos s1]
   show FL.vw (if f.dr (k:Int).toNat=true then _ else _) o 2 m=FL.nrm (if f.dr (k:Int).toNat=true then _ else _) m
   by_cases hd:f.dr (k:Int).toNat=true
   ·rw [if_pos hd,if_pos hd]
    unfold FL.vw FL.nrm
    dsimp only
    rw [d1]
   ·rw [if_neg hd,if_neg hd]
    unfold FL.vw FL.nrm
    dsimp only
    rw [d0]
  ·rw [if_neg s1,if_neg s1]
   show FL.vw (if f.s.st (k:Int).toNat=3 then _ else _) o 2 m=FL.nrm (if f.s.st (k:Int).toNat=3 then _ else _) m
   by_cases s3:f.s.st (k:Int).toNat=3
   ·rw [if_pos s3,if_pos s3]
    unfold FL.vw FL.nrm
    dsimp only
    rw [d1]
   ·rw [if_neg s3,if_neg s3]
    show FL.vw (if f.s.st (k:Int).toNat=4 then _ else _) o 2 m=FL.nrm (if f.s.st (k:Int).toNat=4 then _ else _) m
    by_cases s4:f.s.st (k:Int).toNat=4
    ·rw [if_pos s4,if_pos s4]
     unfold FL.vw FL.nrm
     dsimp only
     rw [d0]
    ·rw [if_neg s4,if_neg s4]
     rfl
 ·rw [if_neg ht,if_neg ht]
  rfl
theorem step_vw (h1:L.a1=(o:Int)+(0:Nat)) (h2:L.a2=(o:Int)+(1:Nat)) (z1:L0.a1=(0:Nat)) (z2:L0.a2=(1:Nat)) (hl:o+2≤f.ps.ws.length) (hu:u<f.ps.ac.length) (hm:k<m):
  (f.step L k u).vw o 2 m=((f.vw o 2 m).step L0 k k).nrm m:=by
 have e:=mid_vw h1 h2 z1 z2 hl hu hm
 have d:=did_vw h1 h2 z1 z2 hl hu hm
 unfold FL.step
 rw [d]
 have:({f.mid L k u with s:=f.s.fin k ((f.vw o 2 m).did L0 k k).ev}:FL).vw o 2 m={(f.mid L k u).vw o 2 m with s:=f.s.fin k ((f.vw o 2 m).did L0 k k).ev}:=rfl
 rw [this,e]
 rfl
theorem step_off (h1:L.a1=(o:Int)+(0:Nat)) (h2:L.a2=(o:Int)+(1:Nat)) {o' n':Nat} (ha:o+2≤o'∨o'+n'≤o):sub (f.step L k u).ps.ws o' n'=sub f.ps.ws o' n':=by
 have key:∀ (i:Nat) K old x,i<2→sub (doS f.ps u K ((o:Int)+i) old x).ws o' n'=sub f.ps.ws o' n':=λi K old x hi=>do_off K old x (by omega)
 show sub (f.mid L k u).ps.ws o' n'=_
 unfold FL.mid FL.acq FL.rel FL.ask
 rw [h1,h2]
 repeat' split
 all_goals first|exact key 0 _ _ _ (by decide)|exact key 1 _ _ _ (by decide)|rfl
theorem step_len (t u:Int):(f.step L t u).ps.ws.length=f.ps.ws.length∧(f.step L t u).ps.ac.length=f.ps.ac.length:=by
 show (f.mid L t u).ps.ws.length=_∧(f.mid L t u).ps.ac.length=_
 unfold FL.mid FL.acq FL.rel FL.ask doS
 repeat' split
 all_goals first|exact ⟨rfl,rfl⟩|(dsimp only [touchS];exact ⟨doL_len _ _ _ _ _,bump_len _ _ _⟩)
theorem step_n (t u:Int):(f.step L t u).s.n=f.s.n:=SS.fin_n _ _ _
end
def In (f:FL) (o:Nat) (g:Option Nat) (W:List Nat):Prop:=o+2≤f.ps.ws.length∧∃ nx ow,OrdJ (f.vw o 2 f.s.n) g W nx ow
namespace In
variable {f:FL} {o:Nat} {g:Option Nat} {W:List Nat} {L:Lp}
theorem lock (h:In f o g W) (t d:Int):In (f.lock t d) o g W:=by
 obtain ⟨hl,nx,ow,h⟩:=h
 refine ⟨hl,nx,ow,?_⟩
 have e:(f.lock t d).vw o 2 (f.lock t d).s.n=(f.vw o 2 f.s.n).lock t d:=by
  show (f.lock t d).vw o 2 (f.s.lock t d).n=_
  rw [SS.lock_n];rfl
 rw [e]
 exact h.lock t d
theorem turn (h:In f o g W) (t x:Int) (hx:x=3∨x=4):In (f.turn t x) o g W:=by
 obtain ⟨hl,nx,ow,h⟩:=h
 refine ⟨hl,nx,ow,?_⟩
 have e:(f.turn t x).vw o 2 (f.turn t x).s.n=(f.vw o 2 f.s.n).turn t x:=by
  show (f.turn t x).vw o 2 (f.s.turn t x).n=_
  rw [SS.turn_n];rfl
 rw [e]
 exact h.turn t x hx
theorem far (h:In f o g W) {ps:PSta} (hl:ps.ws.length=f.ps.ws.length) (hw:sub ps.ws o 2=sub f.ps.ws o 2):In {f with ps:=ps} o g W:=by
 obtain ⟨hl0,nx,ow,h⟩:=h
 refine ⟨by show o+2≤ps.ws.length;omega,nx,ow,?_⟩
 have e:({f with ps:=ps}:FL).vw o 2 f.s.n=f.vw o 2 f.s.n:=by
  unfold FL.vw PSta.vw
  rw [hw]
 show OrdJ (({f with ps:=ps}:FL).vw o 2 f.s.n) g W nx ow
 rw [e]
 exact h
theorem step (h:In f o g W) (h1:L.a1=o) (h2:L.a2=(o:Int)+1) {k u:Nat} (hk:k<f.s.n) (hu:u<f.ps.ac.length):
  ∃ g' W',In (f.step L k u) o g' W'∧OrdJ.StepQ W k (f.did L k u) W'∧(∀ o' n',o+2≤o'∨o'+n'≤o→sub (f.step L k u).ps.ws o' n'=sub f.ps.ws o' n'):=by
 obtain ⟨hl,nx,ow,h⟩:=h
 have q1:L.a1=(o:Int)+(0:Nat):=by rw [h1];omega
 have q2:L.a2=(o:Int)+(1:Nat):=by rw [h2];omega
 obtain ⟨L0,z1,z2⟩:∃ L0:Lp,L0.a1=0∧L0.a2=1:=⟨{L with a1:=0,a2:=1},rfl,rfl⟩
 have e:=step_vw q1 q2 (by rw [z1];rfl:L0.a1=(0:Nat)) (by rw [z2];rfl:L0.a2=(1:Nat)) hl hu hk
 have d:=did_vw q1 q2 (by rw [z1];rfl:L0.a1=(0:Nat)) (by rw [z2];rfl:L0.a2=(1:Nat)) hl hu hk
 obtain ⟨g',W',nx',ow',hJ,_,hQ⟩:=h.step z1 z2 (k:Int)
 refine ⟨g',W',⟨by rw [(step_len (f:=f) (L:=L) k u).1];exact hl,nx',ow',?_⟩,?_,λo' n' ha=>step_off q1 q2 ha⟩
 ·rw [step_n,e]
  have hac:=hJ.ac
  exact hJ.psS hJ.ws (by rw [hac];show (List.replicate f.s.n 0).length=_;rw [List.length_replicate,step_n];rfl)
 ·rw [d];exact hQ
theorem company (h:In f o g W) (h1:L.a1=o) (h2:L.a2=(o:Int)+1) {k u:Nat} (hk:k<f.s.n) (hu:u<f.ps.ac.length) (hs:f.s.st k=4):((f.did L k u).ev=4∧W=[])∨((f.did L k u).ev=5∧W≠[]):=by
 obtain ⟨hl,nx,ow,h⟩:=h
 have q1:L.a1=(o:Int)+(0:Nat):=by rw [h1];omega
 have q2:L.a2=(o:Int)+(1:Nat):=by rw [h2];omega
 obtain ⟨L0,z1,z2⟩:∃ L0:Lp,L0.a1=0∧L0.a2=1:=⟨{L with a1:=0,a2:=1},rfl,rfl⟩
 rw [did_vw q1 q2 (by rw [z1];rfl:L0.a1=(0:Nat)) (by rw [z2];rfl:L0.a2=(1:Nat)) hl hu hk]
 have hg:g=some k:=h.held (k:=k) hk (.inr (.inr hs))
 subst hg
 have ht:0≤(k:Int)∧(k:Int)<(f.vw o 2 f.s.n).s.n:=by have:(f.vw o 2 f.s.n).s.n=f.s.n:=rfl;omega
 have hac:k<(f.vw o 2 f.s.n).ps.ac.length:=by rw [h.ac];exact hk
 obtain ⟨e1,_⟩:=do_load h.ws hac 0 (.inl rfl)
 have hn:=h.nxt
 have hm:=h.num 0 k rfl
 have h8:=h.len
 have hr:=h.rng
 have st4:(f.vw o 2 f.s.n).s.st k=4:=hs
 unfold FL.did
 rw [if_pos ht,Int.toNat_natCast,if_neg (by omega),if_neg (by omega),if_pos st4]
 unfold FL.askD
 rw [z1,e1,if_pos rfl,hm]
 simp only [Option.toList_some,List.length_append,List.length_singleton] at hn h8
 cases W with
 |nil=>
  left
  rw [if_pos (by simp at hn;omega)]
  exact ⟨rfl,rfl⟩
 |cons a W=>
  right
  rw [if_neg (by simp at hn h8;omega)]
  exact ⟨rfl,by simp⟩
end In
end Go.Proofs.YtcikfcplagelaaaGreat.Kf
namespace Go.Proofs.YtcikfcplagelaaaGreat.Kc
set_option linter.unusedVariables false
set_option maxRecDepth 100000
def FL.vw (f:FL) (o n m:Nat):FL:={f with ps:=f.ps.vw o n m}
def FL.nrm (f:FL) (m:Nat):FL:={f with ps:=f.ps.nrm m}
section
variable {f:FL} {L L0:Lp} {o m k u x:Nat}
structure Adr (f:FL) (L L0:Lp) (o m k u x:Nat):Prop where
 h1:L.a1=(o:Int)+(0:Nat)
 h2:L.a2=(o:Int)+1
 z1:L0.a1=(0:Nat)
 z2:L0.a2=1
 hl:o+(m+2)≤f.ps.ws.length
 hu:u<f.ps.ac.length
 hm:k<m
 hx:f.node k=(x:Int)
 hx2:x<m+1
 hy:f.s.st k=1→f.pc k≠0→f.pc k≠1→∃ y:Nat,f.ahd k=(y:Int)∧y<m+1
theorem did_vw (h:Adr f L L0 o m k u x):f.did L k u=(f.vw o (m+2) m).did L0 k k:=by
 have t:=λi K (hi:i<m+2)=>tell_vw (v:=k) (m:=m) (n:=m+2) (i:=i) h.hu h.hm hi h.hl K
 have t0:=λK=>t 0 K (by omega)
 show (if 0≤(k:Int)∧(k:Int)<f.s.n then _ else _)=(if 0≤(k:Int)∧(k:Int)<f.s.n then _ else _)
 by_cases ht:0≤(k:Int)∧(k:Int)<f.s.n
 ·rw [if_pos ht,if_pos ht,Int.toNat_natCast]
  show (if f.s.st k=1 then _ else _)=(if f.s.st k=1 then _ else _)
  by_cases s1:f.s.st k=1
  ·rw [if_pos s1,if_pos s1]
   unfold FL.acqD
   show (if f.pc k=0 then _ else _)=(if f.pc k=0 then _ else _)
   by_cases p0:f.pc k=0
   ·rw [if_pos p0,if_pos p0]
   rw [if_neg p0,if_neg p0]
   show (if f.pc k=1 then _ else _)=(if f.pc k=1 then _ else _)
   by_cases p1:f.pc k=1
   ·rw [if_pos p1,if_pos p1]
   rw [if_neg p1,if_neg p1]
   obtain ⟨y,hy,hy2⟩:=h.hy s1 p0 p1
   show (if tellS f.ps u 1 (L.a2+f.ahd k)=0 then _ else _)=(if tellS (f.ps.vw o (m+2) m) k 1 (L0.a2+f.ahd k)=0 then _ else _)
   rw [h.h2,h.z2,hy,show (o:Int)+1+y=(o:Int)+((1+y:Nat):Int) by omega,t (1+y) 1 (by omega),show (1:Int)+(y:Int)=((1+y:Nat):Int) by omega]
  ·rw [if_neg s1,if_neg s1]
   show (if f.s.st k=3 then _ else _)=(if f.s.st k=3 then _ else _)
   by_cases s3:f.s.st k=3
   ·rw [if_pos s3,if_pos s3]
   rw [if_neg s3,if_neg s3]
   show (if f.s.st k=4 then _ else _)=(if f.s.st k=4 then _ else _)
   by_cases s4:f.s.st k=4
   ·rw [if_pos s4,if_pos s4]
    unfold FL.askD
    show (if tellS f.ps u 1 L.a1=f.node k then _ else _)=(if tellS (f.ps.vw o (m+2) m) k 1 L0.a1=f.node k then _ else _)
    rw [h.h1,h.z1,t0]
   ·rw [if_neg s4,if_neg s4]
 ·rw [if_neg ht,if_neg ht]
theorem mid_vw (h:Adr f L L0 o m k u x):(f.mid L k u).vw o (m+2) m=((f.vw o (m+2) m).mid L0 k k).nrm m:=by
 have t0:=λK=>tell_vw (v:=k) (m:=m) (n:=m+2) (i:=0) h.hu h.hm (by omega) h.hl K
 have d:=λi K old x (hi:i<m+2)=>do_vw (v:=k) (m:=m) (n:=m+2) (i:=i) h.hu h.hm hi h.hl K old x
 have e2:∀ y:Nat,(o:Int)+1+(y:Int)=(o:Int)+((1+y:Nat):Int):=λy=>by omega
 have e3:∀ y:Nat,(1:Int)+(y:Int)=((1+y:Nat):Int):=λy=>by omega
 have hx2:=h.hx2
 unfold FL.mid
 show FL.vw (if 0≤(k:Int)∧(k:Int)<f.s.n then _ else _) o (m+2) m=FL.nrm (if 0≤(k:Int)∧(k:Int)<f.s.n then _ else _) m
 by_cases ht:0≤(k:Int)∧(k:Int)<f.s.n
 ·rw [if_pos ht,if_pos ht,Int.toNat_natCast]
  show FL.vw (if f.s.st k=1 then _ else _) o (m+2) m=FL.nrm (if f.s.st k=1 then _ else _) m
  by_cases s1:f.s.st k=1
  ·rw [if_pos s1,if_pos s1]
   unfold FL.acq
   show FL.vw (if f.pc k=0 then _ else _) o (m+2) m=FL.nrm (if f.pc k=0 then _ else _) m
   by_cases p0:f.pc k=0
   ·rw [if_pos p0,if_pos p0]
    unfold FL.vw FL.nrm
    dsimp only
    rw [h.h2,h.z2,h.hx,e2,d (1+x) _ _ _ (by omega),e3]
   rw [if_neg p0,if_neg p0]
   show FL.vw (if f.pc k=1 then _ else _) o (m+2) m=FL.nrm (if f.pc k=1 then _ else _) m
   by_cases p1:f.pc k=1
   ·rw [if_pos p1,if_pos p1]
    unfold FL.vw FL.nrm
    dsimp only
    rw [h.h1,h.z1,d 0 _ _ _ (by omega),t0]
   rw [if_neg p1,if_neg p1]
   obtain ⟨y,hy,hy2⟩:=h.hy s1 p0 p1
   unfold FL.vw FL.nrm
   dsimp only
   rw [h.h2,h.z2,hy,e2,d (1+y) _ _ _ (by omega),e3]
  ·rw [if_neg s1,if_neg s1]
   show FL.vw (if f.s.st k=3 then _ else _) o (m+2) m=FL.nrm (if f.s.st k=3 then _ else _) m
   by_cases s3:f.s.st k=3
   ·rw [if_pos s3,if_pos s3]
    unfold FL.rel FL.vw FL.nrm
    dsimp only
    rw [h.h2,h.z2,h.hx,e2,d (1+x) _ _ _ (by omega),e3]
   rw [if_neg s3,if_neg s3]
   show FL.vw (if f.s.st k=4 then _ else _) o (m+2) m=FL.nrm (if f.s.st k=4 then _ else _) m
   by_cases s4:f.s.st k=4
   ·rw [if_pos s4,if_pos s4]
    unfold FL.ask FL.vw FL.nrm
    dsimp only
    rw [h.h1,h.z1,d 0 _ _ _ (by omega)]
   ·rw [if_neg s4,if_neg s4]
    rfl
 ·rw [if_neg ht,if_neg ht]
  rfl
theorem step_vw (h:Adr f L L0 o m k u x):(f.step L k u).vw o (m+2) m=((f.vw o (m+2) m).step L0 k k).nrm m:=by
 have e:=mid_vw h
 have d:=did_vw h
 unfold FL.step
 rw [d]
 have:({f.mid L k u with s:=f.s.fin k ((f.vw o (m+2) m).did L0 k k).ev}:FL).vw o (m+2) m={(f.mid L k u).vw o (m+2) m with s:=f.s.fin k ((f.vw o (m+2) m).did L0 k k).ev}:=rfl
 rw [this,e]
 rfl
theorem step_off (h:Adr f L L0 o m k u x) {o' n':Nat} (ha:o+(m+2)≤o'∨o'+n'≤o):sub (f.step L k u).ps.ws o' n'=sub f.ps.ws o' n':=by
 have key:∀ (i:Nat) K old x,i<m+2→sub (doS f.ps u K ((o:Int)+i) old x).ws o' n'=sub f.ps.ws o' n':=λi K old x hi=>do_off K old x (by omega)
 have e2:∀ y:Nat,(o:Int)+1+(y:Int)=(o:Int)+((1+y:Nat):Int):=λy=>by omega
 have hx2:=h.hx2
 show sub (f.mid L k u).ps.ws o' n'=_
 unfold FL.mid
 split
 ·rw [Int.toNat_natCast]
  split
  ·rename_i s1
   unfold FL.acq
   by_cases p0:f.pc k=0
   ·rw [if_pos p0,h.h2,h.hx,e2];exact key _ _ _ _ (by omega)
   rw [if_neg p0]
   by_cases p1:f.pc k=1
   ·rw [if_pos p1,h.h1];exact key 0 _ _ _ (by omega)
   rw [if_neg p1]
   obtain ⟨y,hy,hy2⟩:=h.hy s1 p0 p1
   rw [h.h2,hy,e2];exact key _ _ _ _ (by omega)
  ·split
   ·unfold FL.rel;rw [h.h2,h.hx,e2];exact key _ _ _ _ (by omega)
   ·split
    ·unfold FL.ask;rw [h.h1];exact key 0 _ _ _ (by omega)
    ·rfl
 ·rfl
theorem step_len (t u:Int):(f.step L t u).ps.ws.length=f.ps.ws.length∧(f.step L t u).ps.ac.length=f.ps.ac.length:=by
 show (f.mid L t u).ps.ws.length=_∧(f.mid L t u).ps.ac.length=_
 unfold FL.mid FL.acq FL.rel FL.ask doS
 repeat' split
 all_goals first|exact ⟨rfl,rfl⟩|(dsimp only [touchS];exact ⟨doL_len _ _ _ _ _,bump_len _ _ _⟩)
theorem step_n (t u:Int):(f.step L t u).s.n=f.s.n:=SS.fin_n _ _ _
end
def In (f:FL) (o:Nat) (g:Option Nat) (W:List Nat):Prop:=o+(f.s.n+2)≤f.ps.ws.length∧∃ e,OrdJ (f.vw o (f.s.n+2) f.s.n) g W e
namespace In
variable {f:FL} {o:Nat} {g:Option Nat} {W:List Nat} {L:Lp}
theorem lock (h:In f o g W) (t d:Int):In (f.lock t d) o g W:=by
 obtain ⟨hl,e0,h⟩:=h
 have en:(f.lock t d).s.n=f.s.n:=SS.lock_n _ _ _
 refine ⟨by rw [en];exact hl,e0,?_⟩
 rw [en]
 exact h.lock t d
theorem turn (h:In f o g W) (t x:Int) (hx:x=3∨x=4):In (f.turn t x) o g W:=by
 obtain ⟨hl,e0,h⟩:=h
 have en:(f.turn t x).s.n=f.s.n:=SS.turn_n _ _ _
 refine ⟨by rw [en];exact hl,e0,?_⟩
 rw [en]
 exact h.turn t x hx
theorem far (h:In f o g W) {ps:PSta} (hl:ps.ws.length=f.ps.ws.length) (hw:sub ps.ws o (f.s.n+2)=sub f.ps.ws o (f.s.n+2)):In {f with ps:=ps} o g W:=by
 obtain ⟨hl0,e0,h⟩:=h
 refine ⟨by show o+(f.s.n+2)≤ps.ws.length;omega,e0,?_⟩
 have e:({f with ps:=ps}:FL).vw o (f.s.n+2) f.s.n=f.vw o (f.s.n+2) f.s.n:=by
  unfold FL.vw PSta.vw
  rw [hw]
 show OrdJ (({f with ps:=ps}:FL).vw o (f.s.n+2) f.s.n) g W e0
 rw [e]
 exact h
theorem adr {e0:Int} (hl:o+(f.s.n+2)≤f.ps.ws.length) (h:OrdJ (f.vw o (f.s.n+2) f.s.n) g W e0) (h1:L.a1=o) (h2:L.a2=(o:Int)+1) {k u:Nat} (hk:k<f.s.n) (hu:u<f.ps.ac.length):∃ x,Adr f L {L with a1:=0,a2:=1} o f.s.n k u x:=by
 obtain ⟨x,hx,hx2⟩:=h.flagN (k:=k) hk
 refine ⟨x,by rw [h1];omega,h2,rfl,rfl,hl,hu,hk,hx,hx2,λs1 p0 p1=> ?_⟩
 have p2:f.pc k=2:=by have:=h.prg k;have e:(f.vw o (f.s.n+2) f.s.n).pc k=f.pc k:=rfl;rw [e] at this;omega
 have hm:=h.waits (k:=k) hk s1 p2
 rcases h.looks hm with ⟨_,_,_,he⟩|⟨j,hj,_,he⟩
 ·obtain ⟨y,hy,hy2⟩:=h.flagE
  exact ⟨y,by have:f.ahd k=e0:=he;rw [this,hy],hy2⟩
 ·obtain ⟨y,hy,hy2⟩:=h.flagN (k:=j) hj
  exact ⟨y,by have:f.ahd k=f.node j:=he;rw [this];exact hy,hy2⟩
theorem step (h:In f o g W) (h1:L.a1=o) (h2:L.a2=(o:Int)+1) {k u:Nat} (hk:k<f.s.n) (hu:u<f.ps.ac.length):
  ∃ g' W',In (f.step L k u) o g' W'∧OrdJ.StepQ W k (f.did L k u) W'∧(∀ o' n',o+(f.s.n+2)≤o'∨o'+n'≤o→sub (f.step L k u).ps.ws o' n'=sub f.ps.ws o' n'):=by
 obtain ⟨hl,e0,h⟩:=h
 obtain ⟨x,hA⟩:=adr hl h h1 h2 hk hu
 have e:=step_vw hA
 have d:=did_vw hA
 obtain ⟨g',W',e',hJ,_,hQ⟩:=h.step (L:={L with a1:=0,a2:=1}) rfl rfl (k:Int)
 refine ⟨g',W',⟨by rw [step_n,(step_len (f:=f) (L:=L) k u).1];exact hl,e',?_⟩,?_,λo' n' ha=>step_off hA ha⟩
 ·rw [step_n,e]
  have hac:=hJ.ac
  exact hJ.psS rfl (by rw [hac];show (List.replicate f.s.n 0).length=_;rw [List.length_replicate,step_n];rfl)
 ·rw [d];exact hQ
theorem company (h:In f o g W) (h1:L.a1=o) (h2:L.a2=(o:Int)+1) {k u:Nat} (hk:k<f.s.n) (hu:u<f.ps.ac.length) (hs:f.s.st k=4) (hW:W=[]):(f.did L k u).ev=4:=by
 obtain ⟨hl,e0,h⟩:=h
 subst hW
 obtain ⟨x,hA⟩:=adr hl h h1 h2 hk hu
 rw [did_vw hA]
 have hg:g=some k:=h.held (k:=k) hk (.inr (.inr hs))
 subst hg
 have ht:0≤(k:Int)∧(k:Int)<(f.vw o (f.s.n+2) f.s.n).s.n:=by have:(f.vw o (f.s.n+2) f.s.n).s.n=f.s.n:=rfl;omega
 have hac:k<(f.vw o (f.s.n+2) f.s.n).ps.ac.length:=by rw [h.ac];exact hk
 obtain ⟨fl,w1,_⟩:=h.ws
 obtain ⟨e1,_⟩:=do_load (a:=0) (i:=0) w1 hac rfl (by simp)
 have st4:(f.vw o (f.s.n+2) f.s.n).s.st k=4:=hs
 unfold FL.did
 rw [if_pos ht,Int.toNat_natCast,if_neg (by omega),if_neg (by omega),if_pos st4]
 unfold FL.askD
 rw [show ({L with a1:=0,a2:=1}:Lp).a1=0 from rfl,e1,if_pos (by rfl)]
end In
end Go.Proofs.YtcikfcplagelaaaGreat.Kc
namespace Go.Proofs.YtcikfcplagelaaaGreat.Km
set_option linter.unusedVariables false
set_option maxRecDepth 100000
def FL.vw (f:FL) (o n m:Nat):FL:={f with ps:=f.ps.vw o n m}
def FL.nrm (f:FL) (m:Nat):FL:={f with ps:=f.ps.nrm m}
section
variable {f:FL} {L L0:Lp} {o m k u:Nat}
structure Adr (f:FL) (L L0:Lp) (o m k u:Nat):Prop where
 h1:L.a1=(o:Int)+(0:Nat)
 h2:L.a2=(o:Int)+1
 z1:L0.a1=(0:Nat)
 z2:L0.a2=1
 hl:o+(2*m+1)≤f.ps.ws.length
 hu:u<f.ps.ac.length
 hm:k<m
 hy:f.s.st k=1→f.pc k=3→∃ y:Nat,f.oth k=(y:Int)+1∧y<m
 hz:f.s.st k=3→f.pc k≠0→f.pc k≠1→f.pc k≠2→∃ y:Nat,f.oth k=(y:Int)+1∧y<m
theorem nx_o (h:Adr f L L0 o m k u) (y:Nat):L.nx (y:Int)=(o:Int)+((1+2*y:Nat):Int)∧L0.nx (y:Int)=((1+2*y:Nat):Int):=by
 unfold Lp.nx;rw [h.h2,h.z2];omega
theorem lk_o (h:Adr f L L0 o m k u) (y:Nat):L.lk (y:Int)=(o:Int)+((2+2*y:Nat):Int)∧L0.lk (y:Int)=((2+2*y:Nat):Int):=by
 unfold Lp.lk;rw [h.h2,h.z2];omega
theorem cas_o (h:Adr f L L0 o m k u) (old:Int):casT f.ps u L.a1 old=casT (f.ps.vw o (2*m+1) m) k L0.a1 old:=by
 rw [h.h1,h.z1]
 exact cast_vw h.hu h.hm (by omega) h.hl old
theorem did_vw (h:Adr f L L0 o m k u):f.did L k u=(f.vw o (2*m+1) m).did L0 k k:=by
 have t:=λi K (hi:i<2*m+1)=>tell_vw (v:=k) (m:=m) (n:=2*m+1) (i:=i) h.hu h.hm hi h.hl K
 have t0:∀ K,tellS f.ps u K L.a1=tellS (f.ps.vw o (2*m+1) m) k K L0.a1:=λK=>by rw [h.h1,h.z1];exact t 0 K (by omega)
 have hm:=h.hm
 have tn:∀ K,tellS f.ps u K (L.nx (k:Int))=tellS (f.ps.vw o (2*m+1) m) k K (L0.nx (k:Int)):=λK=>by rw [(nx_o h k).1,(nx_o h k).2];exact t _ K (by omega)
 have tk:∀ K,tellS f.ps u K (L.lk (k:Int))=tellS (f.ps.vw o (2*m+1) m) k K (L0.lk (k:Int)):=λK=>by rw [(lk_o h k).1,(lk_o h k).2];exact t _ K (by omega)
 unfold FL.did FL.acqD FL.relD FL.askD
 rw [Int.toNat_natCast,t0,tk,tn,cas_o h]
 rfl
theorem mid_vw (h:Adr f L L0 o m k u):(f.mid L k u).vw o (2*m+1) m=((f.vw o (2*m+1) m).mid L0 k k).nrm m:=by
 have t:=λi K (hi:i<2*m+1)=>tell_vw (v:=k) (m:=m) (n:=2*m+1) (i:=i) h.hu h.hm hi h.hl K
 have hm:=h.hm
 have d:=λi K old x (hi:i<2*m+1)=>do_vw (v:=k) (m:=m) (n:=2*m+1) (i:=i) h.hu h.hm hi h.hl K old x
 have t0:∀ K,tellS f.ps u K L.a1=tellS (f.ps.vw o (2*m+1) m) k K L0.a1:=λK=>by rw [h.h1,h.z1];exact t 0 K (by omega)
 have tn:∀ K,tellS f.ps u K (L.nx (k:Int))=tellS (f.ps.vw o (2*m+1) m) k K (L0.nx (k:Int)):=λK=>by rw [(nx_o h k).1,(nx_o h k).2];exact t _ K (by omega)
 have tk:∀ K,tellS f.ps u K (L.lk (k:Int))=tellS (f.ps.vw o (2*m+1) m) k K (L0.lk (k:Int)):=λK=>by rw [(lk_o h k).1,(lk_o h k).2];exact t _ K (by omega)
 have d0:∀ K old x,(doS f.ps u K L.a1 old x).vw o (2*m+1) m=(doS (f.ps.vw o (2*m+1) m) k K L0.a1 old x).nrm m:=λK old x=>by rw [h.h1,h.z1];exact d 0 K old x (by omega)
 have dn:∀ (y:Nat) K old x,y<m→(doS f.ps u K (L.nx (y:Int)) old x).vw o (2*m+1) m=(doS (f.ps.vw o (2*m+1) m) k K (L0.nx (y:Int)) old x).nrm m:=λy K old x hy=>by rw [(nx_o h y).1,(nx_o h y).2];exact d _ K old x (by omega)
 have dk:∀ (y:Nat) K old x,y<m→(doS f.ps u K (L.lk (y:Int)) old x).vw o (2*m+1) m=(doS (f.ps.vw o (2*m+1) m) k K (L0.lk (y:Int)) old x).nrm m:=λy K old x hy=>by rw [(lk_o h y).1,(lk_o h y).2];exact d _ K old x (by omega)
 have cc:=cas_o h
 unfold FL.mid
 show FL.vw (if 0≤(k:Int)∧(k:Int)<f.s.n then _ else _) o (2*m+1) m=FL.nrm (if 0≤(k:Int)∧(k:Int)<f.s.n then _ else _) m
 by_cases ht:0≤(k:Int)∧(k:Int)<f.s.n
 ·rw [if_pos ht,if_pos ht,Int.toNat_natCast]
  show FL.vw (if f.s.st k=1 then _ else _) o (2*m+1) m=FL.nrm (if f.s.st k=1 then _ else _) m
  by_cases s1:f.s.st k=1
  ·rw [if_pos s1,if_pos s1]
   unfold FL.acq
   show FL.vw (if f.pc k=0 then _ else _) o (2*m+1) m=FL.nrm (if f.pc k=0 then _ else _) m
   by_cases p0:f.pc k=0
   ·rw [if_pos p0,if_pos p0]
    unfold FL.vw FL.nrm
    dsimp only
    rw [dn k _ _ _ hm]
   rw [if_neg p0,if_neg p0]
   show FL.vw (if f.pc k=1 then _ else _) o (2*m+1) m=FL.nrm (if f.pc k=1 then _ else _) m
   by_cases p1:f.pc k=1
   ·rw [if_pos p1,if_pos p1]
    unfold FL.vw FL.nrm
    dsimp only
    rw [d0,t0]
   rw [if_neg p1,if_neg p1]
   show FL.vw (if f.pc k=2 then _ else _) o (2*m+1) m=FL.nrm (if f.pc k=2 then _ else _) m
   by_cases p2:f.pc k=2
   ·rw [if_pos p2,if_pos p2]
    unfold FL.vw FL.nrm
    dsimp only
    rw [dk k _ _ _ hm]
   rw [if_neg p2,if_neg p2]
   show FL.vw (if f.pc k=3 then _ else _) o (2*m+1) m=FL.nrm (if f.pc k=3 then _ else _) m
   by_cases p3:f.pc k=3
   ·rw [if_pos p3,if_pos p3]
    obtain ⟨y,hy,hy2⟩:=h.hy s1 p3
    unfold FL.vw FL.nrm
    dsimp only
    rw [hy,show (y:Int)+1-1=(y:Int) by omega,dn y _ _ _ hy2]
   rw [if_neg p3,if_neg p3]
   unfold FL.vw FL.nrm
   dsimp only
   rw [dk k _ _ _ hm,tk]
  ·rw [if_neg s1,if_neg s1]
   show FL.vw (if f.s.st k=3 then _ else _) o (2*m+1) m=FL.nrm (if f.s.st k=3 then _ else _) m
   by_cases s3:f.s.st k=3
   ·rw [if_pos s3,if_pos s3]
    unfold FL.rel
    show FL.vw (if f.pc k=0 then _ else _) o (2*m+1) m=FL.nrm (if f.pc k=0 then _ else _) m
    by_cases p0:f.pc k=0
    ·rw [if_pos p0,if_pos p0]
     unfold FL.vw FL.nrm
     dsimp only
     rw [dn k _ _ _ hm,tn]
    rw [if_neg p0,if_neg p0]
    show FL.vw (if f.pc k=1 then _ else _) o (2*m+1) m=FL.nrm (if f.pc k=1 then _ else _) m
    by_cases p1:f.pc k=1
    ·rw [if_pos p1,if_pos p1]
     unfold FL.vw FL.nrm
     dsimp only
     rw [d0,cc]
    rw [if_neg p1,if_neg p1]
    show FL.vw (if f.pc k=2 then _ else _) o (2*m+1) m=FL.nrm (if f.pc k=2 then _ else _) m
    by_cases p2:f.pc k=2
    ·rw [if_pos p2,if_pos p2]
     unfold FL.vw FL.nrm
     dsimp only
     rw [dn k _ _ _ hm,tn]
    rw [if_neg p2,if_neg p2]
    obtain ⟨y,hy,hy2⟩:=h.hz s3 p0 p1 p2
    unfold FL.vw FL.nrm
    dsimp only
    rw [hy,show (y:Int)+1-1=(y:Int) by omega,dk y _ _ _ hy2]
   ·rw [if_neg s3,if_neg s3]
    show FL.vw (if f.s.st k=4 then _ else _) o (2*m+1) m=FL.nrm (if f.s.st k=4 then _ else _) m
    by_cases s4:f.s.st k=4
    ·rw [if_pos s4,if_pos s4]
     unfold FL.ask FL.vw FL.nrm
     dsimp only
     rw [dn k _ _ _ hm]
    ·rw [if_neg s4,if_neg s4]
     rfl
 ·rw [if_neg ht,if_neg ht]
  rfl
theorem step_vw (h:Adr f L L0 o m k u):(f.step L k u).vw o (2*m+1) m=((f.vw o (2*m+1) m).step L0 k k).nrm m:=by
 have e:=mid_vw h
 have d:=did_vw h
 unfold FL.step
 rw [d]
 have:({f.mid L k u with s:=f.s.fin k ((f.vw o (2*m+1) m).did L0 k k).ev}:FL).vw o (2*m+1) m={(f.mid L k u).vw o (2*m+1) m with s:=f.s.fin k ((f.vw o (2*m+1) m).did L0 k k).ev}:=rfl
 rw [this,e]
 rfl
theorem step_off (h:Adr f L L0 o m k u) {o' n':Nat} (ha:o+(2*m+1)≤o'∨o'+n'≤o):sub (f.step L k u).ps.ws o' n'=sub f.ps.ws o' n':=by
 have hm:=h.hm
 have key:∀ (i:Nat) K old x,i<2*m+1→sub (doS f.ps u K ((o:Int)+i) old x).ws o' n'=sub f.ps.ws o' n':=λi K old x hi=>do_off K old x (by omega)
 have k0:∀ K old x,sub (doS f.ps u K L.a1 old x).ws o' n'=sub f.ps.ws o' n':=λK old x=>by rw [h.h1];exact key 0 K old x (by omega)
 have kn:∀ (y:Nat) K old x,y<m→sub (doS f.ps u K (L.nx (y:Int)) old x).ws o' n'=sub f.ps.ws o' n':=λy K old x hy=>by rw [(nx_o h y).1];exact key _ K old x (by omega)
 have kk:∀ (y:Nat) K old x,y<m→sub (doS f.ps u K (L.lk (y:Int)) old x).ws o' n'=sub f.ps.ws o' n':=λy K old x hy=>by rw [(lk_o h y).1];exact key _ K old x (by omega)
 show sub (f.mid L k u).ps.ws o' n'=_
 unfold FL.mid
 split
 ·rw [Int.toNat_natCast]
  split
  ·rename_i s1
   unfold FL.acq
   by_cases p0:f.pc k=0
   ·rw [if_pos p0];exact kn k _ _ _ hm
   rw [if_neg p0]
   by_cases p1:f.pc k=1
   ·rw [if_pos p1];exact k0 _ _ _
   rw [if_neg p1]
   by_cases p2:f.pc k=2
   ·rw [if_pos p2];exact kk k _ _ _ hm
   rw [if_neg p2]
   by_cases p3:f.pc k=3
   ·rw [if_pos p3]
    obtain ⟨y,hy,hy2⟩:=h.hy s1 p3
    rw [hy,show (y:Int)+1-1=(y:Int) by omega]
    exact kn y _ _ _ hy2
   rw [if_neg p3]
   exact kk k _ _ _ hm
  ·split
   ·rename_i s3
    unfold FL.rel
    by_cases p0:f.pc k=0
    ·rw [if_pos p0];exact kn k _ _ _ hm
    rw [if_neg p0]
    by_cases p1:f.pc k=1
    ·rw [if_pos p1];exact k0 _ _ _
    rw [if_neg p1]
    by_cases p2:f.pc k=2
    ·rw [if_pos p2];exact kn k _ _ _ hm
    rw [if_neg p2]
    obtain ⟨y,hy,hy2⟩:=h.hz s3 p0 p1 p2
    rw [hy,show (y:Int)+1-1=(y:Int) by omega]
    exact kk y _ _ _ hy2
   ·split
    ·unfold FL.ask;exact kn k _ _ _ hm
    ·rfl
 ·rfl
theorem step_len (t u:Int):(f.step L t u).ps.ws.length=f.ps.ws.length∧(f.step L t u).ps.ac.length=f.ps.ac.length:=by
 show (f.mid L t u).ps.ws.length=_∧(f.mid L t u).ps.ac.length=_
 unfold FL.mid FL.acq FL.rel FL.ask
 repeat' split
 all_goals first|exact ⟨rfl,rfl⟩|exact do_len' _ _ _ _ _ _
theorem step_n (t u:Int):(f.step L t u).s.n=f.s.n:=SS.fin_n _ _ _
end
def In (f:FL) (o:Nat) (g:Option Nat) (W:List Nat):Prop:=o+(2*f.s.n+1)≤f.ps.ws.length∧OrdJ (f.vw o (2*f.s.n+1) f.s.n) g W
namespace In
variable {f:FL} {o:Nat} {g:Option Nat} {W:List Nat} {L:Lp}
theorem lock (h:In f o g W) (t d:Int):In (f.lock t d) o g W:=by
 obtain ⟨hl,h⟩:=h
 have en:(f.lock t d).s.n=f.s.n:=SS.lock_n _ _ _
 refine ⟨by rw [en];exact hl,?_⟩
 rw [en]
 exact h.lock t d
theorem turn (h:In f o g W) (t x:Int) (hx:x=3∨x=4):In (f.turn t x) o g W:=by
 obtain ⟨hl,h⟩:=h
 have en:(f.turn t x).s.n=f.s.n:=SS.turn_n _ _ _
 refine ⟨by rw [en];exact hl,?_⟩
 rw [en]
 exact h.turn t x hx
theorem far (h:In f o g W) {ps:PSta} (hl:ps.ws.length=f.ps.ws.length) (hw:sub ps.ws o (2*f.s.n+1)=sub f.ps.ws o (2*f.s.n+1)):In {f with ps:=ps} o g W:=by
 obtain ⟨hl0,h⟩:=h
 refine ⟨by show o+(2*f.s.n+1)≤ps.ws.length;omega,?_⟩
 have e:({f with ps:=ps}:FL).vw o (2*f.s.n+1) f.s.n=f.vw o (2*f.s.n+1) f.s.n:=by
  unfold FL.vw PSta.vw
  rw [hw]
 show OrdJ (({f with ps:=ps}:FL).vw o (2*f.s.n+1) f.s.n) g W
 rw [e]
 exact h
theorem adr (hl:o+(2*f.s.n+1)≤f.ps.ws.length) (h:OrdJ (f.vw o (2*f.s.n+1) f.s.n) g W) (h1:L.a1=o) (h2:L.a2=(o:Int)+1) {k u:Nat} (hk:k<f.s.n) (hu:u<f.ps.ac.length):Adr f L {L with a1:=0,a2:=1} o f.s.n k u:=by
 refine ⟨by rw [h1];omega,h2,rfl,rfl,hl,hu,hk,λs1 p3=> ?_,λs3 p0 p1 p2=> ?_⟩
 ·obtain ⟨i,hi,ho⟩:=h.cor.ahead (k:=k) hk s1 (.inr p3)
  exact ⟨i,ho,hi⟩
 ·have hg:=h.cor.held (k:=k) hk (.inr (.inl s3))
  have hp:f.pc k≤3:=h.cor.pc3 k hk s3
  have hr:0≤f.pc k:=(h.cor.prg k).1
  obtain ⟨j,r,hW,ho,_⟩:=h.cor.un3 k hg s3 (by show f.pc k=3;omega)
  exact ⟨j,ho,h.cor.lt j (by rw [hW];simp)⟩
theorem step (h:In f o g W) (h1:L.a1=o) (h2:L.a2=(o:Int)+1) {k u:Nat} (hk:k<f.s.n) (hu:u<f.ps.ac.length):
  ∃ g' W',In (f.step L k u) o g' W'∧OrdJ.StepQ W k (f.did L k u) W'∧(∀ o' n',o+(2*f.s.n+1)≤o'∨o'+n'≤o→sub (f.step L k u).ps.ws o' n'=sub f.ps.ws o' n'):=by
 obtain ⟨hl,h⟩:=h
 have hA:=adr hl h h1 h2 hk hu
 have e:=step_vw hA
 have d:=did_vw hA
 obtain ⟨g',W',x,p,hS⟩:=h.stp (L:={L with a1:=0,a2:=1}) rfl rfl (k:=k) hk
 have hJ:=hS.ord
 refine ⟨g',W',⟨by rw [step_n,(step_len (f:=f) (L:=L) k u).1];exact hl,?_⟩,?_,λo' n' ha=>step_off hA ha⟩
 ·rw [step_n,e]
  exact ⟨hJ.n8,hJ.len,by show (List.replicate f.s.n 0).length=_;rw [List.length_replicate];exact (step_n (f:=f.vw o (2*f.s.n+1) f.s.n) (k:Int) (k:Int)).symm,hJ.cor⟩
 ·rw [d];exact hS.q
theorem company (h:In f o g W) (h1:L.a1=o) (h2:L.a2=(o:Int)+1) {k u:Nat} (hk:k<f.s.n) (hu:u<f.ps.ac.length) (hs:f.s.st k=4) (hW:W=[]):(f.did L k u).ev=4:=by
 obtain ⟨hl,h⟩:=h
 subst hW
 have hA:=adr hl h h1 h2 hk hu
 rw [did_vw hA]
 have hg:g=some k:=h.cor.held (k:=k) hk (.inr (.inr hs))
 subst hg
 have hac:k<(f.vw o (2*f.s.n+1) f.s.n).ps.ac.length:=by rw [h.ac];exact hk
 have hlen:=h.len
 have hk2:k<(f.vw o (2*f.s.n+1) f.s.n).s.n:=hk
 obtain ⟨e1,_⟩:=do_load hac (OrdJ.nxA (L:={L with a1:=0,a2:=1}) rfl k) (show 1+2*k<(f.vw o (2*f.s.n+1) f.s.n).ps.ws.length by omega)
 have hn:wN (f.vw o (2*f.s.n+1) f.s.n).ps k=0:=h.cor.ch
 rw [(OrdJ.at_four (L:={L with a1:=0,a2:=1}) (f:=f.vw o (2*f.s.n+1) f.s.n) hk hs).1]
 unfold FL.askD
 rw [e1]
 unfold wN at hn
 rw [hn,if_pos rfl]
end In
end Go.Proofs.YtcikfcplagelaaaGreat.Km
namespace Go.Proofs.YtcikfcplagelaaaGreat
set_option linter.unusedVariables false
set_option maxRecDepth 100000
namespace Kf
theorem did_at {f:FL} {L:Lp} {k u:Nat} (hk:k<f.s.n):
  (f.s.st k=1→((f.did L k u).ev=0∨(f.did L k u).ev=1)∧(f.did L k u).arr=false∧(f.did L k u).lead=false)∧
  (f.s.st k=3→((f.did L k u).ev=0∨(f.did L k u).ev=3)∧(f.did L k u).enq=false)∧
  (f.s.st k=4→((f.did L k u).ev=4∨(f.did L k u).ev=5)∧(f.did L k u).enq=false)∧
  (f.s.st k≠1→f.s.st k≠3→f.s.st k≠4→f.did L k u=Dd.no):=by
 have ht:(0:Int)≤(k:Int)∧(k:Int)<f.s.n:=by omega
 unfold FL.did
 rw [if_pos ht,Int.toNat_natCast]
 refine ⟨λe=> ?_,λe=> ?_,λe=> ?_,λe1 e3 e4=> ?_⟩
 ·rw [if_pos e]
  unfold FL.acqD Dd.no
  repeat' split
  all_goals simp
 ·rw [if_neg (by omega),if_pos e]
  skip
  repeat' split
  all_goals simp
 ·rw [if_neg (by omega),if_neg (by omega),if_pos e]
  unfold FL.askD
  repeat' split
  all_goals simp
 ·rw [if_neg e1,if_neg e3,if_neg e4]
theorem step_s (f:FL) (L:Lp) (t u:Int):(f.step L t u).s=f.s.fin t (f.did L t u).ev:=rfl
def lp (a:Int):Lp:={lb:=0,p:=0,b:=0,tb:=0,a1:=a,a2:=a+1,q:=⟨0,0,0,0,0,0,0,0,0,0,0,0,.slice none 0 0⟩,hs:=[]}
theorem step_lp {L:Lp} (h:L.a2=L.a1+1) (f:FL) (t u:Int):f.step L t u=f.step (lp L.a1) t u∧f.did L t u=f.did (lp L.a1) t u:=by
 have e1:(lp L.a1).a1=L.a1:=rfl
 have e2:(lp L.a1).a2=L.a2:=h.symm
 have d:f.did L t u=f.did (lp L.a1) t u:=by
  unfold FL.did FL.acqD FL.askD
  rw [e1,e2]
 refine ⟨?_,d⟩
 unfold FL.step
 rw [d]
 have m:f.mid L t u=f.mid (lp L.a1) t u:=by
  unfold FL.mid FL.acq FL.rel FL.ask
  rw [e1,e2]
 rw [m]
end Kf
namespace Kc
theorem did_at {f:FL} {L:Lp} {k u:Nat} (hk:k<f.s.n):
  (f.s.st k=1→((f.did L k u).ev=0∨(f.did L k u).ev=1)∧(f.did L k u).arr=false∧(f.did L k u).lead=false)∧
  (f.s.st k=3→((f.did L k u).ev=0∨(f.did L k u).ev=3)∧(f.did L k u).enq=false)∧
  (f.s.st k=4→((f.did L k u).ev=4∨(f.did L k u).ev=5)∧(f.did L k u).enq=false)∧
  (f.s.st k≠1→f.s.st k≠3→f.s.st k≠4→f.did L k u=Dd.no):=by
 have ht:(0:Int)≤(k:Int)∧(k:Int)<f.s.n:=by omega
 unfold FL.did
 rw [if_pos ht,Int.toNat_natCast]
 refine ⟨λe=> ?_,λe=> ?_,λe=> ?_,λe1 e3 e4=> ?_⟩
 ·rw [if_pos e]
  unfold FL.acqD Dd.no
  repeat' split
  all_goals simp
 ·rw [if_neg (by omega),if_pos e]
  skip
  repeat' split
  all_goals simp
 ·rw [if_neg (by omega),if_neg (by omega),if_pos e]
  unfold FL.askD
  repeat' split
  all_goals simp
 ·rw [if_neg e1,if_neg e3,if_neg e4]
theorem step_s (f:FL) (L:Lp) (t u:Int):(f.step L t u).s=f.s.fin t (f.did L t u).ev:=rfl
def lp (a:Int):Lp:={lb:=0,p:=0,b:=0,tb:=0,a1:=a,a2:=a+1,q:=⟨0,0,0,0,0,0,0,0,0,0,0,0,.slice none 0 0⟩,hs:=[]}
theorem step_lp {L:Lp} (h:L.a2=L.a1+1) (f:FL) (t u:Int):f.step L t u=f.step (lp L.a1) t u∧f.did L t u=f.did (lp L.a1) t u:=by
 have e1:(lp L.a1).a1=L.a1:=rfl
 have e2:(lp L.a1).a2=L.a2:=h.symm
 have d:f.did L t u=f.did (lp L.a1) t u:=by
  unfold FL.did FL.acqD FL.askD
  rw [e1,e2]
 refine ⟨?_,d⟩
 unfold FL.step
 rw [d]
 have m:f.mid L t u=f.mid (lp L.a1) t u:=by
  unfold FL.mid FL.acq FL.rel FL.ask
  rw [e1,e2]
 rw [m]
end Kc
namespace Km
theorem did_at {f:FL} {L:Lp} {k u:Nat} (hk:k<f.s.n):
  (f.s.st k=1→((f.did L k u).ev=0∨(f.did L k u).ev=1)∧(f.did L k u).arr=false∧(f.did L k u).lead=false)∧
  (f.s.st k=3→((f.did L k u).ev=0∨(f.did L k u).ev=3)∧(f.did L k u).enq=false)∧
  (f.s.st k=4→((f.did L k u).ev=4∨(f.did L k u).ev=5)∧(f.did L k u).enq=false)∧
  (f.s.st k≠1→f.s.st k≠3→f.s.st k≠4→f.did L k u=Dd.no):=by
 have ht:(0:Int)≤(k:Int)∧(k:Int)<f.s.n:=by omega
 unfold FL.did
 rw [if_pos ht,Int.toNat_natCast]
 refine ⟨λe=> ?_,λe=> ?_,λe=> ?_,λe1 e3 e4=> ?_⟩
 ·rw [if_pos e]
  unfold FL.acqD Dd.no
  repeat' split
  all_goals simp
 ·rw [if_neg (by omega),if_pos e]
  unfold FL.relD Dd.no
  repeat' split
  all_goals simp
 ·rw [if_neg (by omega),if_neg (by omega),if_pos e]
  unfold FL.askD
  repeat' split
  all_goals simp
 ·rw [if_neg e1,if_neg e3,if_neg e4]
theorem step_s (f:FL) (L:Lp) (t u:Int):(f.step L t u).s=f.s.fin t (f.did L t u).ev:=rfl
def lp (a:Int):Lp:={lb:=0,p:=0,b:=0,tb:=0,a1:=a,a2:=a+1,q:=⟨0,0,0,0,0,0,0,0,0,0,0,0,.slice none 0 0⟩,hs:=[]}
theorem step_lp {L:Lp} (h:L.a2=L.a1+1) (f:FL) (t u:Int):f.step L t u=f.step (lp L.a1) t u∧f.did L t u=f.did (lp L.a1) t u:=by
 have e1:(lp L.a1).a1=L.a1:=rfl
 have e2:(lp L.a1).a2=L.a2:=h.symm
 have d:f.did L t u=f.did (lp L.a1) t u:=by
  unfold FL.did FL.acqD FL.relD FL.askD Lp.nx Lp.lk
  rw [e1,e2]
 refine ⟨?_,d⟩
 unfold FL.step
 rw [d]
 have m:f.mid L t u=f.mid (lp L.a1) t u:=by
  unfold FL.mid FL.acq FL.rel FL.ask Lp.nx Lp.lk
  rw [e1,e2]
 rw [m]
end Km
structure Qf (s:SS) (g:Option Nat) (W:List Nat):Prop where
 n8:s.n≤64
 nodup:(g.toList++W).Nodup
 lt:∀ k∈g.toList++W,k<s.n
 stg:∀ k,g=some k→s.st k=2∨s.st k=3∨s.st k=4
 stw:∀ k∈W,s.st k=1
 sto:∀ k,k<s.n→k∉g.toList++W→s.st k=0∨s.st k=1
inductive StI (W:List Nat) (k:Nat) (d:Dd) (W':List Nat):Prop where
 |same (h0:d.enq=false) (h1:d.ev≠1) (e:W'=W):StI W k d W'
 |enq (hd:d=⟨0,true,false,false⟩) (e:W'=W++[k]):StI W k d W'
 |grant (hd:d=⟨1,false,false,false⟩) (e:W=k::W'):StI W k d W'
 |both (hd:d=⟨1,true,false,false⟩) (e:W=[]) (e':W'=[]):StI W k d W'
theorem Kf.In.qf {f:Kf.FL} {o:Nat} {g:Option Nat} {W:List Nat} (h:Kf.In f o g W):Qf f.s g W:=by
 obtain ⟨_,nx,ow,h⟩:=h
 exact ⟨h.n8,h.nodup,h.lt,h.stg,h.stw,h.sto⟩
theorem Kc.In.qf {f:Kc.FL} {o:Nat} {g:Option Nat} {W:List Nat} (h:Kc.In f o g W):Qf f.s g W:=by
 obtain ⟨_,e,h⟩:=h
 exact ⟨h.n8,h.nodup,h.lt,h.stg,h.stw,h.sto⟩
theorem Km.In.qf {f:Km.FL} {o:Nat} {g:Option Nat} {W:List Nat} (h:Km.In f o g W):Qf f.s g W:=by
 obtain ⟨_,h⟩:=h
 exact ⟨h.n8,h.cor.nodup,h.cor.lt,h.cor.stg,h.cor.stw,h.cor.sto⟩
theorem Kf.sti {W W':List Nat} {k:Nat} {d:Dd} (h:Kf.OrdJ.StepQ W k d W'):StI W k d W':=by
 cases h with
 |same h0 h1 h2 e=>exact .same h0 h1 e
 |enq hd j ht e=>obtain rfl:k=j:=by omega
                 exact .enq hd e
 |grant hd j ht e hn=>obtain rfl:k=j:=by omega
                      exact .grant hd e
theorem Kc.sti {W W':List Nat} {k:Nat} {d:Dd} (h:Kc.OrdJ.StepQ W k d W'):StI W k d W':=by
 cases h with
 |same h0 h1 h2 e=>exact .same h0 h1 e
 |enq hd j ht e=>obtain rfl:k=j:=by omega
                 exact .enq hd e
 |grant hd j ht e hn=>obtain rfl:k=j:=by omega
                      exact .grant hd e
theorem Km.sti {W W':List Nat} {k:Nat} {d:Dd} (h:Km.OrdJ.StepQ W k d W'):StI W k d W':=by
 cases h with
 |same h0 h1 h2 e=>exact .same h0 h1 e
 |enq hd j ht e=>obtain rfl:k=j:=by omega
                 exact .enq hd e
 |grant hd j ht e hn=>obtain rfl:k=j:=by omega
                      exact .grant hd e
 |both hd j ht e e'=>exact .both hd e e'
structure Ip where
 lb:Nat
 p:Nat
 b:Nat
 tb:Nat
 a:Nat
 ty:Nat
 lo:Nat
 hi:Nat
inductive Inn where
 |tk (f:Kf.FL)
 |cl (f:Kc.FL)
 |mc (f:Km.FL)
namespace Inn
def s:Inn→SS
 |tk f=>f.s
 |cl f=>f.s
 |mc f=>f.s
def ps:Inn→PSta
 |tk f=>f.ps
 |cl f=>f.ps
 |mc f=>f.ps
def on (q:PSta):Inn→Inn
 |tk f=>tk {f with ps:=q}
 |cl f=>cl {f with ps:=q}
 |mc f=>mc {f with ps:=q}
def size:Inn→Nat
 |tk f=>2
 |cl f=>f.s.n+2
 |mc f=>2*f.s.n+1
def lock (t d:Int):Inn→Inn
 |tk f=>tk (f.lock t d)
 |cl f=>cl (f.lock t d)
 |mc f=>mc (f.lock t d)
def turn (t x:Int):Inn→Inn
 |tk f=>tk (f.turn t x)
 |cl f=>cl (f.turn t x)
 |mc f=>mc (f.turn t x)
def step (a t u:Int):Inn→Inn
 |tk f=>tk (f.step (Kf.lp a) t u)
 |cl f=>cl (f.step (Kc.lp a) t u)
 |mc f=>mc (f.step (Km.lp a) t u)
def did (a t u:Int):Inn→Dd
 |tk f=>f.did (Kf.lp a) t u
 |cl f=>f.did (Kc.lp a) t u
 |mc f=>f.did (Km.lp a) t u
def At:Inn→Nat→Option Nat→List Nat→Prop
 |tk f,o,g,W=>Kf.In f o g W
 |cl f,o,g,W=>Kc.In f o g W
 |mc f,o,g,W=>Km.In f o g W
section
variable {x:Inn} {o:Nat} {g:Option Nat} {W:List Nat}
theorem on_s (q:PSta):(x.on q).s=x.s:=by cases x<;>rfl
theorem on_ps (q:PSta):(x.on q).ps=q:=by cases x<;>rfl
theorem on_size (q:PSta):(x.on q).size=x.size:=by cases x<;>rfl
theorem on_self:x.on x.ps=x:=by cases x<;>rfl
theorem on_on (q r:PSta):(x.on q).on r=x.on r:=by cases x<;>rfl
theorem lock_s (t d:Int):(x.lock t d).s=x.s.lock t d:=by cases x<;>rfl
theorem lock_ps (t d:Int):(x.lock t d).ps=x.ps:=by cases x<;>rfl
theorem lock_on (t d:Int) (q:PSta):(x.lock t d).on q=(x.on q).lock t d:=by cases x<;>rfl
theorem turn_s (t y:Int):(x.turn t y).s=x.s.turn t y:=by cases x<;>rfl
theorem turn_on (t y:Int) (q:PSta):(x.turn t y).on q=(x.on q).turn t y:=by cases x<;>rfl
theorem step_s (a t u:Int):(x.step a t u).s=x.s.fin t (x.did a t u).ev:=by cases x<;>rfl
theorem step_len (a t u:Int):(x.step a t u).ps.ws.length=x.ps.ws.length∧(x.step a t u).ps.ac.length=x.ps.ac.length:=by
 cases x
 ·exact Kf.step_len _ _
 ·exact Kc.step_len _ _
 ·exact Km.step_len _ _
theorem At.qf (h:x.At o g W):Qf x.s g W:=by
 cases x
 ·exact Kf.In.qf h
 ·exact Kc.In.qf h
 ·exact Km.In.qf h
theorem At.fits (h:x.At o g W):o+x.size≤x.ps.ws.length:=by
 cases x
 ·exact h.1
 ·exact h.1
 ·exact h.1
theorem At.lock (h:x.At o g W) (t d:Int):(x.lock t d).At o g W:=by
 cases x
 ·exact Kf.In.lock h t d
 ·exact Kc.In.lock h t d
 ·exact Km.In.lock h t d
theorem At.turn (h:x.At o g W) (t y:Int) (hy:y=3∨y=4):(x.turn t y).At o g W:=by
 cases x
 ·exact Kf.In.turn h t y hy
 ·exact Kc.In.turn h t y hy
 ·exact Km.In.turn h t y hy
theorem At.far (h:x.At o g W) {q:PSta} (hl:q.ws.length=x.ps.ws.length) (hw:sub q.ws o x.size=sub x.ps.ws o x.size):(x.on q).At o g W:=by
 cases x
 ·exact Kf.In.far h hl hw
 ·exact Kc.In.far h hl hw
 ·exact Km.In.far h hl hw
theorem At.step (h:x.At o g W) {k u:Nat} (hk:k<x.s.n) (hu:u<x.ps.ac.length):
  ∃ g' W',(x.step o k u).At o g' W'∧StI W k (x.did o k u) W'∧(∀ o' n',o+x.size≤o'∨o'+n'≤o→sub (x.step o k u).ps.ws o' n'=sub x.ps.ws o' n'):=by
 cases x
 ·obtain ⟨g',W',a,b,c⟩:=Kf.In.step (L:=Kf.lp o) h rfl rfl hk hu
  exact ⟨g',W',a,Kf.sti b,c⟩
 ·obtain ⟨g',W',a,b,c⟩:=Kc.In.step (L:=Kc.lp o) h rfl rfl hk hu
  exact ⟨g',W',a,Kc.sti b,c⟩
 ·obtain ⟨g',W',a,b,c⟩:=Km.In.step (L:=Km.lp o) h rfl rfl hk hu
  exact ⟨g',W',a,Km.sti b,c⟩
theorem At.company (h:x.At o g W) {k u:Nat} (hk:k<x.s.n) (hu:u<x.ps.ac.length) (hs:x.s.st k=4) (h5:(x.did o k u).ev=5):W≠[]:=by
 intro hW
 cases x
 ·rcases Kf.In.company (L:=Kf.lp o) h rfl rfl hk hu hs with ⟨a,_⟩|⟨_,b⟩
  ·have h5:(Kf.FL.did _ (Kf.lp o) k u).ev=5:=h5
   omega
  ·exact b hW
 ·have:=Kc.In.company (L:=Kc.lp o) h rfl rfl hk hu hs hW
  have h5:(Kc.FL.did _ (Kc.lp o) k u).ev=5:=h5
  omega
 ·have:=Km.In.company (L:=Km.lp o) h rfl rfl hk hu hs hW
  have h5:(Km.FL.did _ (Km.lp o) k u).ev=5:=h5
  omega
theorem did_at {k u:Nat} (a:Int) (hk:k<x.s.n):
  (x.s.st k=1→((x.did a k u).ev=0∨(x.did a k u).ev=1)∧(x.did a k u).arr=false∧(x.did a k u).lead=false)∧
  (x.s.st k=3→((x.did a k u).ev=0∨(x.did a k u).ev=3)∧(x.did a k u).enq=false)∧
  (x.s.st k=4→((x.did a k u).ev=4∨(x.did a k u).ev=5)∧(x.did a k u).enq=false)∧
  (x.s.st k≠1→x.s.st k≠3→x.s.st k≠4→x.did a k u=Dd.no):=by
 cases x
 ·exact Kf.did_at hk
 ·exact Kc.did_at hk
 ·exact Km.did_at hk
end
end Inn
open Go.RowKit
structure FL where
 s:SS
 bud:Int
 nd:Nat→Nat
 own:Nat→Nat
 ph:Nat→Int
 got:Nat→Int
 ga:Nat
 la:Nat→Nat
 G:Inn
 Lc:Nat→Inn
 ps:PSta
structure Lp where
 lb:Nat
 p:Nat
 b:Nat
 tb:Nat
 a1:Int
 a2:Int
 q:Place
 hs:List Int
 lo:Nat
 gi:Ip
 li:Nat→Ip
 has:Nat→Bool
def Lp.pA (L:Lp) (c:Nat):Int:=L.a1+c
def FL.lk (f:FL) (c:Nat):Inn:=(f.Lc c).on f.ps
def FL.gl (f:FL):Inn:=f.G.on f.ps
def FL.ask (f:FL) (t:Nat):Inn:=if (f.Lc (f.nd t)).s.st (f.own t)=0 then (f.lk (f.nd t)).lock (f.own t:Nat) (-1) else f.lk (f.nd t)
def FL.acq (f:FL) (L:Lp) (t:Nat) (u:Int):FL:=
 if f.ph t=0 then {f with Lc:=upd f.Lc (f.nd t) ((f.ask t).step (f.la (f.nd t):Nat) (f.own t:Nat) u),ph:=upd f.ph t ((f.ask t).did (f.la (f.nd t):Nat) (f.own t:Nat) u).ev,ps:=((f.ask t).step (f.la (f.nd t):Nat) (f.own t:Nat) u).ps}
 else if f.ph t=1 then (if tellS f.ps u 1 (L.pA (f.nd t))=0 then {f with ph:=upd f.ph t 2,G:=f.G.lock (f.nd t:Nat) (-1),ps:=doS f.ps u 1 (L.pA (f.nd t)) 0 0} else {f with ps:=doS f.ps u 1 (L.pA (f.nd t)) 0 0})
 else if f.ph t=2 then {f with G:=f.gl.step (f.ga:Nat) (f.nd t:Nat) u,ph:=upd f.ph t (2+(f.gl.did (f.ga:Nat) (f.nd t:Nat) u).ev),ps:=(f.gl.step (f.ga:Nat) (f.nd t:Nat) u).ps}
 else {f with ps:=doS f.ps u 2 (L.pA (f.nd t)) 0 1}
def FL.acqD (f:FL) (L:Lp) (t:Nat) (u:Int):Dd:=
 if f.ph t=0 then ⟨0,((f.ask t).did (f.la (f.nd t):Nat) (f.own t:Nat) u).enq,false,false⟩
 else if f.ph t=1 then (if tellS f.ps u 1 (L.pA (f.nd t))=0 then Dd.no else ⟨1,false,false,false⟩)
 else if f.ph t=2 then ⟨0,false,(f.gl.did (f.ga:Nat) (f.nd t:Nat) u).enq,false⟩
 else ⟨1,false,false,true⟩
def FL.rel (f:FL) (L:Lp) (t:Nat) (u:Int):FL:=
 if f.ph t=0 then (if tellS f.ps u 1 (L.pA (f.nd t))<f.bud then {f with got:=upd f.got t (tellS f.ps u 1 (L.pA (f.nd t))),ph:=upd f.ph t 1,Lc:=upd f.Lc (f.nd t) ((f.Lc (f.nd t)).turn (f.own t:Nat) 4),ps:=doS f.ps u 1 (L.pA (f.nd t)) 0 0}
  else {f with got:=upd f.got t (tellS f.ps u 1 (L.pA (f.nd t))),ph:=upd f.ph t 3,ps:=doS f.ps u 1 (L.pA (f.nd t)) 0 0})
 else if f.ph t=1 then {f with Lc:=upd f.Lc (f.nd t) ((f.lk (f.nd t)).step (f.la (f.nd t):Nat) (f.own t:Nat) u),ph:=upd f.ph t (if ((f.lk (f.nd t)).did (f.la (f.nd t):Nat) (f.own t:Nat) u).ev=5 then 2 else 3),ps:=((f.lk (f.nd t)).step (f.la (f.nd t):Nat) (f.own t:Nat) u).ps}
 else if f.ph t=2 then {f with Lc:=upd f.Lc (f.nd t) ((f.Lc (f.nd t)).turn (f.own t:Nat) 3),ph:=upd f.ph t 5,ps:=doS f.ps u 2 (L.pA (f.nd t)) 0 (f.got t+1)}
 else if f.ph t=3 then {f with G:=f.G.turn (f.nd t:Nat) 3,ph:=upd f.ph t 4,ps:=doS f.ps u 2 (L.pA (f.nd t)) 0 0}
 else if f.ph t=4 then (if (f.gl.did (f.ga:Nat) (f.nd t:Nat) u).ev=3 then {f with G:=f.gl.step (f.ga:Nat) (f.nd t:Nat) u,ph:=upd f.ph t 5,Lc:=upd f.Lc (f.nd t) ((f.Lc (f.nd t)).turn (f.own t:Nat) 3),ps:=(f.gl.step (f.ga:Nat) (f.nd t:Nat) u).ps}
  else {f with G:=f.gl.step (f.ga:Nat) (f.nd t:Nat) u,ps:=(f.gl.step (f.ga:Nat) (f.nd t:Nat) u).ps})
 else {f with Lc:=upd f.Lc (f.nd t) ((f.lk (f.nd t)).step (f.la (f.nd t):Nat) (f.own t:Nat) u),ps:=((f.lk (f.nd t)).step (f.la (f.nd t):Nat) (f.own t:Nat) u).ps}
def FL.relD (f:FL) (L:Lp) (t:Nat) (u:Int):Dd:=
 if f.ph t=0 then Dd.no else if f.ph t=1 then Dd.no else if f.ph t=2 then Dd.no else if f.ph t=3 then Dd.no else if f.ph t=4 then Dd.no
 else ⟨((f.lk (f.nd t)).did (f.la (f.nd t):Nat) (f.own t:Nat) u).ev,false,false,false⟩
def FL.mid (f:FL) (L:Lp) (t u:Int):FL:=if 0≤t∧t<f.s.n then (if f.s.st t.toNat=1 then f.acq L t.toNat u else if f.s.st t.toNat=3 then f.rel L t.toNat u else f) else f
def FL.did (f:FL) (L:Lp) (t u:Int):Dd:=if 0≤t∧t<f.s.n then (if f.s.st t.toNat=1 then f.acqD L t.toNat u else if f.s.st t.toNat=3 then f.relD L t.toNat u else Dd.no) else Dd.no
def FL.step (f:FL) (L:Lp) (t u:Int):FL:={f.mid L t u with s:=f.s.fin t (f.did L t u).ev,ph:=if endB f.s t (f.did L t u).ev=true then upd (f.mid L t u).ph t.toNat 0 else (f.mid L t u).ph}
def FL.lock (f:FL) (t d:Int):FL:={f with s:=f.s.lock t d}
def FL.turn (f:FL) (t x:Int):FL:={f with s:=f.s.turn t x}
theorem FL.acq_s (f:FL) (L:Lp) (t:Nat) (u:Int):(f.acq L t u).s=f.s∧(f.acq L t u).nd=f.nd∧(f.acq L t u).own=f.own∧(f.acq L t u).bud=f.bud:=by unfold FL.acq;repeat' split<;>try exact ⟨rfl,rfl,rfl,rfl⟩
theorem FL.rel_s (f:FL) (L:Lp) (t:Nat) (u:Int):(f.rel L t u).s=f.s∧(f.rel L t u).nd=f.nd∧(f.rel L t u).own=f.own∧(f.rel L t u).bud=f.bud:=by unfold FL.rel;repeat' split<;>try exact ⟨rfl,rfl,rfl,rfl⟩
theorem FL.mid_s (f:FL) (L:Lp) (t u:Int):(f.mid L t u).s=f.s∧(f.mid L t u).nd=f.nd∧(f.mid L t u).own=f.own∧(f.mid L t u).bud=f.bud:=by
 unfold FL.mid
 repeat' split
 ·exact f.acq_s L _ u
 ·exact f.rel_s L _ u
 all_goals exact ⟨rfl,rfl,rfl,rfl⟩
theorem FL.ask_ps (f:FL) (t:Nat):(f.ask t).ps=f.ps:=by
 unfold FL.ask FL.lk
 split
 ·rw [Inn.lock_ps,Inn.on_ps]
 ·rw [Inn.on_ps]
inductive Cx (B x p g l q e:Int) (v:List Nat):Prop where
 |idle (hx:x=0) (hp:p=0) (hl:l=0)
 |loc (hx:x=1) (hp:p=0) (hl:l=0∨l=1)
 |pass (hx:x=1) (hp:p=1) (hl:l=2) (h:(q=0∧e=0)∨(1≤q∧q≤B∧e=2))
 |glo (hx:x=1) (hp:p=2) (hl:l=2) (hq:q=0) (he:e=1)
 |fst (hx:x=1) (hp:p=3) (hl:l=2) (hq:q=0) (he:e=2)
 |has (hx:x=2) (hp:p=0) (hl:l=2) (he:e=2) (q1:1≤q) (q2:q≤B)
 |u0 (hx:x=3) (hp:p=0) (hl:l=2) (he:e=2) (q1:1≤q) (q2:q≤B)
 |u1 (hx:x=3) (hp:p=1) (hl:l=4) (he:e=2) (q1:1≤q) (q2:q<B) (hg:g=q)
 |u2 (hx:x=3) (hp:p=2) (hl:l=2) (he:e=2) (q1:1≤q) (q2:q<B) (hg:g=q) (hv:v≠[])
 |u3 (hx:x=3) (hp:p=3) (hl:l=2) (he:e=2) (q1:1≤q) (q2:q≤B)
 |u4 (hx:x=3) (hp:p=4) (hl:l=2) (he:e=3) (hq:q=0)
 |u5 (hx:x=3) (hp:p=5) (hl:l=3) (h:(q=0∧e=0)∨(e=2∧1≤q∧q≤B∧v≠[]))
theorem Cx.far {B x p g l q e q' e':Int} {v v':List Nat} (h:Cx B x p g l q e v) (hz:l=0∨l=1):Cx B x p g l q' e' v':=by
 cases h with
 |idle hx hp hl=>exact .idle hx hp hl
 |loc hx hp hl=>exact .loc hx hp hl
 |pass hx hp hl=>omega
 |glo hx hp hl=>omega
 |fst hx hp hl=>omega
 |has hx hp hl=>omega
 |u0 hx hp hl=>omega
 |u1 hx hp hl=>omega
 |u2 hx hp hl=>omega
 |u3 hx hp hl=>omega
 |u4 hx hp hl=>omega
 |u5 hx hp hl=>omega
theorem Cx.more {B x p g l q e:Int} {v v':List Nat} (h:Cx B x p g l q e v) (hv:v≠[]→v'≠[]):Cx B x p g l q e v':=by
 cases h with
 |idle hx hp hl=>exact .idle hx hp hl
 |loc hx hp hl=>exact .loc hx hp hl
 |pass hx hp hl h=>exact .pass hx hp hl h
 |glo hx hp hl hq he=>exact .glo hx hp hl hq he
 |fst hx hp hl hq he=>exact .fst hx hp hl hq he
 |has hx hp hl he q1 q2=>exact .has hx hp hl he q1 q2
 |u0 hx hp hl he q1 q2=>exact .u0 hx hp hl he q1 q2
 |u1 hx hp hl he q1 q2 hg=>exact .u1 hx hp hl he q1 q2 hg
 |u2 hx hp hl he q1 q2 hg hw=>exact .u2 hx hp hl he q1 q2 hg (hv hw)
 |u3 hx hp hl he q1 q2=>exact .u3 hx hp hl he q1 q2
 |u4 hx hp hl he hq=>exact .u4 hx hp hl he hq
 |u5 hx hp hl h=>exact .u5 hx hp hl (h.imp id λq=>⟨q.1,q.2.1,q.2.2.1,hv q.2.2.2⟩)
theorem Cx.lrng {B x p g l q e:Int} {v:List Nat} (h:Cx B x p g l q e v):0≤l∧l≤4:=by cases h<;>omega
structure Cor (n:Nat) (B:Int) (st ph got:Nat→Int) (nd own:Nat→Nat) (ls:Nat→Nat→Int) (H:Nat→Option Nat) (V:Nat→List Nat) (gs P:Nat→Int):Prop where
 ndl:∀ t,t<n→nd t<8
 inj:∀ t u,t<n→u<n→nd t=nd u→own t=own u→t=u
 cx:∀ t,t<n→Cx B (st t) (ph t) (got t) (ls (nd t) (own t)) (P (nd t)) (gs (nd t)) (V (nd t))
 hold:∀ t,t<n→2≤ls (nd t) (own t)→H (nd t)=some (own t)
 held:∀ c j,H c=some j→2≤ls c j∧∃ t,t<n∧nd t=c∧own t=j
 nob:∀ c,c<8→H c=none→(P c=0∧gs c=0)∨(1≤P c∧P c≤B∧gs c=2∧V c≠[])
namespace Cor
variable {n:Nat} {B:Int} {st ph got:Nat→Int} {nd own:Nat→Nat} {ls:Nat→Nat→Int} {H:Nat→Option Nat} {V:Nat→List Nat} {gs P:Nat→Int}
theorem put (h:Cor n B st ph got nd own ls H V gs P) {t:Nat} (ht:t<n) {st' ph' got':Nat→Int} {ls':Nat→Nat→Int} {H':Nat→Option Nat} {V':Nat→List Nat} {gs' P':Nat→Int}
  (e1:∀ u,u≠t→st' u=st u) (e2:∀ u,u≠t→ph' u=ph u) (e3:∀ u,u≠t→got' u=got u)
  (e4:∀ c j,(c≠nd t∨j≠own t)→ls' c j=ls c j) (e5:∀ c,c≠nd t→H' c=H c∧V' c=V c∧gs' c=gs c∧P' c=P c)
  (hoth:(P' (nd t)=P (nd t)∧gs' (nd t)=gs (nd t)∧(∀ j,H (nd t)=some j→V (nd t)≠[]→V' (nd t)≠[]))∨H (nd t)=some (own t))
  (hcx:Cx B (st' t) (ph' t) (got' t) (ls' (nd t) (own t)) (P' (nd t)) (gs' (nd t)) (V' (nd t)))
  (hH:(2≤ls' (nd t) (own t)∧H' (nd t)=some (own t)∧(H (nd t)=none∨H (nd t)=some (own t)))∨(ls' (nd t) (own t)<2∧H' (nd t)=none∧H (nd t)=some (own t))∨(ls' (nd t) (own t)<2∧H' (nd t)=H (nd t)∧H (nd t)≠some (own t)))
  (hnob:H' (nd t)=none→(P' (nd t)=0∧gs' (nd t)=0)∨(1≤P' (nd t)∧P' (nd t)≤B∧gs' (nd t)=2∧V' (nd t)≠[])):Cor n B st' ph' got' nd own ls' H' V' gs' P':=by
 refine ⟨h.ndl,h.inj,λu hu=> ?_,λu hu hl=> ?_,λc j hc=> ?_,λc hc hn=> ?_⟩
 ·by_cases q:u=t
  ·subst q;exact hcx
  rw [e1 u q,e2 u q,e3 u q]
  by_cases qc:nd u=nd t
  ·have qo:own u≠own t:=λe=>q (h.inj u t hu ht qc e)
   rw [e4 _ _ (.inr qo)]
   have hx:=h.cx u hu
   have hr:=hx.lrng
   by_cases hl:2≤ls (nd u) (own u)
   ·have hh:=h.hold u hu hl
    rcases hoth with ⟨a,b,c⟩|a
    ·rw [qc] at hx hh ⊢
     rw [a,b]
     exact hx.more (c _ hh)
    ·rw [qc,a] at hh
     exact absurd (Option.some.inj hh) λe=>qo e.symm
   ·exact hx.far (by omega)
  ·obtain ⟨a,b,c,d⟩:=e5 _ qc
   rw [e4 _ _ (.inl qc),b,c,d]
   exact h.cx u hu
 ·by_cases q:u=t
  ·subst q
   rcases hH with ⟨_,a,_⟩|⟨a,_⟩|⟨a,_⟩
   ·exact a
   ·omega
   ·omega
  by_cases qc:nd u=nd t
  ·have qo:own u≠own t:=λe=>q (h.inj u t hu ht qc e)
   rw [e4 _ _ (.inr qo)] at hl
   have hh:=h.hold u hu hl
   rw [qc] at hh ⊢
   rcases hH with ⟨_,_,a|a⟩|⟨_,_,a⟩|⟨_,a,_⟩
   ·rw [hh] at a;cases a
   ·rw [hh] at a;exact absurd (Option.some.inj a) qo
   ·rw [hh] at a;exact absurd (Option.some.inj a) qo
   ·rw [a];exact hh
  ·rw [(e5 _ qc).1]
   rw [e4 _ _ (.inl qc)] at hl
   exact h.hold u hu hl
 ·by_cases qc:c=nd t
  ·subst qc
   rcases hH with ⟨a,b,_⟩|⟨_,b,_⟩|⟨_,b,d⟩
   ·rw [b] at hc
    obtain rfl:=Option.some.inj hc
    exact ⟨a,t,ht,rfl,rfl⟩
   ·rw [b] at hc;cases hc
   ·rw [b] at hc
    have hj:j≠own t:=λe=>d (by rw [hc,e])
    rw [e4 _ _ (.inr hj)]
    exact h.held _ _ hc
  ·rw [(e5 _ qc).1] at hc
   rw [e4 _ _ (.inl qc)]
   exact h.held _ _ hc
 ·by_cases qc:c=nd t
  ·subst qc;exact hnob hn
  ·obtain ⟨a,b,d,e⟩:=e5 _ qc
   rw [a] at hn
   rw [b,d,e]
   exact h.nob c hc hn
section
variable {t:Nat}
theorem own1 (h:Cor n B st ph got nd own ls H V gs P) (ht:t<n) {y p g:Int} (hcx:Cx B y p g (ls (nd t) (own t)) (P (nd t)) (gs (nd t)) (V (nd t))):
  Cor n B (upd st t y) (upd ph t p) (upd got t g) nd own ls H V gs P:=by
 refine h.put ht (λu q=>upd_other _ _ q) (λu q=>upd_other _ _ q) (λu q=>upd_other _ _ q) (λ_ _ _=>rfl) (λ_ _=>⟨rfl,rfl,rfl,rfl⟩) (.inl ⟨rfl,rfl,λ_ _ q=>q⟩) (by rw [upd_same,upd_same,upd_same];exact hcx) ?_ (λq=>h.nob _ (h.ndl t ht) q)
 by_cases hl:2≤ls (nd t) (own t)
 ·exact .inl ⟨hl,h.hold t ht hl,.inr (h.hold t ht hl)⟩
 ·refine .inr (.inr ⟨by omega,rfl,λq=> ?_⟩)
  have:=(h.held _ _ q).1
  omega
theorem own2 (h:Cor n B st ph got nd own ls H V gs P) (ht:t<n) (hl:2≤ls (nd t) (own t)) {y p g z w e:Int} (hz:2≤z) (hcx:Cx B y p g z w e (V (nd t))):
  Cor n B (upd st t y) (upd ph t p) (upd got t g) nd own (upd ls (nd t) (upd (ls (nd t)) (own t) z)) H V (upd gs (nd t) e) (upd P (nd t) w):=by
 have hh:=h.hold t ht hl
 refine h.put ht (λu q=>upd_other _ _ q) (λu q=>upd_other _ _ q) (λu q=>upd_other _ _ q) (λc j q=> ?_) (λc q=>⟨rfl,rfl,upd_other _ _ q,upd_other _ _ q⟩) (.inr hh) (by rw [upd_same,upd_same,upd_same,upd_same,upd_same,upd_same,upd_same];exact hcx) (.inl ⟨by rw [upd_same,upd_same];exact hz,hh,.inr hh⟩) (λq=>by rw [hh] at q;cases q)
 by_cases qc:c=nd t
 ·subst qc
  rw [upd_same,upd_other _ _ (q.resolve_left λf=>f rfl)]
 ·rw [upd_other _ _ qc]
theorem ask (h:Cor n B st ph got nd own ls H V gs P) (ht:t<n) (s1:st t=1) (p0:ph t=0) {v:List Nat} (hv:V (nd t)≠[]→v≠[]):
  Cor n B st ph got nd own (upd ls (nd t) (upd (ls (nd t)) (own t) 1)) H (upd V (nd t) v) gs P:=by
 have hl:¬ 2≤ls (nd t) (own t):=by have:=h.cx t ht;cases this<;>omega
 have hne:H (nd t)≠some (own t):=λq=>hl (h.held _ _ q).1
 refine h.put ht (λu q=>rfl) (λu q=>rfl) (λu q=>rfl) (λc j q=> ?_) (λc q=>⟨rfl,upd_other _ _ q,rfl,rfl⟩) (.inl ⟨rfl,rfl,λ_ _ q=>by rw [upd_same];exact hv q⟩) (by rw [upd_same,upd_same];exact .loc s1 p0 (.inr rfl)) (.inr (.inr ⟨by rw [upd_same,upd_same];decide,rfl,hne⟩)) (λq=> ?_)
 ·by_cases qc:c=nd t
  ·subst qc
   rw [upd_same,upd_other _ _ (q.resolve_left λf=>f rfl)]
  ·rw [upd_other _ _ qc]
 ·rw [upd_same]
  rcases h.nob _ (h.ndl t ht) q with a|⟨a,b,c,d⟩
  ·exact .inl a
  ·exact .inr ⟨a,b,c,hv d⟩
theorem got1 (h:Cor n B st ph got nd own ls H V gs P) (ht:t<n) (s1:st t=1) (hH:H (nd t)=none) (v:List Nat):
  Cor n B st (upd ph t 1) got nd own (upd ls (nd t) (upd (ls (nd t)) (own t) 2)) (upd H (nd t) (some (own t))) (upd V (nd t) v) gs P:=by
 refine h.put ht (λu q=>rfl) (λu q=>upd_other _ _ q) (λu q=>rfl) (λc j q=> ?_) (λc q=>⟨upd_other _ _ q,upd_other _ _ q,rfl,rfl⟩) (.inl ⟨rfl,rfl,λj q=>by rw [hH] at q;cases q⟩) ?_ (.inl ⟨by rw [upd_same,upd_same];decide,by rw [upd_same],.inl hH⟩) (λq=>by rw [upd_same] at q;cases q)
 ·by_cases qc:c=nd t
  ·subst qc
   rw [upd_same,upd_other _ _ (q.resolve_left λf=>f rfl)]
  ·rw [upd_other _ _ qc]
 ·rw [upd_same,upd_same,upd_same,upd_same]
  refine .pass s1 rfl rfl ?_
  rcases h.nob _ (h.ndl t ht) hH with a|⟨a,b,c,_⟩
  ·exact .inl a
  ·exact .inr ⟨a,b,c⟩
theorem gone (h:Cor n B st ph got nd own ls H V gs P) (ht:t<n) (s3:st t=3) (p5:ph t=5):
  Cor n B (upd st t 0) (upd ph t 0) got nd own (upd ls (nd t) (upd (ls (nd t)) (own t) 0)) (upd H (nd t) none) V gs P:=by
 have hc:=h.cx t ht
 have hl:ls (nd t) (own t)=3∧((P (nd t)=0∧gs (nd t)=0)∨(gs (nd t)=2∧1≤P (nd t)∧P (nd t)≤B∧V (nd t)≠[])):=by
  cases hc with
  |u5 hx hp hl h=>exact ⟨hl,h⟩
  |_=>omega
 have hh:=h.hold t ht (by omega)
 refine h.put ht (λu q=>upd_other _ _ q) (λu q=>upd_other _ _ q) (λu q=>rfl) (λc j q=> ?_) (λc q=>⟨upd_other _ _ q,rfl,rfl,rfl⟩) (.inr hh) (by rw [upd_same,upd_same,upd_same,upd_same];exact .idle rfl rfl rfl) (.inr (.inl ⟨by rw [upd_same,upd_same];decide,by rw [upd_same],hh⟩)) (λ_=> ?_)
 ·by_cases qc:c=nd t
  ·subst qc
   rw [upd_same,upd_other _ _ (q.resolve_left λf=>f rfl)]
  ·rw [upd_other _ _ qc]
 ·rcases hl.2 with a|⟨a,b,c,d⟩
  ·exact .inl a
  ·exact .inr ⟨b,c,a,d⟩
end
theorem start {nd own:Nat→Nat} (n:Nat) (B:Int) (hn:∀ t,t<n→nd t<8) (hi:∀ t u,t<n→u<n→nd t=nd u→own t=own u→t=u):Cor n B (λ_=>0) (λ_=>0) (λ_=>0) nd own (λ_ _=>0) (λ_=>none) (λ_=>[]) (λ_=>0) (λ_=>0):=
 ⟨hn,hi,λt ht=> .idle rfl rfl rfl,λt ht hl=>by simp at hl,λc j hc=>(by cases hc),λc hc _=> .inl ⟨rfl,rfl⟩⟩
end Cor
def wP (ps:PSta) (c:Nat):Int:=if c<8 then ps.ws.getD c 0 else 0
theorem wP_sub {ps q:PSta} (h:sub q.ws 0 8=sub ps.ws 0 8):wP q=wP ps:=by
 funext c
 unfold wP
 split
 ·rename_i hc
  have e:=congrArg (λl=>l.getD c 0) h
  try dsimp only at e
  rw [sub_at hc,sub_at hc,Nat.zero_add] at e
  exact e
 ·rfl
theorem wP_store {ps:PSta} {u c:Nat} {w:Int} (hu:u<ps.ac.length) (hc:c<8) (hl:8≤ps.ws.length):wP (doS ps u 2 ((0:Int)+c) 0 w)=upd (wP ps) c w:=by
 have e:=do_vw (ps:=ps) (o:=0) (n:=8) (m:=1) (v:=0) (i:=c) hu (by decide) hc (by omega) 2 0 w
 have e2:sub (doS ps u 2 ((0:Int)+c) 0 w).ws 0 8=(sub ps.ws 0 8).set c w:=by
  have ho:=(ok_vw (ps:=ps) (o:=0) (n:=8) (m:=1) (v:=0) (i:=c) hu (by decide) hc (by omega)).1
  unfold doS okS
  rw [show (0:Int)+(c:Int)=((0:Nat):Int)+(c:Int) by omega,ho]
  rw [if_pos (by decide)]
  dsimp only
  unfold doL
  rw [if_pos (.inl rfl)]
  exact store_sub w |>.trans (by unfold storeL;rw [if_pos (by omega),Int.toNat_natCast])
 funext d
 unfold wP
 by_cases hd:d<8
 ·rw [if_pos hd]
  have e3:=congrArg (λl=>l.getD d 0) e2
  try dsimp only at e3
  rw [sub_at hd,Nat.zero_add] at e3
  rw [e3]
  by_cases q:d=c
  ·subst q
   rw [upd_same,List.getD_eq_getElem?_getD,List.getElem?_set,if_pos rfl,if_pos (by rw [sub_len (by omega)];exact hd)]
   rfl
  ·rw [upd_other _ _ q,List.getD_eq_getElem?_getD,List.getElem?_set,if_neg (λf=>q f.symm),←List.getD_eq_getElem?_getD,sub_at hd,Nat.zero_add,if_pos hd]
 ·rw [if_neg hd,upd_other _ _ (by omega),if_neg hd]
structure OrdJ (f:FL) (ga:Nat) (la:Nat→Nat) (H:Nat→Option Nat) (V:Nat→List Nat) (gg:Option Nat) (Wg:List Nat):Prop where
 n8:f.s.n≤64
 np:f.s.probed=false
 bud:1≤f.bud∧f.bud≤1000
 adr:f.ga=ga∧f.la=la
 ac:f.ps.ac.length=f.s.n
 own:∀ t,t<f.s.n→f.own t<(f.Lc (f.nd t)).s.n
 loc:∀ t,t<f.s.n→(f.lk (f.nd t)).At (la (f.nd t)) (H (f.nd t)) (V (f.nd t))
 glo:f.gl.At ga gg Wg
 gn:f.G.s.n=8
 g8:8≤ga
 gl:∀ t,t<f.s.n→ga+f.G.size≤la (f.nd t)
 ll:∀ t u,t<f.s.n→u<f.s.n→f.nd t≠f.nd u→la (f.nd t)+(f.Lc (f.nd t)).size≤la (f.nd u)∨la (f.nd u)+(f.Lc (f.nd u)).size≤la (f.nd t)
 cor:Cor f.s.n f.bud f.s.st f.ph f.got f.nd f.own (λc=>(f.Lc c).s.st) H V f.G.s.st (wP f.ps)
namespace OrdJ
variable {f:FL} {ga:Nat} {la:Nat→Nat} {H:Nat→Option Nat} {V:Nat→List Nat} {gg:Option Nat} {Wg:List Nat}
theorem wl (h:OrdJ f ga la H V gg Wg):8≤f.ps.ws.length:=by
 have:=h.glo.fits
 unfold FL.gl at this
 rw [Inn.on_ps] at this
 have:=h.g8
 omega
theorem far0 (h:OrdJ f ga la H V gg Wg) {q:PSta} (hl:q.ws.length=f.ps.ws.length) (hs:∀ o' n',8≤o'→sub q.ws o' n'=sub f.ps.ws o' n'):
  (∀ t,t<f.s.n→((f.Lc (f.nd t)).on q).At (la (f.nd t)) (H (f.nd t)) (V (f.nd t)))∧(f.G.on q).At ga gg Wg:=by
 have g8:=h.g8
 constructor
 ·intro t ht
  have:=h.gl t ht
  have hf:=(h.loc t ht).far (q:=q) (by unfold FL.lk;rw [Inn.on_ps];exact hl) (by unfold FL.lk;rw [Inn.on_ps];exact hs _ _ (by omega))
  unfold FL.lk at hf
  rwa [Inn.on_on] at hf
 ·have hf:=h.glo.far (q:=q) (by unfold FL.gl;rw [Inn.on_ps];exact hl) (by unfold FL.gl;rw [Inn.on_ps];exact hs _ _ (by omega))
  unfold FL.gl at hf
  rwa [Inn.on_on] at hf
theorem far1 (h:OrdJ f ga la H V gg Wg) {t:Nat} (ht:t<f.s.n) {q:PSta} (hl:q.ws.length=f.ps.ws.length) (hs:∀ o' n',la (f.nd t)+(f.Lc (f.nd t)).size≤o'∨o'+n'≤la (f.nd t)→sub q.ws o' n'=sub f.ps.ws o' n'):
  (∀ u,u<f.s.n→f.nd u≠f.nd t→((f.Lc (f.nd u)).on q).At (la (f.nd u)) (H (f.nd u)) (V (f.nd u)))∧(f.G.on q).At ga gg Wg∧wP q=wP f.ps:=by
 have g8:=h.g8
 have g1:=h.gl t ht
 refine ⟨λu hu hne=> ?_,?_,wP_sub (hs 0 8 (by omega))⟩
 ·have hll:=h.ll u t hu ht hne
  have hf:=(h.loc u hu).far (q:=q) (by unfold FL.lk;rw [Inn.on_ps];exact hl) (by unfold FL.lk;rw [Inn.on_ps,Inn.on_size];exact hs _ _ (by omega))
  unfold FL.lk at hf
  rwa [Inn.on_on] at hf
 ·have hf:=h.glo.far (q:=q) (by unfold FL.gl;rw [Inn.on_ps];exact hl) (by unfold FL.gl;rw [Inn.on_ps,Inn.on_size];exact hs _ _ (by omega))
  unfold FL.gl at hf
  rwa [Inn.on_on] at hf
theorem far2 (h:OrdJ f ga la H V gg Wg) {q:PSta} (hl:q.ws.length=f.ps.ws.length) (hs:∀ o' n',ga+f.G.size≤o'∨o'+n'≤ga→sub q.ws o' n'=sub f.ps.ws o' n'):
  (∀ u,u<f.s.n→((f.Lc (f.nd u)).on q).At (la (f.nd u)) (H (f.nd u)) (V (f.nd u)))∧wP q=wP f.ps:=by
 have g8:=h.g8
 refine ⟨λu hu=> ?_,wP_sub (hs 0 8 (by omega))⟩
 have g1:=h.gl u hu
 have hf:=(h.loc u hu).far (q:=q) (by unfold FL.lk;rw [Inn.on_ps];exact hl) (by unfold FL.lk;rw [Inn.on_ps];exact hs _ _ (by omega))
 unfold FL.lk at hf
 rwa [Inn.on_on] at hf
end OrdJ
namespace Inn
variable {x:Inn}
theorem lock_n (t d:Int):(x.lock t d).s.n=x.s.n:=by rw [lock_s];exact SS.lock_n _ _ _
theorem turn_n (t y:Int):(x.turn t y).s.n=x.s.n:=by rw [turn_s];exact SS.turn_n _ _ _
theorem step_n (a t u:Int):(x.step a t u).s.n=x.s.n:=by rw [step_s];exact SS.fin_n _ _ _
theorem lock_size (t d:Int):(x.lock t d).size=x.size:=by
 have h:=x.lock_n t d
 cases x
 ·rfl
 ·exact congrArg (·+2) h
 ·exact congrArg (2*·+1) h
theorem turn_size (t y:Int):(x.turn t y).size=x.size:=by
 have h:=x.turn_n t y
 cases x
 ·rfl
 ·exact congrArg (·+2) h
 ·exact congrArg (2*·+1) h
theorem step_size (a t u:Int):(x.step a t u).size=x.size:=by
 have h:=x.step_n a t u
 cases x
 ·rfl
 ·exact congrArg (·+2) h
 ·exact congrArg (2*·+1) h
end Inn
theorem upd_idx {α:Type} (g:Nat→α) (k:Nat) {y:α} (h:g k=y):upd g k y=g:=by
 funext j
 by_cases e:j=k
 ·subst e;rw [upd_same,h]
 ·rw [upd_other _ _ e]
theorem fin_none' {s:SS} {k:Nat} {ev:Int} (h:behindI (s.st k) ev=none):s.fin k ev=s∧endB s k ev=false:=by
 have e:endO s k ev=none:=by
  unfold endO
  split
  ·rw [Int.toNat_natCast];exact h
  ·rfl
 unfold SS.fin endB
 rw [e]
 exact ⟨rfl,rfl⟩
theorem fin_some' {s:SS} {k:Nat} {ev y:Int} (hk:k<s.n) (h:behindI (s.st k) ev=some y):s.fin k ev=s.set k y 0∧endB s k ev=true:=by
 have e:endO s k ev=some y:=by unfold endO;rw [if_pos (by omega),Int.toNat_natCast,h]
 unfold SS.fin endB
 rw [e,Int.toNat_natCast]
 exact ⟨rfl,rfl⟩
theorem lock_st {s:SS} {k:Nat} (hk:k<s.n) (h0:s.st k=0):(s.lock (k:Nat) (-1)).st=upd s.st k 1:=by
 have e:lockE s (k:Nat) (-1)=0:=by
  unfold lockE
  rw [if_pos ⟨by omega,.inl rfl⟩,Int.toNat_natCast,if_pos h0]
 unfold SS.lock
 rw [if_pos e,Int.toNat_natCast]
 rfl
theorem turn_st {s:SS} {k:Nat} (hk:k<s.n) (h2:s.st k=2) (x:Int):(s.turn (k:Nat) x).st=upd s.st k x:=by
 have e:turnE s (k:Nat)=0:=by
  unfold turnE
  rw [if_pos (by omega),Int.toNat_natCast,if_neg (by omega),if_pos h2]
 unfold SS.turn
 rw [if_pos e,Int.toNat_natCast]
 rfl
theorem Qf.iff {s:SS} {g:Option Nat} {W:List Nat} (h:Qf s g W) (i:Nat):g=some i↔i<s.n∧2≤s.st i:=by
 constructor
 ·intro e
  have:=h.stg i e
  exact ⟨h.lt i (by rw [e];simp),by omega⟩
 ·rintro ⟨a,b⟩
  by_cases hm:i∈g.toList++W
  ·rcases List.mem_append.1 hm with hm|hm
   ·simpa using hm
   ·have:=h.stw i hm;omega
  ·have:=h.sto i a hm;omega
theorem Qf.same {s s':SS} {g g':Option Nat} {W W':List Nat} (h:Qf s g W) (h':Qf s' g' W') (hn:s'.n=s.n) (hs:∀ i,i<s.n→(2≤s'.st i↔2≤s.st i)):g'=g:=by
 cases e:g with
 |none=>
  cases e':g' with
  |none=>rfl
  |some i=>
   obtain ⟨a,b⟩:=(h'.iff i).1 e'
   have:=(h.iff i).2 ⟨by omega,(hs i (by omega)).1 b⟩
   rw [e] at this;cases this
 |some i=>
  obtain ⟨a,b⟩:=(h.iff i).1 e
  exact (h'.iff i).2 ⟨by omega,(hs i a).2 b⟩
theorem upd_map {g:Nat→Inn} {c:Nat} {x:Inn}:(λd=>((upd g c x) d).s.st)=upd (λd=>(g d).s.st) c x.s.st:=by
 funext d
 by_cases e:d=c
 ·subst e;rw [upd_same,upd_same]
 ·rw [upd_other _ _ e,upd_other _ _ e]
namespace OrdJ
variable {f:FL} {L:Lp} {ga:Nat} {la:Nat→Nat} {H:Nat→Option Nat} {V:Nat→List Nat} {gg:Option Nat} {Wg:List Nat}
theorem at_one {k:Nat} {u:Int} (hk:k<f.s.n) (s1:f.s.st k=1):f.did L k u=f.acqD L k u∧f.mid L k u=f.acq L k u:=by
 have ht:(0:Int)≤(k:Int)∧(k:Int)<f.s.n:=by omega
 unfold FL.did FL.mid
 rw [if_pos ht,if_pos ht,Int.toNat_natCast,if_pos s1,if_pos s1]
 exact ⟨rfl,rfl⟩
theorem at_three {k:Nat} {u:Int} (hk:k<f.s.n) (s3:f.s.st k=3):f.did L k u=f.relD L k u∧f.mid L k u=f.rel L k u:=by
 have ht:(0:Int)≤(k:Int)∧(k:Int)<f.s.n:=by omega
 unfold FL.did FL.mid
 have n1:¬ f.s.st k=1:=by omega
 rw [if_pos ht,if_pos ht,Int.toNat_natCast,if_neg n1,if_pos s3,if_neg n1,if_pos s3]
 exact ⟨rfl,rfl⟩
theorem on_step {k:Nat} {u:Int} {ev:Int} {m:FL} (ed:(f.did L k u).ev=ev) (em:f.mid L k u=m) (hb:behindI (f.s.st k) ev=none):f.step L k u={m with s:=f.s}:=by
 obtain ⟨a,b⟩:=fin_none' hb
 unfold FL.step
 rw [ed,em,a,b]
 rfl
theorem end_step {k:Nat} {u:Int} {ev y:Int} {m:FL} (hk:k<f.s.n) (ed:(f.did L k u).ev=ev) (em:f.mid L k u=m) (hb:behindI (f.s.st k) ev=some y):f.step L k u={m with s:=f.s.set k y 0,ph:=upd m.ph k 0}:=by
 obtain ⟨a,b⟩:=fin_some' hk hb
 unfold FL.step
 rw [ed,em,a,b,Int.toNat_natCast]
 rfl
theorem keep (h:OrdJ f ga la H V gg Wg) {f':FL} {H':Nat→Option Nat} {V':Nat→List Nat} {gg':Option Nat} {Wg':List Nat} (hn:f'.s.n=f.s.n) (hp:f'.s.probed=f.s.probed) (hb:f'.bud=f.bud) (hnd0:f'.nd=f.nd∧f'.ga=f.ga∧f'.la=f.la) (how:f'.own=f.own) (hac:f'.ps.ac.length=f.ps.ac.length)
  (hL:∀ c,(f'.Lc c).s.n=(f.Lc c).s.n∧(f'.Lc c).size=(f.Lc c).size) (hG:f'.G.s.n=f.G.s.n∧f'.G.size=f.G.size) (hloc:∀ t,t<f.s.n→((f'.Lc (f.nd t)).on f'.ps).At (la (f.nd t)) (H' (f.nd t)) (V' (f.nd t))) (hglo:(f'.G.on f'.ps).At ga gg' Wg')
  (hcor:Cor f.s.n f.bud f'.s.st f'.ph f'.got f.nd f.own (λc=>(f'.Lc c).s.st) H' V' f'.G.s.st (wP f'.ps)):OrdJ f' ga la H' V' gg' Wg':=by
 have hnd:=hnd0.1
 refine ⟨by rw [hn];exact h.n8,by rw [hp];exact h.np,by rw [hb];exact h.bud,by rw [hnd0.2.1,hnd0.2.2];exact h.adr,by rw [hac,hn];exact h.ac,λt ht=> ?_,λt ht=> ?_,hglo,by rw [hG.1];exact h.gn,h.g8,λt ht=> ?_,λt u ht hu=> ?_,?_⟩
 ·rw [how,hnd,(hL _).1];exact h.own t (by omega)
 ·unfold FL.lk;rw [hnd];exact hloc t (by omega)
 ·rw [hG.2,hnd];exact h.gl t (by omega)
 ·rw [hnd,(hL _).2,(hL _).2];exact h.ll t u (by omega) (by omega)
 ·rw [hn,hb,hnd,how];exact hcor
theorem tell_pass (h:OrdJ f ga la H V gg Wg) (h1:L.a1=0) {c u:Nat} (hc:c<8) (hu:u<f.ps.ac.length):tellS f.ps u 1 (L.pA c)=wP f.ps c:=by
 have hw:=h.wl
 have e:=tell_vw (ps:=f.ps) (o:=0) (n:=8) (m:=1) (v:=0) (i:=c) hu (by decide) hc (by omega) 1
 have ho:=(ok_vw (ps:=f.ps) (o:=0) (n:=8) (m:=1) (v:=0) (i:=c) hu (by decide) hc (by omega)).1
 unfold Lp.pA
 rw [h1,show (0:Int)+(c:Int)=((0:Nat):Int)+(c:Int) by omega]
 unfold tellS okS
 rw [ho,if_pos (by decide)]
 unfold tellI wP
 rw [if_pos (.inl rfl),if_pos hc,show ((0:Nat):Int)+(c:Int)=(c:Int) by omega,load_at]
theorem pass_off (h1:L.a1=0) {c:Nat} (hc:c<8) (u:Nat) (K old x:Int):∀ o' n',8≤o'→sub (doS f.ps u K (L.pA c) old x).ws o' n'=sub f.ps.ws o' n':=λo' n' ho=>by
 unfold Lp.pA
 rw [h1,show (0:Int)+(c:Int)=((0:Nat):Int)+(c:Int) by omega]
 exact do_off K old x (by omega)
theorem pass_load (h1:L.a1=0) {c:Nat} (u:Nat):wP (doS f.ps u 1 (L.pA c) 0 0)=wP f.ps:=by
 unfold wP doS
 split
 ·rfl
 ·rfl
theorem stpL1a (h:OrdJ f ga la H V gg Wg) (h1:L.a1=0) {k u:Nat} (hk:k<f.s.n) (hu:u<f.ps.ac.length) (s1:f.s.st k=1) (p1:f.ph k=1) (hw:wP f.ps (f.nd k)≠0):
  f.did L k u=⟨1,false,false,false⟩∧OrdJ (f.step L k u) ga la H V gg Wg∧(f.step L k u).s=f.s.set k 2 0∧(f.step L k u).ph=upd f.ph k 0:=by
 have hc:=h.cor.ndl k hk
 have et:=h.tell_pass h1 hc hu
 obtain ⟨ed,em⟩:=at_one (L:=L) (u:=u) hk s1
 have ed2:f.did L k u=⟨1,false,false,false⟩:=by rw [ed];unfold FL.acqD;rw [if_neg (by omega),if_pos p1,if_neg (by rw [et];exact hw)]
 have em2:f.mid L k u={f with ps:=doS f.ps u 1 (L.pA (f.nd k)) 0 0}:=by rw [em];unfold FL.acq;rw [if_neg (by omega),if_pos p1,if_neg (by rw [et];exact hw)]
 have es:=end_step (L:=L) (u:=(u:Int)) hk (by rw [ed2]) em2 (by rw [s1];rfl:behindI (f.s.st k) 1=some 2)
 refine ⟨ed2,?_,by rw [es],by rw [es]⟩
 rw [es]
 obtain ⟨fl,fg⟩:=h.far0 (q:=doS f.ps u 1 (L.pA (f.nd k)) 0 0) (do_len' _ _ _ _ _ _).1 (pass_off h1 hc u 1 0 0)
 refine h.keep rfl rfl rfl ⟨rfl,rfl,rfl⟩ rfl (do_len' _ _ _ _ _ _).2 (λ_=>⟨rfl,rfl⟩) ⟨rfl,rfl⟩ fl fg ?_
 show Cor f.s.n f.bud (upd f.s.st k 2) (upd f.ph k 0) f.got f.nd f.own _ H V f.G.s.st (wP (doS f.ps u 1 (L.pA (f.nd k)) 0 0))
 rw [pass_load h1]
 have hx:=h.cor.cx k hk
 have:=h.cor.own1 (t:=k) hk (y:=2) (p:=0) (g:=f.got k) (by
  cases hx with
  |pass hx hp hl q=>
   rcases q with ⟨q,_⟩|⟨q1,q2,q3⟩
   ·exact absurd q hw
   ·exact .has rfl rfl hl q3 q1 q2
  |_=>omega)
 rw [upd_idx f.got k rfl] at this
 exact this
theorem stpL1b (h:OrdJ f ga la H V gg Wg) (h1:L.a1=0) {k u:Nat} (hk:k<f.s.n) (hu:u<f.ps.ac.length) (s1:f.s.st k=1) (p1:f.ph k=1) (hw:wP f.ps (f.nd k)=0):
  f.did L k u=Dd.no∧OrdJ (f.step L k u) ga la H V gg Wg∧(f.step L k u).s=f.s∧(f.step L k u).ph=upd f.ph k 2:=by
 have hc:=h.cor.ndl k hk
 have et:=h.tell_pass h1 hc hu
 obtain ⟨ed,em⟩:=at_one (L:=L) (u:=u) hk s1
 have ed2:f.did L k u=Dd.no:=by rw [ed];unfold FL.acqD;rw [if_neg (by omega),if_pos p1,if_pos (by rw [et];exact hw)]
 have em2:f.mid L k u={f with ph:=upd f.ph k 2,G:=f.G.lock (f.nd k:Nat) (-1),ps:=doS f.ps u 1 (L.pA (f.nd k)) 0 0}:=by rw [em];unfold FL.acq;rw [if_neg (by omega),if_pos p1,if_pos (by rw [et];exact hw)]
 have es:=on_step (L:=L) (u:=(u:Int)) (k:=k) (by rw [ed2];rfl:(f.did L k u).ev=0) em2 (by rw [s1];rfl)
 have hx:=h.cor.cx k hk
 obtain ⟨hl,hq⟩:(f.Lc (f.nd k)).s.st (f.own k)=2∧f.G.s.st (f.nd k)=0:=by
  cases hx with
  |pass hx hp hl q=>exact ⟨hl,by omega⟩
  |_=>omega
 refine ⟨ed2,?_,by rw [es],by rw [es]⟩
 rw [es]
 obtain ⟨fl,fg⟩:=h.far0 (q:=doS f.ps u 1 (L.pA (f.nd k)) 0 0) (do_len' _ _ _ _ _ _).1 (pass_off h1 hc u 1 0 0)
 refine h.keep rfl rfl rfl ⟨rfl,rfl,rfl⟩ rfl (do_len' _ _ _ _ _ _).2 (λ_=>⟨rfl,rfl⟩) ⟨Inn.lock_n _ _,Inn.lock_size _ _⟩ fl (by show ((f.G.lock _ _).on _).At _ _ _;rw [Inn.lock_on];exact fg.lock _ _) ?_
 show Cor f.s.n f.bud f.s.st (upd f.ph k 2) f.got f.nd f.own _ H V (f.G.lock (f.nd k:Nat) (-1)).s.st (wP (doS f.ps u 1 (L.pA (f.nd k)) 0 0))
 rw [pass_load h1,Inn.lock_s,lock_st (by rw [h.gn];exact hc) hq]
 have:=h.cor.own2 (t:=k) hk (by show 2≤(f.Lc (f.nd k)).s.st (f.own k);omega) (y:=f.s.st k) (p:=2) (g:=f.got k) (z:=(f.Lc (f.nd k)).s.st (f.own k)) (w:=wP f.ps (f.nd k)) (e:=1) (by omega) (.glo s1 rfl hl hw rfl)
 rw [upd_idx f.got k rfl,upd_idx f.s.st k rfl,upd_idx (wP f.ps) _ rfl,upd_idx ((f.Lc (f.nd k)).s.st) _ rfl,upd_idx (λc=>(f.Lc c).s.st) _ rfl] at this
 exact this
theorem stpL3 (h:OrdJ f ga la H V gg Wg) (h1:L.a1=0) {k u:Nat} (hk:k<f.s.n) (hu:u<f.ps.ac.length) (s1:f.s.st k=1) (p3:f.ph k=3):
  f.did L k u=⟨1,false,false,true⟩∧OrdJ (f.step L k u) ga la H V gg Wg∧(f.step L k u).s=f.s.set k 2 0∧(f.step L k u).ph=upd f.ph k 0:=by
 have hc:=h.cor.ndl k hk
 obtain ⟨ed,em⟩:=at_one (L:=L) (u:=u) hk s1
 have ed2:f.did L k u=⟨1,false,false,true⟩:=by rw [ed];unfold FL.acqD;rw [if_neg (by omega),if_neg (by omega),if_neg (by omega)]
 have em2:f.mid L k u={f with ps:=doS f.ps u 2 (L.pA (f.nd k)) 0 1}:=by rw [em];unfold FL.acq;rw [if_neg (by omega),if_neg (by omega),if_neg (by omega)]
 have es:=end_step (L:=L) (u:=(u:Int)) hk (by rw [ed2]) em2 (by rw [s1];rfl:behindI (f.s.st k) 1=some 2)
 have hx:=h.cor.cx k hk
 have hB:=h.bud
 obtain ⟨hl,hq⟩:(f.Lc (f.nd k)).s.st (f.own k)=2∧f.G.s.st (f.nd k)=2:=by
  cases hx with
  |fst hx hp hl q e=>exact ⟨hl,e⟩
  |_=>omega
 refine ⟨ed2,?_,by rw [es],by rw [es]⟩
 rw [es]
 obtain ⟨fl,fg⟩:=h.far0 (q:=doS f.ps u 2 (L.pA (f.nd k)) 0 1) (do_len' _ _ _ _ _ _).1 (pass_off h1 hc u 2 0 1)
 refine h.keep rfl rfl rfl ⟨rfl,rfl,rfl⟩ rfl (do_len' _ _ _ _ _ _).2 (λ_=>⟨rfl,rfl⟩) ⟨rfl,rfl⟩ fl fg ?_
 show Cor f.s.n f.bud (upd f.s.st k 2) (upd f.ph k 0) f.got f.nd f.own _ H V f.G.s.st (wP (doS f.ps u 2 (L.pA (f.nd k)) 0 1))
 have ew:wP (doS f.ps u 2 (L.pA (f.nd k)) 0 1)=upd (wP f.ps) (f.nd k) 1:=by unfold Lp.pA;rw [h1];exact wP_store hu hc h.wl
 rw [ew]
 have:=h.cor.own2 (t:=k) hk (by show 2≤(f.Lc (f.nd k)).s.st (f.own k);omega) (y:=2) (p:=0) (g:=f.got k) (z:=(f.Lc (f.nd k)).s.st (f.own k)) (w:=1) (e:=f.G.s.st (f.nd k)) (by omega) (.has rfl rfl hl hq (by decide) (by omega))
 rw [upd_idx f.got k rfl,upd_idx f.G.s.st _ rfl,upd_idx ((f.Lc (f.nd k)).s.st) _ rfl,upd_idx (λc=>(f.Lc c).s.st) _ rfl] at this
 exact this
theorem loc_upd {q:PSta} {k:Nat} {x:Inn} {h':Option Nat} {v':List Nat} (hx:(x.on q).At (la (f.nd k)) h' v') (hf:∀ u,u<f.s.n→f.nd u≠f.nd k→((f.Lc (f.nd u)).on q).At (la (f.nd u)) (H (f.nd u)) (V (f.nd u))):
  ∀ t,t<f.s.n→((upd f.Lc (f.nd k) x (f.nd t)).on q).At (la (f.nd t)) (upd H (f.nd k) h' (f.nd t)) (upd V (f.nd k) v' (f.nd t)):=by
 intro t ht
 by_cases e:f.nd t=f.nd k
 ·rw [e,upd_same,upd_same,upd_same];exact hx
 ·rw [upd_other _ _ e,upd_other _ _ e,upd_other _ _ e];exact hf t ht e
theorem pass_turn (h:OrdJ f ga la H V gg Wg) (h1:L.a1=0) {k u:Nat} (hk:k<f.s.n) (K old w x:Int) (hx:x=3∨x=4):
  (∀ t,t<f.s.n→((upd f.Lc (f.nd k) ((f.Lc (f.nd k)).turn (f.own k:Nat) x) (f.nd t)).on (doS f.ps u K (L.pA (f.nd k)) old w)).At (la (f.nd t)) (H (f.nd t)) (V (f.nd t)))∧(f.G.on (doS f.ps u K (L.pA (f.nd k)) old w)).At ga gg Wg:=by
 have hc:=h.cor.ndl k hk
 obtain ⟨fl,fg⟩:=h.far0 (q:=doS f.ps u K (L.pA (f.nd k)) old w) (do_len' _ _ _ _ _ _).1 (pass_off h1 hc u K old w)
 refine ⟨?_,fg⟩
 have:=loc_upd (f:=f) (k:=k) (H:=H) (V:=V) (la:=la) (q:=doS f.ps u K (L.pA (f.nd k)) old w) (x:=(f.Lc (f.nd k)).turn (f.own k:Nat) x) (h':=H (f.nd k)) (v':=V (f.nd k)) (by rw [Inn.turn_on];exact (fl k hk).turn _ _ hx) (λu hu _=>fl u hu)
 rw [upd_idx H _ rfl,upd_idx V _ rfl] at this
 exact this
theorem turn_nz (c:Nat) (j:Nat) (x:Int):∀ d,(upd f.Lc c ((f.Lc c).turn (j:Nat) x) d).s.n=(f.Lc d).s.n∧(upd f.Lc c ((f.Lc c).turn (j:Nat) x) d).size=(f.Lc d).size:=λd=>by
 by_cases e:d=c
 ·subst e;rw [upd_same];exact ⟨Inn.turn_n _ _,Inn.turn_size _ _⟩
 ·rw [upd_other _ _ e];exact ⟨rfl,rfl⟩
theorem stpU0a (h:OrdJ f ga la H V gg Wg) (h1:L.a1=0) {k u:Nat} (hk:k<f.s.n) (hu:u<f.ps.ac.length) (s3:f.s.st k=3) (p0:f.ph k=0) (hw:wP f.ps (f.nd k)<f.bud):
  f.did L k u=Dd.no∧OrdJ (f.step L k u) ga la H V gg Wg∧(f.step L k u).s=f.s∧(f.step L k u).ph=upd f.ph k 1:=by
 have hc:=h.cor.ndl k hk
 have et:=h.tell_pass h1 hc hu
 obtain ⟨ed,em⟩:=at_three (L:=L) (u:=u) hk s3
 have ed2:f.did L k u=Dd.no:=by rw [ed];unfold FL.relD;rw [if_pos p0]
 have em2:f.mid L k u={f with got:=upd f.got k (wP f.ps (f.nd k)),ph:=upd f.ph k 1,Lc:=upd f.Lc (f.nd k) ((f.Lc (f.nd k)).turn (f.own k:Nat) 4),ps:=doS f.ps u 1 (L.pA (f.nd k)) 0 0}:=by rw [em];unfold FL.rel;rw [if_pos p0,et,if_pos hw]
 have es:=on_step (L:=L) (u:=(u:Int)) (k:=k) (by rw [ed2];rfl:(f.did L k u).ev=0) em2 (by rw [s3];rfl)
 have hx:=h.cor.cx k hk
 obtain ⟨hl,hq,q1⟩:(f.Lc (f.nd k)).s.st (f.own k)=2∧f.G.s.st (f.nd k)=2∧1≤wP f.ps (f.nd k):=by
  cases hx with
  |u0 hx hp hl e q1 q2=>exact ⟨hl,e,q1⟩
  |_=>omega
 refine ⟨ed2,?_,by rw [es],by rw [es]⟩
 rw [es]
 obtain ⟨fl,fg⟩:=h.pass_turn (u:=u) h1 hk 1 0 0 4 (.inr rfl)
 refine h.keep rfl rfl rfl ⟨rfl,rfl,rfl⟩ rfl (do_len' _ _ _ _ _ _).2 (turn_nz _ _ _) ⟨rfl,rfl⟩ fl fg ?_
 show Cor f.s.n f.bud f.s.st (upd f.ph k 1) (upd f.got k (wP f.ps (f.nd k))) f.nd f.own (λc=>(upd f.Lc (f.nd k) _ c).s.st) H V f.G.s.st (wP (doS f.ps u 1 (L.pA (f.nd k)) 0 0))
 rw [pass_load h1,upd_map,Inn.turn_s,turn_st (h.own k hk) hl]
 have:=h.cor.own2 (t:=k) hk (by show 2≤(f.Lc (f.nd k)).s.st (f.own k);omega) (y:=f.s.st k) (p:=1) (g:=wP f.ps (f.nd k)) (z:=4) (w:=wP f.ps (f.nd k)) (e:=f.G.s.st (f.nd k)) (by decide) (.u1 s3 rfl rfl hq q1 hw rfl)
 rw [upd_idx f.s.st k rfl,upd_idx (wP f.ps) _ rfl,upd_idx f.G.s.st _ rfl] at this
 exact this
theorem stpU0b (h:OrdJ f ga la H V gg Wg) (h1:L.a1=0) {k u:Nat} (hk:k<f.s.n) (hu:u<f.ps.ac.length) (s3:f.s.st k=3) (p0:f.ph k=0) (hw:¬ wP f.ps (f.nd k)<f.bud):
  f.did L k u=Dd.no∧OrdJ (f.step L k u) ga la H V gg Wg∧(f.step L k u).s=f.s∧(f.step L k u).ph=upd f.ph k 3:=by
 have hc:=h.cor.ndl k hk
 have et:=h.tell_pass h1 hc hu
 obtain ⟨ed,em⟩:=at_three (L:=L) (u:=u) hk s3
 have ed2:f.did L k u=Dd.no:=by rw [ed];unfold FL.relD;rw [if_pos p0]
 have em2:f.mid L k u={f with got:=upd f.got k (wP f.ps (f.nd k)),ph:=upd f.ph k 3,ps:=doS f.ps u 1 (L.pA (f.nd k)) 0 0}:=by rw [em];unfold FL.rel;rw [if_pos p0,et,if_neg hw]
 have es:=on_step (L:=L) (u:=(u:Int)) (k:=k) (by rw [ed2];rfl:(f.did L k u).ev=0) em2 (by rw [s3];rfl)
 have hx:=h.cor.cx k hk
 refine ⟨ed2,?_,by rw [es],by rw [es]⟩
 rw [es]
 obtain ⟨fl,fg⟩:=h.far0 (q:=doS f.ps u 1 (L.pA (f.nd k)) 0 0) (do_len' _ _ _ _ _ _).1 (pass_off h1 hc u 1 0 0)
 refine h.keep rfl rfl rfl ⟨rfl,rfl,rfl⟩ rfl (do_len' _ _ _ _ _ _).2 (λ_=>⟨rfl,rfl⟩) ⟨rfl,rfl⟩ fl fg ?_
 show Cor f.s.n f.bud f.s.st (upd f.ph k 3) (upd f.got k (wP f.ps (f.nd k))) f.nd f.own _ H V f.G.s.st (wP (doS f.ps u 1 (L.pA (f.nd k)) 0 0))
 rw [pass_load h1]
 have:=h.cor.own1 (t:=k) hk (y:=f.s.st k) (p:=3) (g:=wP f.ps (f.nd k)) (by
  cases hx with
  |u0 hx hp hl e q1 q2=>exact .u3 s3 rfl hl e q1 q2
  |_=>omega)
 rw [upd_idx f.s.st k rfl] at this
 exact this
theorem stpU2 (h:OrdJ f ga la H V gg Wg) (h1:L.a1=0) {k u:Nat} (hk:k<f.s.n) (hu:u<f.ps.ac.length) (s3:f.s.st k=3) (p2:f.ph k=2):
  f.did L k u=Dd.no∧OrdJ (f.step L k u) ga la H V gg Wg∧(f.step L k u).s=f.s∧(f.step L k u).ph=upd f.ph k 5:=by
 have hc:=h.cor.ndl k hk
 obtain ⟨ed,em⟩:=at_three (L:=L) (u:=u) hk s3
 have ed2:f.did L k u=Dd.no:=by rw [ed];unfold FL.relD;rw [if_neg (by omega),if_neg (by omega),if_pos p2]
 have em2:f.mid L k u={f with Lc:=upd f.Lc (f.nd k) ((f.Lc (f.nd k)).turn (f.own k:Nat) 3),ph:=upd f.ph k 5,ps:=doS f.ps u 2 (L.pA (f.nd k)) 0 (f.got k+1)}:=by rw [em];unfold FL.rel;rw [if_neg (by omega),if_neg (by omega),if_pos p2]
 have es:=on_step (L:=L) (u:=(u:Int)) (k:=k) (by rw [ed2];rfl:(f.did L k u).ev=0) em2 (by rw [s3];rfl)
 have hx:=h.cor.cx k hk
 obtain ⟨hl,hq,q1,q2,hv⟩:(f.Lc (f.nd k)).s.st (f.own k)=2∧f.G.s.st (f.nd k)=2∧1≤f.got k∧f.got k<f.bud∧V (f.nd k)≠[]:=by
  cases hx with
  |u2 hx hp hl e q1 q2 hg hv=>exact ⟨hl,e,by omega,by omega,hv⟩
  |_=>omega
 refine ⟨ed2,?_,by rw [es],by rw [es]⟩
 rw [es]
 obtain ⟨fl,fg⟩:=h.pass_turn (u:=u) h1 hk 2 0 (f.got k+1) 3 (.inl rfl)
 refine h.keep rfl rfl rfl ⟨rfl,rfl,rfl⟩ rfl (do_len' _ _ _ _ _ _).2 (turn_nz _ _ _) ⟨rfl,rfl⟩ fl fg ?_
 show Cor f.s.n f.bud f.s.st (upd f.ph k 5) f.got f.nd f.own (λc=>(upd f.Lc (f.nd k) _ c).s.st) H V f.G.s.st (wP (doS f.ps u 2 (L.pA (f.nd k)) 0 (f.got k+1)))
 have ew:wP (doS f.ps u 2 (L.pA (f.nd k)) 0 (f.got k+1))=upd (wP f.ps) (f.nd k) (f.got k+1):=by unfold Lp.pA;rw [h1];exact wP_store hu hc h.wl
 rw [ew,upd_map,Inn.turn_s,turn_st (h.own k hk) hl]
 have:=h.cor.own2 (t:=k) hk (by show 2≤(f.Lc (f.nd k)).s.st (f.own k);omega) (y:=f.s.st k) (p:=5) (g:=f.got k) (z:=3) (w:=f.got k+1) (e:=f.G.s.st (f.nd k)) (by decide) (.u5 s3 rfl rfl (.inr ⟨hq,by omega,by omega,hv⟩))
 rw [upd_idx f.s.st k rfl,upd_idx f.got k rfl,upd_idx f.G.s.st _ rfl] at this
 exact this
theorem stpU3 (h:OrdJ f ga la H V gg Wg) (h1:L.a1=0) {k u:Nat} (hk:k<f.s.n) (hu:u<f.ps.ac.length) (s3:f.s.st k=3) (p3:f.ph k=3):
  f.did L k u=Dd.no∧OrdJ (f.step L k u) ga la H V gg Wg∧(f.step L k u).s=f.s∧(f.step L k u).ph=upd f.ph k 4:=by
 have hc:=h.cor.ndl k hk
 obtain ⟨ed,em⟩:=at_three (L:=L) (u:=u) hk s3
 have ed2:f.did L k u=Dd.no:=by rw [ed];unfold FL.relD;rw [if_neg (by omega),if_neg (by omega),if_neg (by omega),if_pos p3]
 have em2:f.mid L k u={f with G:=f.G.turn (f.nd k:Nat) 3,ph:=upd f.ph k 4,ps:=doS f.ps u 2 (L.pA (f.nd k)) 0 0}:=by rw [em];unfold FL.rel;rw [if_neg (by omega),if_neg (by omega),if_neg (by omega),if_pos p3]
 have es:=on_step (L:=L) (u:=(u:Int)) (k:=k) (by rw [ed2];rfl:(f.did L k u).ev=0) em2 (by rw [s3];rfl)
 have hx:=h.cor.cx k hk
 obtain ⟨hl,hq⟩:(f.Lc (f.nd k)).s.st (f.own k)=2∧f.G.s.st (f.nd k)=2:=by
  cases hx with
  |u3 hx hp hl e q1 q2=>exact ⟨hl,e⟩
  |_=>omega
 refine ⟨ed2,?_,by rw [es],by rw [es]⟩
 rw [es]
 obtain ⟨fl,fg⟩:=h.far0 (q:=doS f.ps u 2 (L.pA (f.nd k)) 0 0) (do_len' _ _ _ _ _ _).1 (pass_off h1 hc u 2 0 0)
 refine h.keep rfl rfl rfl ⟨rfl,rfl,rfl⟩ rfl (do_len' _ _ _ _ _ _).2 (λ_=>⟨rfl,rfl⟩) ⟨Inn.turn_n _ _,Inn.turn_size _ _⟩ fl (by show ((f.G.turn _ _).on _).At _ _ _;rw [Inn.turn_on];exact fg.turn _ _ (.inl rfl)) ?_
 show Cor f.s.n f.bud f.s.st (upd f.ph k 4) f.got f.nd f.own _ H V (f.G.turn (f.nd k:Nat) 3).s.st (wP (doS f.ps u 2 (L.pA (f.nd k)) 0 0))
 have ew:wP (doS f.ps u 2 (L.pA (f.nd k)) 0 0)=upd (wP f.ps) (f.nd k) 0:=by unfold Lp.pA;rw [h1];exact wP_store hu hc h.wl
 rw [ew,Inn.turn_s,turn_st (by rw [h.gn];exact hc) hq]
 have:=h.cor.own2 (t:=k) hk (by show 2≤(f.Lc (f.nd k)).s.st (f.own k);omega) (y:=f.s.st k) (p:=4) (g:=f.got k) (z:=(f.Lc (f.nd k)).s.st (f.own k)) (w:=0) (e:=3) (by omega) (.u4 s3 rfl hl rfl rfl)
 rw [upd_idx f.s.st k rfl,upd_idx f.got k rfl,upd_idx ((f.Lc (f.nd k)).s.st) _ rfl,upd_idx (λc=>(f.Lc c).s.st) _ rfl] at this
 exact this
end OrdJ
namespace OrdJ
variable {f:FL} {L:Lp} {ga:Nat} {la:Nat→Nat} {H:Nat→Option Nat} {V:Nat→List Nat} {gg:Option Nat} {Wg:List Nat}
theorem glo_step (h:OrdJ f ga la H V gg Wg) {c u:Nat} (hc:c<8) (hu:u<f.ps.ac.length):
  ∃ g' W',((f.gl.step ga c u).on (f.gl.step ga c u).ps).At ga g' W'∧StI Wg c (f.gl.did ga c u) W'∧(∀ t,t<f.s.n→((f.Lc (f.nd t)).on (f.gl.step ga c u).ps).At (la (f.nd t)) (H (f.nd t)) (V (f.nd t)))∧wP (f.gl.step ga c u).ps=wP f.ps∧(f.gl.step ga c u).ps.ac.length=f.ps.ac.length∧
   ((f.gl.step ga c u).s.n=f.G.s.n∧(f.gl.step ga c u).size=f.G.size)∧(f.gl.step ga c u).s=f.G.s.fin c (f.gl.did ga c u).ev:=by
 have es:f.gl.s=f.G.s:=Inn.on_s _
 have ep:f.gl.ps=f.ps:=Inn.on_ps _
 have ez:f.gl.size=f.G.size:=Inn.on_size _
 obtain ⟨g',W',a,b,d⟩:=h.glo.step (k:=c) (u:=u) (by rw [es,h.gn];exact hc) (by rw [ep];exact hu)
 have hl:=Inn.step_len (x:=f.gl) (ga:Int) (c:Int) (u:Int)
 rw [ep] at hl d
 rw [ez] at d
 obtain ⟨q1,q2⟩:=h.far2 hl.1 d
 exact ⟨g',W',by rw [Inn.on_self];exact a,b,q1,q2,hl.2,⟨by rw [Inn.step_n,es],by rw [Inn.step_size,ez]⟩,by rw [Inn.step_s,es]⟩
theorem stpL2 (h:OrdJ f ga la H V gg Wg) {k u:Nat} (hk:k<f.s.n) (hu:u<f.ps.ac.length) (s1:f.s.st k=1) (p2:f.ph k=2):
  ∃ gg' Wg',f.did L k u=⟨0,false,(f.gl.did ga (f.nd k:Nat) u).enq,false⟩∧OrdJ (f.step L k u) ga la H V gg' Wg'∧StI Wg (f.nd k) (f.gl.did ga (f.nd k:Nat) u) Wg'∧(f.step L k u).s=f.s∧(f.step L k u).ph=upd f.ph k (2+(f.gl.did ga (f.nd k:Nat) u).ev)∧((f.gl.did ga (f.nd k:Nat) u).ev=0∨(f.gl.did ga (f.nd k:Nat) u).ev=1):=by
 have hc:=h.cor.ndl k hk
 obtain ⟨g',W',a,b,fl,ew,el,en,ex⟩:=h.glo_step (c:=f.nd k) (u:=u) hc hu
 have hx:=h.cor.cx k hk
 obtain ⟨hl,hq,hw⟩:(f.Lc (f.nd k)).s.st (f.own k)=2∧f.G.s.st (f.nd k)=1∧wP f.ps (f.nd k)=0:=by
  cases hx with
  |glo hx hp hl q e=>exact ⟨hl,e,q⟩
  |_=>omega
 have es0:f.gl.s=f.G.s:=Inn.on_s _
 have hd:=(Inn.did_at (x:=f.gl) (k:=f.nd k) (u:=u) (ga:Int) (by rw [es0,h.gn];exact hc)).1 (by rw [es0];exact hq)
 obtain ⟨ed,em⟩:=at_one (L:=L) (u:=u) hk s1
 have ed2:f.did L k u=⟨0,false,(f.gl.did ga (f.nd k:Nat) u).enq,false⟩:=by rw [ed];unfold FL.acqD;rw [if_neg (by omega),if_neg (by omega),if_pos p2,h.adr.1]
 have em2:f.mid L k u={f with G:=f.gl.step ga (f.nd k:Nat) u,ph:=upd f.ph k (2+(f.gl.did ga (f.nd k:Nat) u).ev),ps:=(f.gl.step ga (f.nd k:Nat) u).ps}:=by rw [em];unfold FL.acq;rw [if_neg (by omega),if_neg (by omega),if_pos p2,h.adr.1]
 have es:=on_step (L:=L) (u:=(u:Int)) (k:=k) (by rw [ed2]:(f.did L k u).ev=0) em2 (by rw [s1];rfl)
 refine ⟨g',W',ed2,?_,b,by rw [es],by rw [es],hd.1⟩
 rw [es]
 refine h.keep rfl rfl rfl ⟨rfl,rfl,rfl⟩ rfl el (λ_=>⟨rfl,rfl⟩) en fl a ?_
 show Cor f.s.n f.bud f.s.st (upd f.ph k (2+(f.gl.did ga (f.nd k:Nat) u).ev)) f.got f.nd f.own _ H V (f.gl.step ga (f.nd k:Nat) u).s.st (wP (f.gl.step ga (f.nd k:Nat) u).ps)
 rw [ew,ex]
 rcases hd.1 with e0|e1
 ·rw [e0,(fin_none' (by rw [hq];rfl:behindI (f.G.s.st (f.nd k)) 0=none)).1]
  have:=h.cor.own1 (t:=k) hk (y:=f.s.st k) (p:=2+0) (g:=f.got k) (.glo s1 rfl hl hw hq)
  rw [upd_idx f.got k rfl,upd_idx f.s.st k rfl] at this
  exact this
 ·rw [e1,(fin_some' (by rw [h.gn];exact hc) (by rw [hq];rfl:behindI (f.G.s.st (f.nd k)) 1=some 2)).1]
  have:=h.cor.own2 (t:=k) hk (by show 2≤(f.Lc (f.nd k)).s.st (f.own k);omega) (y:=f.s.st k) (p:=2+1) (g:=f.got k) (z:=(f.Lc (f.nd k)).s.st (f.own k)) (w:=wP f.ps (f.nd k)) (e:=2) (by omega) (.fst s1 rfl hl hw rfl)
  rw [upd_idx f.got k rfl,upd_idx f.s.st k rfl,upd_idx (wP f.ps) _ rfl,upd_idx ((f.Lc (f.nd k)).s.st) _ rfl,upd_idx (λc=>(f.Lc c).s.st) _ rfl] at this
  exact this
theorem stpU4 (h:OrdJ f ga la H V gg Wg) {k u:Nat} (hk:k<f.s.n) (hu:u<f.ps.ac.length) (s3:f.s.st k=3) (p4:f.ph k=4):
  ∃ gg',f.did L k u=Dd.no∧OrdJ (f.step L k u) ga la H V gg' Wg∧(f.step L k u).s=f.s∧((f.gl.did ga (f.nd k:Nat) u).ev=0∧(f.step L k u).ph=f.ph∨(f.gl.did ga (f.nd k:Nat) u).ev=3∧(f.step L k u).ph=upd f.ph k 5):=by
 have hc:=h.cor.ndl k hk
 obtain ⟨g',W',a,b,fl,ew,el,en,ex⟩:=h.glo_step (c:=f.nd k) (u:=u) hc hu
 have hx:=h.cor.cx k hk
 obtain ⟨hl,hq,hw⟩:(f.Lc (f.nd k)).s.st (f.own k)=2∧f.G.s.st (f.nd k)=3∧wP f.ps (f.nd k)=0:=by
  cases hx with
  |u4 hx hp hl q e=>exact ⟨hl,q,e⟩
  |_=>omega
 have es0:f.gl.s=f.G.s:=Inn.on_s _
 have hd:=(Inn.did_at (x:=f.gl) (k:=f.nd k) (u:=u) (ga:Int) (by rw [es0,h.gn];exact hc)).2.1 (by rw [es0];exact hq)
 have eW:W'=Wg:=by
  cases b with
  |same h0 h1 e=>exact e
  |enq hh e=>rw [hh] at hd;simp at hd
  |grant hh e=>rw [hh] at hd;simp at hd
  |both hh e e'=>rw [hh] at hd;simp at hd
 subst eW
 obtain ⟨ed,em⟩:=at_three (L:=L) (u:=u) hk s3
 have ed2:f.did L k u=Dd.no:=by rw [ed];unfold FL.relD;rw [if_neg (by omega),if_neg (by omega),if_neg (by omega),if_neg (by omega),if_pos p4]
 rcases hd.1 with e0|e3
 ·have em2:f.mid L k u={f with G:=f.gl.step ga (f.nd k:Nat) u,ps:=(f.gl.step ga (f.nd k:Nat) u).ps}:=by rw [em];unfold FL.rel;rw [if_neg (by omega),if_neg (by omega),if_neg (by omega),if_neg (by omega),if_pos p4,h.adr.1,if_neg (by omega)]
  have es:=on_step (L:=L) (u:=(u:Int)) (k:=k) (by rw [ed2];rfl:(f.did L k u).ev=0) em2 (by rw [s3];rfl)
  refine ⟨g',ed2,?_,by rw [es],.inl ⟨e0,by rw [es]⟩⟩
  rw [es]
  refine h.keep rfl rfl rfl ⟨rfl,rfl,rfl⟩ rfl el (λ_=>⟨rfl,rfl⟩) en fl a ?_
  show Cor f.s.n f.bud f.s.st f.ph f.got f.nd f.own _ H V (f.gl.step ga (f.nd k:Nat) u).s.st (wP (f.gl.step ga (f.nd k:Nat) u).ps)
  rw [ew,ex,e0,(fin_none' (by rw [hq];rfl:behindI (f.G.s.st (f.nd k)) 0=none)).1]
  exact h.cor
 ·have em2:f.mid L k u={f with G:=f.gl.step ga (f.nd k:Nat) u,ph:=upd f.ph k 5,Lc:=upd f.Lc (f.nd k) ((f.Lc (f.nd k)).turn (f.own k:Nat) 3),ps:=(f.gl.step ga (f.nd k:Nat) u).ps}:=by rw [em];unfold FL.rel;rw [if_neg (by omega),if_neg (by omega),if_neg (by omega),if_neg (by omega),if_pos p4,h.adr.1,if_pos e3]
  have es:=on_step (L:=L) (u:=(u:Int)) (k:=k) (by rw [ed2];rfl:(f.did L k u).ev=0) em2 (by rw [s3];rfl)
  refine ⟨g',ed2,?_,by rw [es],.inr ⟨e3,by rw [es]⟩⟩
  rw [es]
  have fl2:=loc_upd (f:=f) (k:=k) (H:=H) (V:=V) (la:=la) (q:=(f.gl.step ga (f.nd k:Nat) u).ps) (x:=(f.Lc (f.nd k)).turn (f.own k:Nat) 3) (h':=H (f.nd k)) (v':=V (f.nd k)) (by rw [Inn.turn_on];exact (fl k hk).turn _ _ (.inl rfl)) (λu hu _=>fl u hu)
  rw [upd_idx H _ rfl,upd_idx V _ rfl] at fl2
  refine h.keep rfl rfl rfl ⟨rfl,rfl,rfl⟩ rfl el (turn_nz _ _ _) en fl2 a ?_
  show Cor f.s.n f.bud f.s.st (upd f.ph k 5) f.got f.nd f.own (λc=>(upd f.Lc (f.nd k) _ c).s.st) H V (f.gl.step ga (f.nd k:Nat) u).s.st (wP (f.gl.step ga (f.nd k:Nat) u).ps)
  rw [ew,ex,e3,(fin_some' (by rw [h.gn];exact hc) (by rw [hq];rfl:behindI (f.G.s.st (f.nd k)) 3=some 0)).1,upd_map,Inn.turn_s,turn_st (h.own k hk) hl]
  have:=h.cor.own2 (t:=k) hk (by show 2≤(f.Lc (f.nd k)).s.st (f.own k);omega) (y:=f.s.st k) (p:=5) (g:=f.got k) (z:=3) (w:=wP f.ps (f.nd k)) (e:=0) (by decide) (.u5 s3 rfl rfl (.inl ⟨hw,rfl⟩))
  rw [upd_idx f.s.st k rfl,upd_idx f.got k rfl,upd_idx (wP f.ps) _ rfl] at this
  exact this
theorem loc_step (h:OrdJ f ga la H V gg Wg) {k u:Nat} (hk:k<f.s.n) (hu:u<f.ps.ac.length) {y:Inn} (hy:y.At (la (f.nd k)) (H (f.nd k)) (V (f.nd k))) (yp:y.ps=f.ps) (yn:y.s.n=(f.Lc (f.nd k)).s.n) (yz:y.size=(f.Lc (f.nd k)).size):
  ∃ g' W',(y.step (la (f.nd k)) (f.own k:Nat) u).At (la (f.nd k)) g' W'∧StI (V (f.nd k)) (f.own k) (y.did (la (f.nd k)) (f.own k:Nat) u) W'∧
   (∀ t,t<f.s.n→((upd f.Lc (f.nd k) (y.step (la (f.nd k)) (f.own k:Nat) u) (f.nd t)).on (y.step (la (f.nd k)) (f.own k:Nat) u).ps).At (la (f.nd t)) (upd H (f.nd k) g' (f.nd t)) (upd V (f.nd k) W' (f.nd t)))∧
   (f.G.on (y.step (la (f.nd k)) (f.own k:Nat) u).ps).At ga gg Wg∧wP (y.step (la (f.nd k)) (f.own k:Nat) u).ps=wP f.ps∧(y.step (la (f.nd k)) (f.own k:Nat) u).ps.ac.length=f.ps.ac.length∧
   (∀ c,(upd f.Lc (f.nd k) (y.step (la (f.nd k)) (f.own k:Nat) u) c).s.n=(f.Lc c).s.n∧(upd f.Lc (f.nd k) (y.step (la (f.nd k)) (f.own k:Nat) u) c).size=(f.Lc c).size):=by
 have ho:=h.own k hk
 obtain ⟨g',W',a,b,d⟩:=hy.step (k:=f.own k) (u:=u) (by rw [yn];exact ho) (by rw [yp];exact hu)
 have hl:=Inn.step_len (x:=y) (la (f.nd k):Int) (f.own k:Int) (u:Int)
 rw [yp] at hl d
 rw [yz] at d
 obtain ⟨q1,q2,q3⟩:=h.far1 hk hl.1 d
 refine ⟨g',W',a,b,loc_upd (by rw [Inn.on_self];exact a) q1,q2,q3,hl.2,λc=> ?_⟩
 by_cases e:c=f.nd k
 ·subst e;rw [upd_same];exact ⟨by rw [Inn.step_n,yn],by rw [Inn.step_size,yz]⟩
 ·rw [upd_other _ _ e];exact ⟨rfl,rfl⟩
theorem stpU1 (h:OrdJ f ga la H V gg Wg) {k u:Nat} (hk:k<f.s.n) (hu:u<f.ps.ac.length) (s3:f.s.st k=3) (p1:f.ph k=1):
  ∃ p,(p=2∨p=3)∧f.did L k u=Dd.no∧OrdJ (f.step L k u) ga la H V gg Wg∧(f.step L k u).s=f.s∧(f.step L k u).ph=upd f.ph k p:=by
 have hc:=h.cor.ndl k hk
 have es0:(f.lk (f.nd k)).s=(f.Lc (f.nd k)).s:=Inn.on_s _
 obtain ⟨g',W',a,b,fl,fg,ew,el,en⟩:=h.loc_step hk hu (h.loc k hk) (Inn.on_ps _) (by rw [es0]) (Inn.on_size _)
 have hx:=h.cor.cx k hk
 obtain ⟨hl,he,q1,q2,hg⟩:(f.Lc (f.nd k)).s.st (f.own k)=4∧f.G.s.st (f.nd k)=2∧1≤wP f.ps (f.nd k)∧wP f.ps (f.nd k)<f.bud∧f.got k=wP f.ps (f.nd k):=by
  cases hx with
  |u1 hx hp hl e q1 q2 hg=>exact ⟨hl,e,q1,q2,hg⟩
  |_=>omega
 have ho:=h.own k hk
 have ho2:f.own k<(f.lk (f.nd k)).s.n:=by rw [es0];exact ho
 have hd:=(Inn.did_at (x:=f.lk (f.nd k)) (k:=f.own k) (u:=u) (la (f.nd k):Int) ho2).2.2.1 (by rw [es0];exact hl)
 have eW:W'=V (f.nd k):=by
  cases b with
  |same h0 h1 e=>exact e
  |enq hh e=>rw [hh] at hd;simp at hd
  |grant hh e=>rw [hh] at hd;simp at hd
  |both hh e e'=>rw [hh] at hd;simp at hd
 have exs:((f.lk (f.nd k)).step (la (f.nd k)) (f.own k:Nat) u).s=(f.Lc (f.nd k)).s.set (f.own k) 2 0:=by
  rw [Inn.step_s,es0]
  exact (fin_some' ho (by rw [hl];rcases hd.1 with e|e<;>rw [e]<;>rfl)).1
 have eg:g'=H (f.nd k):=by
  refine (h.loc k hk).qf.same a.qf (by rw [exs,es0];rfl) λi hi=> ?_
  rw [exs,es0]
  show 2≤upd _ _ _ i↔_
  by_cases e:i=f.own k
  ·subst e;rw [upd_same,hl];decide
  ·rw [upd_other _ _ e]
 subst eW eg
 rw [upd_idx H _ rfl,upd_idx V _ rfl] at fl
 obtain ⟨ed,em⟩:=at_three (L:=L) (u:=u) hk s3
 have ed2:f.did L k u=Dd.no:=by rw [ed];unfold FL.relD;rw [if_neg (by omega),if_pos p1]
 obtain ⟨p,hp,hp2⟩:∃ p:Int,p=(if ((f.lk (f.nd k)).did (la (f.nd k)) (f.own k:Nat) u).ev=5 then 2 else 3)∧((p=2∧V (f.nd k)≠[])∨p=3):=by
  by_cases e5:((f.lk (f.nd k)).did (la (f.nd k)) (f.own k:Nat) u).ev=5
  ·exact ⟨2,by rw [if_pos e5],.inl ⟨rfl,(h.loc k hk).company ho2 (by rw [show (f.lk (f.nd k)).ps=f.ps from Inn.on_ps _];exact hu) (by rw [es0];exact hl) e5⟩⟩
  ·exact ⟨3,by rw [if_neg e5],.inr rfl⟩
 have em2:f.mid L k u={f with Lc:=upd f.Lc (f.nd k) ((f.lk (f.nd k)).step (la (f.nd k)) (f.own k:Nat) u),ph:=upd f.ph k p,ps:=((f.lk (f.nd k)).step (la (f.nd k)) (f.own k:Nat) u).ps}:=by rw [em];unfold FL.rel;rw [if_neg (by omega),if_pos p1,h.adr.2,←hp]
 have es:=on_step (L:=L) (u:=(u:Int)) (k:=k) (by rw [ed2];rfl:(f.did L k u).ev=0) em2 (by rw [s3];rfl)
 refine ⟨p,hp2.imp (λq=>q.1) id,ed2,?_,by rw [es],by rw [es]⟩
 rw [es]
 refine h.keep rfl rfl rfl ⟨rfl,rfl,rfl⟩ rfl el en ⟨rfl,rfl⟩ fl fg ?_
 show Cor f.s.n f.bud f.s.st (upd f.ph k p) f.got f.nd f.own (λc=>(upd f.Lc (f.nd k) _ c).s.st) H V f.G.s.st (wP ((f.lk (f.nd k)).step (la (f.nd k)) (f.own k:Nat) u).ps)
 rw [ew,upd_map,exs]
 have:=h.cor.own2 (t:=k) hk (by show 2≤(f.Lc (f.nd k)).s.st (f.own k);omega) (y:=f.s.st k) (p:=p) (g:=f.got k) (z:=2) (w:=wP f.ps (f.nd k)) (e:=f.G.s.st (f.nd k)) (by decide) (by
  rcases hp2 with ⟨e,hv⟩|e
  ·exact .u2 s3 e rfl he q1 q2 hg hv
  ·exact .u3 s3 e rfl he q1 (by omega))
 rw [upd_idx f.s.st k rfl,upd_idx f.got k rfl,upd_idx (wP f.ps) _ rfl,upd_idx f.G.s.st _ rfl] at this
 exact this
theorem stpU5 (h:OrdJ f ga la H V gg Wg) {k u:Nat} (hk:k<f.s.n) (hu:u<f.ps.ac.length) (s3:f.s.st k=3) (p5:f.ph k=5):
  (f.did L k u=Dd.no∧OrdJ (f.step L k u) ga la H V gg Wg∧(f.step L k u).s=f.s∧(f.step L k u).ph=f.ph)∨
  (f.did L k u=⟨3,false,false,false⟩∧OrdJ (f.step L k u) ga la (upd H (f.nd k) none) V gg Wg∧(f.step L k u).s=f.s.set k 0 0∧(f.step L k u).ph=upd f.ph k 0):=by
 have hc:=h.cor.ndl k hk
 have es0:(f.lk (f.nd k)).s=(f.Lc (f.nd k)).s:=Inn.on_s _
 obtain ⟨g',W',a,b,fl,fg,ew,el,en⟩:=h.loc_step hk hu (h.loc k hk) (Inn.on_ps _) (by rw [es0]) (Inn.on_size _)
 have hx:=h.cor.cx k hk
 have hl:(f.Lc (f.nd k)).s.st (f.own k)=3:=by
  cases hx with
  |u5 hx hp hl q=>exact hl
  |_=>omega
 have ho:=h.own k hk
 have ho2:f.own k<(f.lk (f.nd k)).s.n:=by rw [es0];exact ho
 have hH:H (f.nd k)=some (f.own k):=h.cor.hold k hk (by show 2≤(f.Lc (f.nd k)).s.st (f.own k);omega)
 have hd:=(Inn.did_at (x:=f.lk (f.nd k)) (k:=f.own k) (u:=u) (la (f.nd k):Int) ho2).2.1 (by rw [es0];exact hl)
 have eW:W'=V (f.nd k):=by
  cases b with
  |same h0 h1 e=>exact e
  |enq hh e=>rw [hh] at hd;simp at hd
  |grant hh e=>rw [hh] at hd;simp at hd
  |both hh e e'=>rw [hh] at hd;simp at hd
 subst eW
 rw [upd_idx V _ rfl] at fl
 obtain ⟨ed,em⟩:=at_three (L:=L) (u:=u) hk s3
 have em2:f.mid L k u={f with Lc:=upd f.Lc (f.nd k) ((f.lk (f.nd k)).step (la (f.nd k)) (f.own k:Nat) u),ps:=((f.lk (f.nd k)).step (la (f.nd k)) (f.own k:Nat) u).ps}:=by rw [em];unfold FL.rel;rw [if_neg (by omega),if_neg (by omega),if_neg (by omega),if_neg (by omega),if_neg (by omega),h.adr.2]
 have ed2:f.did L k u=⟨((f.lk (f.nd k)).did (la (f.nd k)) (f.own k:Nat) u).ev,false,false,false⟩:=by rw [ed];unfold FL.relD;rw [if_neg (by omega),if_neg (by omega),if_neg (by omega),if_neg (by omega),if_neg (by omega),h.adr.2]
 rcases hd.1 with e0|e3
 ·rw [e0] at ed2
  have exs:((f.lk (f.nd k)).step (la (f.nd k)) (f.own k:Nat) u).s=(f.Lc (f.nd k)).s:=by
   rw [Inn.step_s,es0,e0]
   exact (fin_none' (by rw [hl];rfl)).1
  have eg:g'=H (f.nd k):=(h.loc k hk).qf.same a.qf (by rw [exs,es0]) λi hi=>by rw [exs,es0]
  subst eg
  rw [upd_idx H _ rfl] at fl
  have es:=on_step (L:=L) (u:=(u:Int)) (k:=k) (by rw [ed2]:(f.did L k u).ev=0) em2 (by rw [s3];rfl)
  refine .inl ⟨ed2,?_,by rw [es],by rw [es]⟩
  rw [es]
  refine h.keep rfl rfl rfl ⟨rfl,rfl,rfl⟩ rfl el en ⟨rfl,rfl⟩ fl fg ?_
  show Cor f.s.n f.bud f.s.st f.ph f.got f.nd f.own (λc=>(upd f.Lc (f.nd k) _ c).s.st) H V f.G.s.st (wP ((f.lk (f.nd k)).step (la (f.nd k)) (f.own k:Nat) u).ps)
  rw [ew,upd_map,exs,upd_idx (λd=>(f.Lc d).s.st) _ rfl]
  exact h.cor
 ·rw [e3] at ed2
  have exs:((f.lk (f.nd k)).step (la (f.nd k)) (f.own k:Nat) u).s=(f.Lc (f.nd k)).s.set (f.own k) 0 0:=by
   rw [Inn.step_s,es0,e3]
   exact (fin_some' ho (by rw [hl];rfl)).1
  have eg:g'=none:=by
   cases e:g' with
   |none=>rfl
   |some i=>
    obtain ⟨i1,i2⟩:=(a.qf.iff i).1 e
    rw [exs] at i1 i2
    have i2:2≤upd (f.Lc (f.nd k)).s.st (f.own k) 0 i:=i2
    by_cases q:i=f.own k
    ·subst q;rw [upd_same] at i2;omega
    ·rw [upd_other _ _ q] at i2
     have:=((h.loc k hk).qf.iff i).2 (by rw [es0];exact ⟨i1,i2⟩)
     rw [hH] at this
     exact absurd (Option.some.inj this).symm q
  subst eg
  have es:=end_step (L:=L) (u:=(u:Int)) hk (by rw [ed2]) em2 (by rw [s3];rfl:behindI (f.s.st k) 3=some 0)
  refine .inr ⟨ed2,?_,by rw [es],by rw [es]⟩
  rw [es]
  refine h.keep rfl rfl rfl ⟨rfl,rfl,rfl⟩ rfl el en ⟨rfl,rfl⟩ fl fg ?_
  show Cor f.s.n f.bud (upd f.s.st k 0) (upd f.ph k 0) f.got f.nd f.own (λc=>(upd f.Lc (f.nd k) _ c).s.st) (upd H (f.nd k) none) V f.G.s.st (wP ((f.lk (f.nd k)).step (la (f.nd k)) (f.own k:Nat) u).ps)
  rw [ew,upd_map,exs]
  exact h.cor.gone hk s3 p5
end OrdJ
namespace OrdJ
variable {f:FL} {L:Lp} {ga:Nat} {la:Nat→Nat} {H:Nat→Option Nat} {V:Nat→List Nat} {gg:Option Nat} {Wg:List Nat}
theorem stpL0 (h:OrdJ f ga la H V gg Wg) {k u:Nat} (hk:k<f.s.n) (hu:u<f.ps.ac.length) (s1:f.s.st k=1) (p0:f.ph k=0):
  ∃ W',StI (V (f.nd k)) (f.own k) ((f.ask k).did (la (f.nd k)) (f.own k:Nat) u) W'∧f.did L k u=⟨0,((f.ask k).did (la (f.nd k)) (f.own k:Nat) u).enq,false,false⟩∧(f.step L k u).s=f.s∧
   ((((f.ask k).did (la (f.nd k)) (f.own k:Nat) u).ev=0∧OrdJ (f.step L k u) ga la H (upd V (f.nd k) W') gg Wg∧(f.step L k u).ph=f.ph)∨
    (((f.ask k).did (la (f.nd k)) (f.own k:Nat) u).ev=1∧H (f.nd k)=none∧OrdJ (f.step L k u) ga la (upd H (f.nd k) (some (f.own k))) (upd V (f.nd k) W') gg Wg∧(f.step L k u).ph=upd f.ph k 1)):=by
 have hc:=h.cor.ndl k hk
 have ho:=h.own k hk
 have es0:(f.lk (f.nd k)).s=(f.Lc (f.nd k)).s:=Inn.on_s _
 have hx:=h.cor.cx k hk
 have hl:(f.Lc (f.nd k)).s.st (f.own k)=0∨(f.Lc (f.nd k)).s.st (f.own k)=1:=by
  cases hx with
  |loc hx hp hl=>exact hl
  |_=>omega
 obtain ⟨y,hy⟩:∃ y,y=f.ask k:=⟨_,rfl⟩
 have yA:y.At (la (f.nd k)) (H (f.nd k)) (V (f.nd k)):=by
  rw [hy];unfold FL.ask
  split
  ·exact (h.loc k hk).lock _ _
  ·exact h.loc k hk
 have yS:y.s.st=upd (f.Lc (f.nd k)).s.st (f.own k) 1∧y.s.n=(f.Lc (f.nd k)).s.n:=by
  rw [hy];unfold FL.ask
  rcases hl with e|e
  ·rw [if_pos e,Inn.lock_s,es0]
   exact ⟨lock_st ho e,SS.lock_n _ _ _⟩
  ·rw [if_neg (by omega),es0]
   exact ⟨(upd_idx _ _ e).symm,rfl⟩
 have yz:y.size=(f.Lc (f.nd k)).size:=by
  rw [hy];unfold FL.ask
  split
  ·rw [Inn.lock_size];exact Inn.on_size _
  ·exact Inn.on_size _
 have yp:y.ps=f.ps:=by rw [hy];exact f.ask_ps k
 obtain ⟨g',W',a,b,fl,fg,ew,el,en⟩:=h.loc_step hk hu yA yp yS.2 yz
 have yk:y.s.st (f.own k)=1:=by rw [yS.1,upd_same]
 have hd:=(Inn.did_at (x:=y) (k:=f.own k) (u:=u) (la (f.nd k):Int) (by rw [yS.2];exact ho)).1 yk
 obtain ⟨ed,em⟩:=at_one (L:=L) (u:=u) hk s1
 have ed2:f.did L k u=⟨0,(y.did (la (f.nd k)) (f.own k:Nat) u).enq,false,false⟩:=by rw [ed];unfold FL.acqD;rw [if_pos p0,h.adr.2,hy]
 have em2:f.mid L k u={f with Lc:=upd f.Lc (f.nd k) (y.step (la (f.nd k)) (f.own k:Nat) u),ph:=upd f.ph k (y.did (la (f.nd k)) (f.own k:Nat) u).ev,ps:=(y.step (la (f.nd k)) (f.own k:Nat) u).ps}:=by rw [em];unfold FL.acq;rw [if_pos p0,h.adr.2,hy]
 have es:=on_step (L:=L) (u:=(u:Int)) (k:=k) (by rw [ed2]:(f.did L k u).ev=0) em2 (by rw [s1];rfl)
 rw [←hy]
 refine ⟨W',b,ed2,by rw [es],?_⟩
 rcases hd.1 with e0|e1
 ·left
  have exs:(y.step (la (f.nd k)) (f.own k:Nat) u).s=y.s:=by
   rw [Inn.step_s,e0]
   exact (fin_none' (by rw [yk];rfl)).1
  have eg:g'=H (f.nd k):=yA.qf.same a.qf (by rw [exs]) λi hi=>by rw [exs]
  subst eg
  rw [upd_idx H _ rfl] at fl
  have hv:V (f.nd k)≠[]→W'≠[]:=by
   cases b with
   |same q0 q1 e=>rw [e];exact id
   |enq hh e=>rw [e];intro _;simp
   |grant hh e=>rw [hh] at e0;cases e0
   |both hh e e'=>rw [hh] at e0;cases e0
  refine ⟨e0,?_,by rw [es];show upd f.ph k _=f.ph;rw [e0];exact upd_idx _ _ p0⟩
  rw [es]
  refine h.keep rfl rfl rfl ⟨rfl,rfl,rfl⟩ rfl el en ⟨rfl,rfl⟩ fl fg ?_
  show Cor f.s.n f.bud f.s.st (upd f.ph k _) f.got f.nd f.own (λc=>(upd f.Lc (f.nd k) _ c).s.st) H (upd V (f.nd k) W') f.G.s.st (wP (y.step (la (f.nd k)) (f.own k:Nat) u).ps)
  rw [ew,upd_map,exs,yS.1,e0,upd_idx f.ph k p0]
  exact h.cor.ask hk s1 p0 hv
 ·right
  have exs:(y.step (la (f.nd k)) (f.own k:Nat) u).s=y.s.set (f.own k) 2 0:=by
   rw [Inn.step_s,e1]
   exact (fin_some' (by rw [yS.2];exact ho) (by rw [yk];rfl)).1
  have ex2:(y.step (la (f.nd k)) (f.own k:Nat) u).s.st=upd (f.Lc (f.nd k)).s.st (f.own k) 2:=by
   rw [exs]
   show upd y.s.st (f.own k) 2=_
   rw [yS.1]
   funext i
   by_cases e:i=f.own k
   ·subst e;rw [upd_same,upd_same]
   ·rw [upd_other _ _ e,upd_other _ _ e,upd_other _ _ e]
  have exn:(y.step (la (f.nd k)) (f.own k:Nat) u).s.n=(f.Lc (f.nd k)).s.n:=by rw [Inn.step_n,yS.2]
  have eg:g'=some (f.own k):=(a.qf.iff _).2 ⟨by rw [exn];exact ho,by rw [ex2,upd_same];decide⟩
  have eH:H (f.nd k)=none:=by
   cases e:H (f.nd k) with
   |none=>rfl
   |some i=>
    obtain ⟨i1,i2⟩:=(yA.qf.iff i).1 e
    rw [yS.1] at i2
    by_cases q:i=f.own k
    ·subst q;rw [upd_same] at i2;omega
    ·rw [upd_other _ _ q] at i2
     have:=(a.qf.iff i).2 ⟨by rw [exn,←yS.2];exact i1,by rw [ex2,upd_other _ _ q];exact i2⟩
     rw [eg] at this
     exact absurd (Option.some.inj this).symm q
  subst eg
  refine ⟨e1,eH,?_,by rw [es];show upd f.ph k _=_;rw [e1]⟩
  rw [es]
  refine h.keep rfl rfl rfl ⟨rfl,rfl,rfl⟩ rfl el en ⟨rfl,rfl⟩ fl fg ?_
  show Cor f.s.n f.bud f.s.st (upd f.ph k _) f.got f.nd f.own (λc=>(upd f.Lc (f.nd k) _ c).s.st) (upd H (f.nd k) (some (f.own k))) (upd V (f.nd k) W') f.G.s.st (wP (y.step (la (f.nd k)) (f.own k:Nat) u).ps)
  rw [ew,upd_map,ex2,e1]
  exact h.cor.got1 hk s1 eH W'
theorem seatS (h:OrdJ f ga la H V gg Wg) {k:Nat} (hk:k<f.s.n) {s':SS} {y:Int} (hn:s'.n=f.s.n) (hp:s'.probed=f.s.probed) (hs:s'.st=upd f.s.st k y) (hy:(f.s.st k=0∧y=1)∨(f.s.st k=2∧y=3)):OrdJ {f with s:=s'} ga la H V gg Wg:=by
 refine h.keep hn hp rfl ⟨rfl,rfl,rfl⟩ rfl rfl (λ_=>⟨rfl,rfl⟩) ⟨rfl,rfl⟩ (λt ht=>h.loc t ht) h.glo ?_
 show Cor f.s.n f.bud s'.st f.ph f.got f.nd f.own _ H V f.G.s.st (wP f.ps)
 rw [hs]
 have hx:=h.cor.cx k hk
 have:=h.cor.own1 (t:=k) hk (y:=y) (p:=f.ph k) (g:=f.got k) (by
  rcases hy with ⟨a,b⟩|⟨a,b⟩
  ·cases hx with
   |idle hx hp hl=>exact .loc b hp (.inl hl)
   |_=>omega
  ·cases hx with
   |has hx hp hl he q1 q2=>exact .u0 b hp hl he q1 q2
   |_=>omega)
 rw [upd_idx f.got k rfl,upd_idx f.ph k rfl] at this
 exact this
theorem lock (h:OrdJ f ga la H V gg Wg) (t d:Int):OrdJ (f.lock t d) ga la H V gg Wg:=by
 unfold FL.lock SS.lock
 by_cases e:lockE f.s t d=0
 ·rw [if_pos e]
  unfold lockE at e
  by_cases c:(0≤t∧t<f.s.n)∧(d= -1∨(0≤d∧f.s.timed=true))
  ·rw [if_pos c] at e
   by_cases z:f.s.st t.toNat=0
   ·exact h.seatS (k:=t.toNat) (by omega) rfl rfl rfl (.inl ⟨z,rfl⟩)
   ·rw [if_neg z] at e;omega
  ·rw [if_neg c] at e;omega
 ·rw [if_neg e];exact h
theorem unlock (h:OrdJ f ga la H V gg Wg) (t:Int):OrdJ (f.turn t 3) ga la H V gg Wg:=by
 unfold FL.turn SS.turn
 by_cases e:turnE f.s t=0
 ·rw [if_pos e]
  unfold turnE at e
  by_cases c:0≤t∧t<f.s.n
  ·rw [if_pos c] at e
   by_cases z:f.s.st t.toNat=0
   ·rw [if_pos z] at e;omega
   ·rw [if_neg z] at e
    by_cases z2:f.s.st t.toNat=2
    ·exact h.seatS (k:=t.toNat) (by omega) rfl rfl rfl (.inr ⟨z2,rfl⟩)
    ·rw [if_neg z2] at e;omega
  ·rw [if_neg c] at e;omega
 ·rw [if_neg e];exact h
theorem at_idle {k:Nat} {u:Int} (hk:k<f.s.n) (s1:f.s.st k≠1) (s3:f.s.st k≠3) (s4:f.s.st k≠4):f.did L k u=Dd.no∧f.step L k u=f:=by
 have ht:(0:Int)≤(k:Int)∧(k:Int)<f.s.n:=by omega
 have ed:f.did L k u=Dd.no:=by unfold FL.did;rw [if_pos ht,Int.toNat_natCast,if_neg s1,if_neg s3]
 have em:f.mid L k u=f:=by unfold FL.mid;rw [if_pos ht,Int.toNat_natCast,if_neg s1,if_neg s3]
 refine ⟨ed,?_⟩
 rw [on_step (L:=L) (u:=u) (by rw [ed];rfl:(f.did L k u).ev=0) em (by unfold behindI;rw [if_neg (by omega),if_neg (by omega),if_neg (by omega),if_neg (by omega)])]
theorem at_none {t u:Int} (ht:¬ (0≤t∧t<f.s.n)):f.did L t u=Dd.no∧f.step L t u=f:=by
 have ed:f.did L t u=Dd.no:=by unfold FL.did;rw [if_neg ht]
 have em:f.mid L t u=f:=by unfold FL.mid;rw [if_neg ht]
 have e0:endO f.s t Dd.no.ev=none:=by unfold endO;rw [if_neg ht]
 refine ⟨ed,?_⟩
 unfold FL.step SS.fin endB
 rw [ed,em,e0]
 rfl
theorem step (h:OrdJ f ga la H V gg Wg) (h1:L.a1=0) (t:Int):∃ H' V' gg' Wg',OrdJ (f.step L t t) ga la H' V' gg' Wg':=by
 by_cases ht:0≤t∧t<f.s.n
 ·obtain ⟨k,rfl⟩:=Int.eq_ofNat_of_zero_le ht.1
  have hk:k<f.s.n:=by omega
  have hu:k<f.ps.ac.length:=by rw [h.ac];exact hk
  have hx:=h.cor.cx k hk
  by_cases s1:f.s.st k=1
  ·have hp:f.ph k=0∨f.ph k=1∨f.ph k=2∨f.ph k=3:=by cases hx<;>omega
   rcases hp with p|p|p|p
   ·obtain ⟨W',_,_,_,⟨_,a,_⟩|⟨_,_,a,_⟩⟩:=h.stpL0 hk hu s1 p
    ·exact ⟨_,_,_,_,a⟩
    ·exact ⟨_,_,_,_,a⟩
   ·by_cases hw:wP f.ps (f.nd k)=0
    ·exact ⟨_,_,_,_,(h.stpL1b h1 hk hu s1 p hw).2.1⟩
    ·exact ⟨_,_,_,_,(h.stpL1a h1 hk hu s1 p hw).2.1⟩
   ·obtain ⟨_,_,_,a,_⟩:=h.stpL2 hk hu s1 p
    exact ⟨_,_,_,_,a⟩
   ·exact ⟨_,_,_,_,(h.stpL3 h1 hk hu s1 p).2.1⟩
  by_cases s3:f.s.st k=3
  ·have hp:f.ph k=0∨f.ph k=1∨f.ph k=2∨f.ph k=3∨f.ph k=4∨f.ph k=5:=by cases hx<;>omega
   rcases hp with p|p|p|p|p|p
   ·by_cases hw:wP f.ps (f.nd k)<f.bud
    ·exact ⟨_,_,_,_,(h.stpU0a h1 hk hu s3 p hw).2.1⟩
    ·exact ⟨_,_,_,_,(h.stpU0b h1 hk hu s3 p hw).2.1⟩
   ·obtain ⟨_,_,_,a,_⟩:=h.stpU1 hk hu s3 p
    exact ⟨_,_,_,_,a⟩
   ·exact ⟨_,_,_,_,(h.stpU2 h1 hk hu s3 p).2.1⟩
   ·exact ⟨_,_,_,_,(h.stpU3 h1 hk hu s3 p).2.1⟩
   ·obtain ⟨_,_,a,_⟩:=h.stpU4 hk hu s3 p
    exact ⟨_,_,_,_,a⟩
   ·rcases h.stpU5 hk hu s3 p with ⟨_,a,_⟩|⟨_,a,_⟩
    ·exact ⟨_,_,_,_,a⟩
    ·exact ⟨_,_,_,_,a⟩
  have s4:f.s.st k≠4:=by cases hx<;>omega
  rw [(at_idle (L:=L) (u:=(k:Int)) hk s1 s3 s4).2]
  exact ⟨_,_,_,_,h⟩
 ·rw [(at_none (L:=L) (u:=t) ht).2]
  exact ⟨_,_,_,_,h⟩
end OrdJ
theorem sub_zero {l:List Int} {o n:Nat} (hl:o+n≤l.length) (hz:∀ x∈l,x=0):sub l o n=List.replicate n 0:=by
 apply List.ext_getElem?
 intro i
 rw [List.getElem?_replicate]
 by_cases hi:i<n
 ·rw [if_pos hi]
  have hlen:=sub_len hl
  rw [List.getElem?_eq_getElem (by omega)]
  congr 1
  have hm:(sub l o n)[i]'(by omega)∈sub l o n:=List.getElem_mem _
  exact hz _ (List.mem_of_mem_drop (List.mem_of_mem_take hm))
 ·rw [if_neg hi]
  exact List.getElem?_eq_none (by rw [sub_len hl];omega)
def newTk (n:Nat) (ps:PSta):Inn:= .tk ⟨newSeat n false true,λ_=>0,λ_=>false,ps⟩
def newCl (n:Nat) (ps:PSta):Inn:= .cl ⟨newSeat n false true,λ_=>0,λj=>if j<n then (j:Int)+1 else 0,λ_=>0,ps⟩
def newMc (n:Nat) (ps:PSta):Inn:= .mc ⟨newSeat n false true,λ_=>0,λ_=>0,ps⟩
section
variable {ps:PSta} {o n:Nat}
theorem newTk_at (hn:n≤64) (hl:o+2≤ps.ws.length) (hz:∀ x∈ps.ws,x=0):(newTk n ps).At o none []:=by
 refine ⟨hl,0,0,hn,sub_zero hl hz,List.length_replicate,by decide,by simp,by simp,by simp,by simp,λk hk=>by simp [Kf.FL.vw],λk hk=>by simp at hk,by simp,λk hk _=> .inl rfl⟩
theorem newCl_at (hn:n≤64) (hl:o+(n+2)≤ps.ws.length) (hz:∀ x∈ps.ws,x=0):(newCl n ps).At o none []:=by
 have hs:=sub_zero hl hz
 have hk:∀ j,j<n→(if j<n then (j:Int)+1 else 0)=(j:Int)+1:=λj hj=>if_pos hj
 refine ⟨hl,0,hn,λj hj=> ?_,⟨Int.le_refl _,by show (0:Int)≤(n:Int);omega⟩,λj k hj hk2 e=> ?_,λj hj=> ?_,⟨List.replicate (n+1) 0,hs.trans rfl,by rw [List.length_replicate];rfl,λj hj=> ?_,by simp⟩,List.length_replicate,by simp,by simp,λj hj=>by simp [Kc.FL.vw],λj=> .inl rfl,λj hj hp=>by simp [Kc.FL.vw] at hp,trivial,λk hk=>(by cases hk),by simp,λk hk _=> .inl rfl⟩
 ·show 0≤(if j<n then (j:Int)+1 else 0)∧(if j<n then (j:Int)+1 else 0)≤(n:Int)
  have hj:j<n:=hj
  rw [hk j hj];omega
 ·have hj:j<n:=hj
  have hk2:k<n:=hk2
  have e:(if j<n then (j:Int)+1 else 0)=(if k<n then (k:Int)+1 else 0):=e
  rw [hk j hj,hk k hk2] at e;omega
 ·show (if j<n then (j:Int)+1 else 0)≠0
  have hj:j<n:=hj
  rw [hk j hj];omega
 ·show (List.replicate (n+1) (0:Int)).getD _ 0=if (0:Int)=0 then 0 else 1
  rw [if_pos rfl,List.getD_eq_getElem?_getD,List.getElem?_replicate]
  split<;>rfl
theorem newMc_at (hn:n≤64) (hl:o+(2*n+1)≤ps.ws.length) (hz:∀ x∈ps.ws,x=0):(newMc n ps).At o none []:=by
 have hs:=sub_zero hl hz
 have h0:∀ i,(sub ps.ws o (2*n+1)).getD i 0=0:=λi=>by
  rw [hs,List.getD_eq_getElem?_getD,List.getElem?_replicate]
  split<;>rfl
 refine ⟨hl,hn,sub_len hl,List.length_replicate,⟨by simp,by simp,h0 0,λj=>⟨Int.le_refl _,by show (0:Int)≤4;decide⟩,λj hj hs=>by simp [Km.FL.vw,newSeat] at hs,λj hj _ _=>rfl,λj hj _=>by show (0:Int)≤3;decide,λk hk=>(by cases hk),by simp,λk hk _=> .inl rfl,trivial,λj hj _ hp=>by simp [Km.FL.vw] at hp,λ_ k r e=>by simp at e,λk hk=>(by cases hk),λk hk=>(by cases hk)⟩⟩
end
theorem OrdJ.start {n ga:Nat} {B:Int} {nd own:Nat→Nat} {la:Nat→Nat} {G:Inn} {Lc:Nat→Inn} {ps:PSta} (hn:n≤64) (hB:1≤B∧B≤1000) (hac:ps.ac.length=n) (hz:∀ x∈ps.ws,x=0)
  (hnd:∀ t,t<n→nd t<8) (how:∀ t,t<n→own t<(Lc (nd t)).s.n) (hi:∀ t u,t<n→u<n→nd t=nd u→own t=own u→t=u)
  (hL:∀ t,t<n→((Lc (nd t)).on ps).At (la (nd t)) none []) (hs:∀ c j,(Lc c).s.st j=0) (hG:(G.on ps).At ga none []) (hG8:G.s.n=8) (hGs:∀ c,G.s.st c=0) (g8:8≤ga) (hgl:∀ t,t<n→ga+G.size≤la (nd t))
  (hll:∀ t u,t<n→u<n→nd t≠nd u→la (nd t)+(Lc (nd t)).size≤la (nd u)∨la (nd u)+(Lc (nd u)).size≤la (nd t)):
  OrdJ ⟨newSeat n false false,B,nd,own,λ_=>0,λ_=>0,ga,la,G,Lc,ps⟩ ga la (λ_=>none) (λ_=>[]) none []:=by
 refine ⟨hn,rfl,hB,⟨rfl,rfl⟩,hac,how,hL,hG,hG8,g8,hgl,hll,?_⟩
 have e1:(λc=>(Lc c).s.st)=λ_ _=>(0:Int):=funext λc=>funext λj=>hs c j
 have e2:G.s.st=λ_=>(0:Int):=funext hGs
 have e3:wP ps=λ_=>(0:Int):=by
  funext c
  unfold wP
  split
  ·rw [List.getD_eq_getElem?_getD]
   cases e:ps.ws[c]? with
   |none=>rfl
   |some x=>exact hz x (List.mem_of_getElem? e)
  ·rfl
 show Cor n B (λ_=>0) (λ_=>0) (λ_=>0) nd own (λc=>(Lc c).s.st) (λ_=>none) (λ_=>[]) G.s.st (wP ps)
 rw [e1,e2,e3]
 exact Cor.start n B hnd hi
def OneS (ps q:PSta) (u:Int):Prop:=q=ps∨∃ K a o v,q=doS ps u K a o v
theorem Kf.step_one (f:Kf.FL) (L:Kf.Lp) (t u:Int):OneS f.ps (f.step L t u).ps u:=by
 show OneS f.ps (f.mid L t u).ps u
 unfold Kf.FL.mid Kf.FL.acq Kf.FL.rel Kf.FL.ask
 repeat' split
 all_goals first|exact .inl rfl|exact .inr ⟨_,_,_,_,rfl⟩
theorem Kc.step_one (f:Kc.FL) (L:Kc.Lp) (t u:Int):OneS f.ps (f.step L t u).ps u:=by
 show OneS f.ps (f.mid L t u).ps u
 unfold Kc.FL.mid Kc.FL.acq Kc.FL.rel Kc.FL.ask
 repeat' split
 all_goals first|exact .inl rfl|exact .inr ⟨_,_,_,_,rfl⟩
theorem Km.step_one (f:Km.FL) (L:Km.Lp) (t u:Int):OneS f.ps (f.step L t u).ps u:=by
 show OneS f.ps (f.mid L t u).ps u
 unfold Km.FL.mid Km.FL.acq Km.FL.rel Km.FL.ask
 repeat' split
 all_goals first|exact .inl rfl|exact .inr ⟨_,_,_,_,rfl⟩
theorem Inn.step_one (x:Inn) (a t u:Int):OneS x.ps (x.step a t u).ps u:=by
 cases x
 ·exact Kf.step_one _ _ _ _
 ·exact Kc.step_one _ _ _ _
 ·exact Km.step_one _ _ _ _
theorem FL.step_one (f:FL) (L:Lp) (t u:Int):OneS f.ps (f.step L t u).ps u:=by
 have kl:=λc a j=>by have:=(f.lk c).step_one a j u;unfold FL.lk at this;rw [Inn.on_ps] at this;exact this
 have kg:=λa j=>by have:=f.gl.step_one a j u;unfold FL.gl at this;rw [Inn.on_ps] at this;exact this
 have ka:=λt a j=>by have:=(f.ask t).step_one a j u;rw [f.ask_ps] at this;exact this
 show OneS f.ps (f.mid L t u).ps u
 unfold FL.mid FL.acq FL.rel
 repeat' split
 all_goals first|exact .inl rfl|exact .inr ⟨_,_,_,_,rfl⟩|exact ka _ _ _|exact kl _ _ _|exact kg _ _
theorem OneS.D {ps q:PSta} {u:Int} (h:OneS ps q u):q.D.length≤ps.D.length+1:=by
 rcases h with rfl|⟨K,a,o,v,rfl⟩
 ·omega
 ·unfold doS
  split
  ·simp [touchS]
  ·omega
end Go.Proofs.YtcikfcplagelaaaGreat
