
import Derived.Test.YtmnephejhkfchaaGreatFlatOrd
namespace Go.Proofs.YtmnephejhkfchaaGreat
open Go.RowKit
set_option linter.unusedVariables false
def sub (l:List Int) (o n:Nat):List Int:=(l.drop o).take n
theorem G8 {l:List Int} {o n:Nat} (h:o+n<=l.length):(sub l o n).length=n:=by unfold sub;rw [List.length_take,List.length_drop];omega
theorem Jd {l:List Int} {o n i:Nat} (hi:i<n):(sub l o n).getD i 0=l.getD (o+i) 0:=by
 unfold sub;rw [List.getD_eq_getElem?_getD,List.getD_eq_getElem?_getD,List.getElem?_take_of_lt hi,List.getElem?_drop]
theorem WY {l:List Int} {o n i:Nat} (v:Int):sub (l.set (o+i) v) o n=(sub l o n).set i v:=by
 unfold sub;rw [List.drop_set,Qq (by omega),List.take_set,show o+i-o=i by omega]
theorem Mw {l:List Int} {o n i:Nat} (v:Int) (h:i<o\/o+n<=i):sub (l.set i v) o n=sub l o n:=by
 unfold sub;rw [List.drop_set];rcases h with h|h
 ·rw [Qj h]
 ·rw [Qq (by omega),List.take_set,List.set_eq_of_length_le (by rw [List.length_take];omega)]
def AK.vw (ps:AK) (o n m:Nat):AK:=⟨sub ps.ws o n,[],List.replicate m 0,[],[]⟩
def AK.Df (ps:AK) (m:Nat):AK:=⟨ps.ws,[],List.replicate m 0,[],[]⟩
theorem JH {l:List Int} {o n i:Nat} (hi:i<n):BK l ((o:Int)+i)=BK (sub l o n) i:=by
 rw [show (o:Int)+i=((o+i:Nat):Int) by omega,DW,DW,Jd hi]
theorem G7 {l:List Int} {o n i:Nat} (v:Int):sub (BA l ((o:Int)+i) v) o n=BA (sub l o n) i v:=by
 unfold BA;rw [Qj (by omega),Qj (by omega),show ((o:Int)+i).toNat=o+i by omega,Int.toNat_natCast,WY]
theorem Ot {l:List Int} {o n i:Nat} (hi:i<n) (h:o+n<=l.length):hasB l.length ((o:Int)+i)=true/\hasB (sub l o n).length i=true:=by
 rw [G8 h];exact ⟨decide_eq_true (by omega),decide_eq_true (by omega)⟩
theorem Oa {l:List Int} {o n i:Nat} (hi:i<n) (h:o+n<=l.length) (old:Int):E9 l ((o:Int)+i) old=E9 (sub l o n) i old:=by
 unfold E9;rw [(Ot hi h).1,(Ot hi h).2,JH hi]
section
variable {ps:AK} {o n m u v i:Nat}
theorem IP (hu:u<ps.ac.length) (hv:v<m) (hi:i<n) (h:o+n<=ps.ws.length):EH ps u ((o:Int)+i)=true/\EH (ps.vw o n m) v i=true:=by
 refine ⟨decide_eq_true (by omega),decide_eq_true ?_⟩;have h1:(ps.vw o n m).ws.length=n:=G8 h;have h2:(ps.vw o n m).ac.length=m:=by simp [AK.vw]
 omega
theorem Ep (hu:u<ps.ac.length) (hv:v<m) (hi:i<n) (h:o+n<=ps.ws.length) (K:Int):A6 ps u K ((o:Int)+i)=A6 (ps.vw o n m) v K i:=by
 unfold A6 Dg;rw [(IP hu hv hi h).1,(IP hu hv hi h).2];unfold CR;rw [JH hi];rfl
theorem ME (hu:u<ps.ac.length) (hv:v<m) (hi:i<n) (h:o+n<=ps.ws.length) (K old x:Int):(A5 ps u K ((o:Int)+i) old x).vw o n m=(A5 (ps.vw o n m) v K i old x).Df m:=by
 unfold A5 Dg;rw [(IP hu hv hi h).1,(IP hu hv hi h).2];by_cases hK:1<=K/\K<=5
 ·rw [decide_eq_true hK,Bool.and_self,Qj rfl,Qj rfl]
  unfold AK.Df;unfold AK.vw;dsimp only
  congr 1
  unfold Gb;by_cases k2:K=2\/K=3
  ·rw [Qj k2,Qj k2];exact G7 x
  ·rw [Qq k2,Qq k2]
   by_cases k4:K=4
   ·rw [Qj k4,Qj k4]
    unfold Fg;rw [Oa hi h];split
    ·exact G7 x
    ·rfl
   ·rw [Qq k4,Qq k4]
    by_cases k5:K=5
    ·rw [Qj k5,Qj k5]
     unfold J4;rw [JH (n:=n) hi];exact G7 _
    ·rw [Qq k5,Qq k5]
 ·rw [decide_eq_false hK,Bool.and_false,Qq (by decide),Qq (by decide)]
  rfl
theorem Un (hu:u<ps.ac.length) (hv:v<m) (hi:i<n) (h:o+n<=ps.ws.length) (old:Int):(EH ps u ((o:Int)+i)&&E9 ps.ws ((o:Int)+i) old)=(EH (ps.vw o n m) v i&&E9 (ps.vw o n m).ws i old):=by
 rw [(IP hu hv hi h).1,(IP hu hv hi h).2,Oa hi h];rfl
theorem L5 (K old x:Int) {o' n':Nat} (ha:o+i<o'\/o'+n'<=o+i):sub (A5 ps u K ((o:Int)+i) old x).ws o' n'=sub ps.ws o' n':=by
 have key:∀ y,sub (BA ps.ws ((o:Int)+i) y) o' n'=sub ps.ws o' n':=λy=>by
  unfold BA;rw [Qj (by omega),show ((o:Int)+i).toNat=o+i by omega];exact Mw y ha
 unfold A5;split
 ·dsimp only
  unfold Gb Fg J4
  repeat' split
  all_goals first|exact key _|rfl
 ·rfl
theorem CX (ps:AK) (t a K old x:Int):(A5 ps t K a old x).ws.length=ps.ws.length/\(A5 ps t K a old x).ac.length=ps.ac.length:=by
 unfold A5;split
 ·dsimp only [AR]
  exact ⟨L3 _ _ _ _ _,Au _ _ _⟩
 ·exact ⟨rfl,rfl⟩
end
end Go.Proofs.YtmnephejhkfchaaGreat
namespace Go.Proofs.YtmnephejhkfchaaGreat.Kf
set_option linter.unusedVariables false
set_option maxRecDepth 100000
def FL.vw (f:FL) (o n m:Nat):FL:={f with ps:=f.ps.vw o n m}
def FL.Df (f:FL) (m:Nat):FL:={f with ps:=f.ps.Df m}
section
variable {f:FL} {L L0:Lp} {o m k u:Nat}
theorem ES (h1:L.a1=(o:Int)+(0:Nat)) (h2:L.a2=(o:Int)+(1:Nat)) (z1:L0.a1=(0:Nat)) (z2:L0.a2=(1:Nat)) (hl:o+2<=f.ps.ws.length) (hu:u<f.ps.ac.length) (hm:k<m):
  f.did L k u=(f.vw o 2 m).did L0 k k:=by
 have t0:=λK=>Ep (v:=k) (m:=m) (n:=2) (i:=0) hu hm (by decide) hl K;have t1:=λK=>Ep (v:=k) (m:=m) (n:=2) (i:=1) hu hm (by decide) hl K;unfold FL.did FL.A7 FL.CW;rw [h1,h2,z1,z2,t0,t1];rfl
theorem JM (h1:L.a1=(o:Int)+(0:Nat)) (h2:L.a2=(o:Int)+(1:Nat)) (z1:L0.a1=(0:Nat)) (z2:L0.a2=(1:Nat)) (hl:o+2<=f.ps.ws.length) (hu:u<f.ps.ac.length) (hm:k<m):
  (f.mid L k u).vw o 2 m=((f.vw o 2 m).mid L0 k k).Df m:=by
 have t0:=λK=>Ep (v:=k) (m:=m) (n:=2) (i:=0) hu hm (by decide) hl K;have d0:=λK old x=>ME (v:=k) (m:=m) (n:=2) (i:=0) hu hm (by decide) hl K old x;have d1:=λK old x=>ME (v:=k) (m:=m) (n:=2) (i:=1) hu hm (by decide) hl K old x;unfold FL.mid FL.acq FL.rel FL.ask;rw [h1,h2,z1,z2,t0];show FL.vw (if 0<=(k:Int)/\(k:Int)<f.s.n then _ else _) o 2 m=FL.Df (if 0<=(k:Int)/\(k:Int)<f.s.n then _ else _) m;by_cases ht:0<=(k:Int)/\(k:Int)<f.s.n
 ·rw [Qj ht,Qj ht]
  show FL.vw (if f.s.st (k:Int).toNat=1 then _ else _) o 2 m=FL.Df (if f.s.st (k:Int).toNat=1 then _ else _) m;by_cases s1:f.s.st (k:Int).toNat=1
  ·rw [Qj s1,Qj s1]
   show FL.vw (if f.dr (k:Int).toNat=true then _ else _) o 2 m=FL.Df (if f.dr (k:Int).toNat=true then _ else _) m;by_cases hd:f.dr (k:Int).toNat=true
   ·rw [Qj hd,Qj hd]
    unfold FL.vw FL.Df;dsimp only;rw [d1]
   ·rw [Qq hd,Qq hd]
    unfold FL.vw FL.Df;dsimp only;rw [d0]
  ·rw [Qq s1,Qq s1]
   show FL.vw (if f.s.st (k:Int).toNat=3 then _ else _) o 2 m=FL.Df (if f.s.st (k:Int).toNat=3 then _ else _) m;by_cases s3:f.s.st (k:Int).toNat=3
   ·rw [Qj s3,Qj s3]
    unfold FL.vw FL.Df;dsimp only;rw [d1]
   ·rw [Qq s3,Qq s3]
    show FL.vw (if f.s.st (k:Int).toNat=4 then _ else _) o 2 m=FL.Df (if f.s.st (k:Int).toNat=4 then _ else _) m;by_cases s4:f.s.st (k:Int).toNat=4
    ·rw [Qj s4,Qj s4]
     unfold FL.vw FL.Df;dsimp only;rw [d0]
    ·rw [Qq s4,Qq s4]
     rfl
 ·rw [Qq ht,Qq ht]
  rfl
theorem Hc (h1:L.a1=(o:Int)+(0:Nat)) (h2:L.a2=(o:Int)+(1:Nat)) (z1:L0.a1=(0:Nat)) (z2:L0.a2=(1:Nat)) (hl:o+2<=f.ps.ws.length) (hu:u<f.ps.ac.length) (hm:k<m):
  (f.step L k u).vw o 2 m=((f.vw o 2 m).step L0 k k).Df m:=by
 have e:=JM h1 h2 z1 z2 hl hu hm;have d:=ES h1 h2 z1 z2 hl hu hm;unfold FL.step;rw [d];have:({f.mid L k u with s:=f.s.fin k ((f.vw o 2 m).did L0 k k).ev}:FL).vw o 2 m={(f.mid L k u).vw o 2 m with s:=f.s.fin k ((f.vw o 2 m).did L0 k k).ev}:=rfl;rw [this,e];rfl
theorem Ft (h1:L.a1=(o:Int)+(0:Nat)) (h2:L.a2=(o:Int)+(1:Nat)) {o' n':Nat} (ha:o+2<=o'\/o'+n'<=o):sub (f.step L k u).ps.ws o' n'=sub f.ps.ws o' n':=by
 have key:∀ (i:Nat) K old x,i<2->sub (A5 f.ps u K ((o:Int)+i) old x).ws o' n'=sub f.ps.ws o' n':=λi K old x hi=>L5 K old x (by omega);show sub (f.mid L k u).ps.ws o' n'=_;unfold FL.mid FL.acq FL.rel FL.ask;rw [h1,h2]
 repeat' split
 all_goals first|exact key 0 _ _ _ (by decide)|exact key 1 _ _ _ (by decide)|rfl
theorem Cj (t u:Int):(f.step L t u).ps.ws.length=f.ps.ws.length/\(f.step L t u).ps.ac.length=f.ps.ac.length:=zz3e
theorem Ck (t u:Int):(f.step L t u).s.n=f.s.n:=SS.Bv _ _ _
end
def In (f:FL) (o:Nat) (g:Option Nat) (W:List Nat):Prop:=o+2<=f.ps.ws.length/\∃ nx ow,OrdJ (f.vw o 2 f.s.n) g W nx ow
namespace In
variable {f:FL} {o:Nat} {g:Option Nat} {W:List Nat} {L:Lp}
theorem lock (h:In f o g W) (t d:Int):In (f.lock t d) o g W:=by
 obtain ⟨hl,nx,ow,h⟩:=h;refine ⟨hl,nx,ow,?_⟩;have e:(f.lock t d).vw o 2 (f.lock t d).s.n=(f.vw o 2 f.s.n).lock t d:=by
  show (f.lock t d).vw o 2 (f.s.lock t d).n=_;rw [SS.Bz];rfl
 rw [e];exact h.lock t d
theorem turn (h:In f o g W) (t x:Int) (hx:x=3\/x=4):In (f.turn t x) o g W:=by
 obtain ⟨hl,nx,ow,h⟩:=h;refine ⟨hl,nx,ow,?_⟩;have e:(f.turn t x).vw o 2 (f.turn t x).s.n=(f.vw o 2 f.s.n).turn t x:=by
  show (f.turn t x).vw o 2 (f.s.turn t x).n=_;rw [SS.Bu];rfl
 rw [e];exact h.turn t x hx
theorem far (h:In f o g W) {ps:AK} (hl:ps.ws.length=f.ps.ws.length) (hw:sub ps.ws o 2=sub f.ps.ws o 2):In {f with ps:=ps} o g W:=by
 obtain ⟨hl0,nx,ow,h⟩:=h;refine ⟨by show o+2<=ps.ws.length;omega,nx,ow,?_⟩;have e:({f with ps:=ps}:FL).vw o 2 f.s.n=f.vw o 2 f.s.n:=by
  unfold FL.vw AK.vw;rw [hw]
 show OrdJ (({f with ps:=ps}:FL).vw o 2 f.s.n) g W nx ow;rw [e];exact h
theorem step (h:In f o g W) (h1:L.a1=o) (h2:L.a2=(o:Int)+1) {k u:Nat} (hk:k<f.s.n) (hu:u<f.ps.ac.length):
  ∃ g' W',In (f.step L k u) o g' W'/\OrdJ.BC W k (f.did L k u) W'/\(∀ o' n',o+2<=o'\/o'+n'<=o->sub (f.step L k u).ps.ws o' n'=sub f.ps.ws o' n'):=by
 obtain ⟨hl,nx,ow,h⟩:=h;have q1:L.a1=(o:Int)+(0:Nat):=by rw [h1];omega
 have q2:L.a2=(o:Int)+(1:Nat):=by rw [h2];omega
 obtain ⟨L0,z1,z2⟩:∃ L0:Lp,L0.a1=0/\L0.a2=1:=⟨{L with a1:=0,a2:=1},rfl,rfl⟩
 have e:=Hc q1 q2 (by rw [z1];rfl:L0.a1=(0:Nat)) (by rw [z2];rfl:L0.a2=(1:Nat)) hl hu hk;have d:=ES q1 q2 (by rw [z1];rfl:L0.a1=(0:Nat)) (by rw [z2];rfl:L0.a2=(1:Nat)) hl hu hk;obtain ⟨g',W',nx',WG,hJ,_,hQ⟩:=h.step z1 z2 (k:Int);refine ⟨g',W',⟨by rw [(Cj (f:=f) (L:=L) k u).1];exact hl,nx',WG,?_⟩,?_,λo' n' ha=>Ft q1 q2 ha⟩
 ·rw [Ck,e]
  have CY:=hJ.ac;exact hJ.WM hJ.ws (by rw [CY];show (List.replicate f.s.n 0).length=_;rw [List.length_replicate,Ck];rfl)
 ·rw [d];exact hQ
theorem company (h:In f o g W) (h1:L.a1=o) (h2:L.a2=(o:Int)+1) {k u:Nat} (hk:k<f.s.n) (hu:u<f.ps.ac.length) (hs:f.s.st k=4):((f.did L k u).ev=4/\W=[])\/((f.did L k u).ev=5/\W≠[]):=by
 obtain ⟨hl,nx,ow,h⟩:=h;have q1:L.a1=(o:Int)+(0:Nat):=by rw [h1];omega
 have q2:L.a2=(o:Int)+(1:Nat):=by rw [h2];omega
 obtain ⟨L0,z1,z2⟩:∃ L0:Lp,L0.a1=0/\L0.a2=1:=⟨{L with a1:=0,a2:=1},rfl,rfl⟩
 rw [ES q1 q2 (by rw [z1];rfl:L0.a1=(0:Nat)) (by rw [z2];rfl:L0.a2=(1:Nat)) hl hu hk];have hg:g=some k:=h.held (k:=k) hk (.inr (.inr hs));subst hg;have ht:0<=(k:Int)/\(k:Int)<(f.vw o 2 f.s.n).s.n:=by have:(f.vw o 2 f.s.n).s.n=f.s.n:=rfl;omega
 have CY:k<(f.vw o 2 f.s.n).ps.ac.length:=by rw [h.ac];exact hk
 obtain ⟨e1,_⟩:=BL h.ws CY 0 (.inl rfl);have hn:=h.Md;have hm:=h.num 0 k rfl;have h8:=h.len;have hr:=h.BP;have jB:(f.vw o 2 f.s.n).s.st k=4:=hs;unfold FL.did;rw [Qj ht,Int.toNat_natCast,Qq (by omega),Qq (by omega),Qj jB];unfold FL.CW;rw [z1,e1,Qj rfl,hm];simp only [Option.toList_some,List.length_append,List.length_singleton] at hn h8;cases W with
 |nil=>
  left;rw [Qj (by simp at hn;omega)];exact ⟨rfl,rfl⟩
 |cons a W=>
  right;rw [Qq (by simp at hn h8;omega)];exact ⟨rfl,by simp⟩
end In
end Go.Proofs.YtmnephejhkfchaaGreat.Kf
namespace Go.Proofs.YtmnephejhkfchaaGreat.Kc
set_option linter.unusedVariables false
set_option maxRecDepth 100000
def FL.vw (f:FL) (o n m:Nat):FL:={f with ps:=f.ps.vw o n m}
def FL.Df (f:FL) (m:Nat):FL:={f with ps:=f.ps.Df m}
section
variable {f:FL} {L L0:Lp} {o m k u x:Nat}
structure OS (f:FL) (L L0:Lp) (o m k u x:Nat):Prop where
 h1:L.a1=(o:Int)+(0:Nat)
 h2:L.a2=(o:Int)+1
 z1:L0.a1=(0:Nat)
 z2:L0.a2=1
 hl:o+(m+2)<=f.ps.ws.length
 hu:u<f.ps.ac.length
 hm:k<m
 hx:f.node k=(x:Int)
 hx2:x<m+1
 hy:f.s.st k=1->f.pc k≠0->f.pc k≠1->∃ y:Nat,f.AL k=(y:Int)/\y<m+1
theorem ES (h:OS f L L0 o m k u x):f.did L k u=(f.vw o (m+2) m).did L0 k k:=by
 have t:=λi K (hi:i<m+2)=>Ep (v:=k) (m:=m) (n:=m+2) (i:=i) h.hu h.hm hi h.hl K;have t0:=λK=>t 0 K (by omega);show (if 0<=(k:Int)/\(k:Int)<f.s.n then _ else _)=(if 0<=(k:Int)/\(k:Int)<f.s.n then _ else _)
 by_cases ht:0<=(k:Int)/\(k:Int)<f.s.n
 ·rw [Qj ht,Qj ht,Int.toNat_natCast]
  show (if f.s.st k=1 then _ else _)=(if f.s.st k=1 then _ else _)
  by_cases s1:f.s.st k=1
  ·rw [Qj s1,Qj s1]
   unfold FL.A7;show (if f.pc k=0 then _ else _)=(if f.pc k=0 then _ else _)
   by_cases p0:f.pc k=0
   ·rw [Qj p0,Qj p0]
   rw [Qq p0,Qq p0];show (if f.pc k=1 then _ else _)=(if f.pc k=1 then _ else _)
   by_cases p1:f.pc k=1
   ·rw [Qj p1,Qj p1]
   rw [Qq p1,Qq p1];obtain ⟨y,hy,hy2⟩:=h.hy s1 p0 p1;show (if A6 f.ps u 1 (L.a2+f.AL k)=0 then _ else _)=(if A6 (f.ps.vw o (m+2) m) k 1 (L0.a2+f.AL k)=0 then _ else _)
   rw [h.h2,h.z2,hy,show (o:Int)+1+y=(o:Int)+((1+y:Nat):Int) by omega,t (1+y) 1 (by omega),show (1:Int)+(y:Int)=((1+y:Nat):Int) by omega]
  ·rw [Qq s1,Qq s1]
   show (if f.s.st k=3 then _ else _)=(if f.s.st k=3 then _ else _)
   by_cases s3:f.s.st k=3
   ·rw [Qj s3,Qj s3]
   rw [Qq s3,Qq s3];show (if f.s.st k=4 then _ else _)=(if f.s.st k=4 then _ else _)
   by_cases s4:f.s.st k=4
   ·rw [Qj s4,Qj s4]
    unfold FL.CW;show (if A6 f.ps u 1 L.a1=f.node k then _ else _)=(if A6 (f.ps.vw o (m+2) m) k 1 L0.a1=f.node k then _ else _)
    rw [h.h1,h.z1,t0]
   ·rw [Qq s4,Qq s4]
 ·rw [Qq ht,Qq ht]
theorem JM (h:OS f L L0 o m k u x):(f.mid L k u).vw o (m+2) m=((f.vw o (m+2) m).mid L0 k k).Df m:=by
 have t0:=λK=>Ep (v:=k) (m:=m) (n:=m+2) (i:=0) h.hu h.hm (by omega) h.hl K;have d:=λi K old x (hi:i<m+2)=>ME (v:=k) (m:=m) (n:=m+2) (i:=i) h.hu h.hm hi h.hl K old x;have e2:∀ y:Nat,(o:Int)+1+(y:Int)=(o:Int)+((1+y:Nat):Int):=λy=>by omega
 have e3:∀ y:Nat,(1:Int)+(y:Int)=((1+y:Nat):Int):=λy=>by omega
 have hx2:=h.hx2;unfold FL.mid;show FL.vw (if 0<=(k:Int)/\(k:Int)<f.s.n then _ else _) o (m+2) m=FL.Df (if 0<=(k:Int)/\(k:Int)<f.s.n then _ else _) m;by_cases ht:0<=(k:Int)/\(k:Int)<f.s.n
 ·rw [Qj ht,Qj ht,Int.toNat_natCast]
  show FL.vw (if f.s.st k=1 then _ else _) o (m+2) m=FL.Df (if f.s.st k=1 then _ else _) m;by_cases s1:f.s.st k=1
  ·rw [Qj s1,Qj s1]
   unfold FL.acq;show FL.vw (if f.pc k=0 then _ else _) o (m+2) m=FL.Df (if f.pc k=0 then _ else _) m;by_cases p0:f.pc k=0
   ·rw [Qj p0,Qj p0]
    unfold FL.vw FL.Df;dsimp only;rw [h.h2,h.z2,h.hx,e2,d (1+x) _ _ _ (by omega),e3]
   rw [Qq p0,Qq p0];show FL.vw (if f.pc k=1 then _ else _) o (m+2) m=FL.Df (if f.pc k=1 then _ else _) m;by_cases p1:f.pc k=1
   ·rw [Qj p1,Qj p1]
    unfold FL.vw FL.Df;dsimp only;rw [h.h1,h.z1,d 0 _ _ _ (by omega),t0]
   rw [Qq p1,Qq p1];obtain ⟨y,hy,hy2⟩:=h.hy s1 p0 p1;unfold FL.vw FL.Df;dsimp only;rw [h.h2,h.z2,hy,e2,d (1+y) _ _ _ (by omega),e3]
  ·rw [Qq s1,Qq s1]
   show FL.vw (if f.s.st k=3 then _ else _) o (m+2) m=FL.Df (if f.s.st k=3 then _ else _) m;by_cases s3:f.s.st k=3
   ·rw [Qj s3,Qj s3]
    unfold FL.rel FL.vw FL.Df;dsimp only;rw [h.h2,h.z2,h.hx,e2,d (1+x) _ _ _ (by omega),e3]
   rw [Qq s3,Qq s3];show FL.vw (if f.s.st k=4 then _ else _) o (m+2) m=FL.Df (if f.s.st k=4 then _ else _) m;by_cases s4:f.s.st k=4
   ·rw [Qj s4,Qj s4]
    unfold FL.ask FL.vw FL.Df;dsimp only;rw [h.h1,h.z1,d 0 _ _ _ (by omega)]
   ·rw [Qq s4,Qq s4]
    rfl
 ·rw [Qq ht,Qq ht]
  rfl
theorem Hc (h:OS f L L0 o m k u x):(f.step L k u).vw o (m+2) m=((f.vw o (m+2) m).step L0 k k).Df m:=by
 have e:=JM h;have d:=ES h;unfold FL.step;rw [d];have:({f.mid L k u with s:=f.s.fin k ((f.vw o (m+2) m).did L0 k k).ev}:FL).vw o (m+2) m={(f.mid L k u).vw o (m+2) m with s:=f.s.fin k ((f.vw o (m+2) m).did L0 k k).ev}:=rfl;rw [this,e];rfl
theorem Ft (h:OS f L L0 o m k u x) {o' n':Nat} (ha:o+(m+2)<=o'\/o'+n'<=o):sub (f.step L k u).ps.ws o' n'=sub f.ps.ws o' n':=by
 have key:∀ (i:Nat) K old x,i<m+2->sub (A5 f.ps u K ((o:Int)+i) old x).ws o' n'=sub f.ps.ws o' n':=λi K old x hi=>L5 K old x (by omega);have e2:∀ y:Nat,(o:Int)+1+(y:Int)=(o:Int)+((1+y:Nat):Int):=λy=>by omega
 have hx2:=h.hx2;show sub (f.mid L k u).ps.ws o' n'=_;unfold FL.mid;split
 ·rw [Int.toNat_natCast]
  split
  ·rename_i s1
   unfold FL.acq;by_cases p0:f.pc k=0
   ·rw [Qj p0,h.h2,h.hx,e2];exact key _ _ _ _ (by omega)
   rw [Qq p0];by_cases p1:f.pc k=1
   ·rw [Qj p1,h.h1];exact key 0 _ _ _ (by omega)
   rw [Qq p1];obtain ⟨y,hy,hy2⟩:=h.hy s1 p0 p1;rw [h.h2,hy,e2];exact key _ _ _ _ (by omega)
  ·split
   ·unfold FL.rel;rw [h.h2,h.hx,e2];exact key _ _ _ _ (by omega)
   ·split
    ·unfold FL.ask;rw [h.h1];exact key 0 _ _ _ (by omega)
    ·rfl
 ·rfl
theorem Cj (t u:Int):(f.step L t u).ps.ws.length=f.ps.ws.length/\(f.step L t u).ps.ac.length=f.ps.ac.length:=zz3e
theorem Ck (t u:Int):(f.step L t u).s.n=f.s.n:=SS.Bv _ _ _
end
def In (f:FL) (o:Nat) (g:Option Nat) (W:List Nat):Prop:=o+(f.s.n+2)<=f.ps.ws.length/\∃ e,OrdJ (f.vw o (f.s.n+2) f.s.n) g W e
namespace In
variable {f:FL} {o:Nat} {g:Option Nat} {W:List Nat} {L:Lp}
theorem lock (h:In f o g W) (t d:Int):In (f.lock t d) o g W:=by
 obtain ⟨hl,e0,h⟩:=h;have en:(f.lock t d).s.n=f.s.n:=SS.Bz _ _ _;refine ⟨by rw [en];exact hl,e0,?_⟩;rw [en];exact h.lock t d
theorem turn (h:In f o g W) (t x:Int) (hx:x=3\/x=4):In (f.turn t x) o g W:=by
 obtain ⟨hl,e0,h⟩:=h;have en:(f.turn t x).s.n=f.s.n:=SS.Bu _ _ _;refine ⟨by rw [en];exact hl,e0,?_⟩;rw [en];exact h.turn t x hx
theorem far (h:In f o g W) {ps:AK} (hl:ps.ws.length=f.ps.ws.length) (hw:sub ps.ws o (f.s.n+2)=sub f.ps.ws o (f.s.n+2)):In {f with ps:=ps} o g W:=by
 obtain ⟨hl0,e0,h⟩:=h;refine ⟨by show o+(f.s.n+2)<=ps.ws.length;omega,e0,?_⟩;have e:({f with ps:=ps}:FL).vw o (f.s.n+2) f.s.n=f.vw o (f.s.n+2) f.s.n:=by
  unfold FL.vw AK.vw;rw [hw]
 show OrdJ (({f with ps:=ps}:FL).vw o (f.s.n+2) f.s.n) g W e0;rw [e];exact h
theorem CM {e0:Int} (hl:o+(f.s.n+2)<=f.ps.ws.length) (h:OrdJ (f.vw o (f.s.n+2) f.s.n) g W e0) (h1:L.a1=o) (h2:L.a2=(o:Int)+1) {k u:Nat} (hk:k<f.s.n) (hu:u<f.ps.ac.length):∃ x,OS f L {L with a1:=0,a2:=1} o f.s.n k u x:=by
 obtain ⟨x,hx,hx2⟩:=h.J8 (k:=k) hk;refine ⟨x,by rw [h1];omega,h2,rfl,rfl,hl,hu,hk,hx,hx2,λs1 p0 p1=> ?_⟩;have p2:f.pc k=2:=by have:=h.Ev k;have e:(f.vw o (f.s.n+2) f.s.n).pc k=f.pc k:=rfl;rw [e] at this;omega
 have hm:=h.waits (k:=k) hk s1 p2;rcases h.looks hm with ⟨_,_,_,he⟩|⟨j,hj,_,he⟩
 ·obtain ⟨y,hy,hy2⟩:=h.Wq
  exact ⟨y,by have:f.AL k=e0:=he;rw [this,hy],hy2⟩
 ·obtain ⟨y,hy,hy2⟩:=h.J8 (k:=j) hj
  exact ⟨y,by have:f.AL k=f.node j:=he;rw [this];exact hy,hy2⟩
theorem step (h:In f o g W) (h1:L.a1=o) (h2:L.a2=(o:Int)+1) {k u:Nat} (hk:k<f.s.n) (hu:u<f.ps.ac.length):
  ∃ g' W',In (f.step L k u) o g' W'/\OrdJ.BC W k (f.did L k u) W'/\(∀ o' n',o+(f.s.n+2)<=o'\/o'+n'<=o->sub (f.step L k u).ps.ws o' n'=sub f.ps.ws o' n'):=by
 obtain ⟨hl,e0,h⟩:=h;obtain ⟨x,hA⟩:=CM hl h h1 h2 hk hu;have e:=Hc hA;have d:=ES hA;obtain ⟨g',W',e',hJ,_,hQ⟩:=h.step (L:={L with a1:=0,a2:=1}) rfl rfl (k:Int);refine ⟨g',W',⟨by rw [Ck,(Cj (f:=f) (L:=L) k u).1];exact hl,e',?_⟩,?_,λo' n' ha=>Ft hA ha⟩
 ·rw [Ck,e]
  have CY:=hJ.ac;exact hJ.WM rfl (by rw [CY];show (List.replicate f.s.n 0).length=_;rw [List.length_replicate,Ck];rfl)
 ·rw [d];exact hQ
theorem company (h:In f o g W) (h1:L.a1=o) (h2:L.a2=(o:Int)+1) {k u:Nat} (hk:k<f.s.n) (hu:u<f.ps.ac.length) (hs:f.s.st k=4) (hW:W=[]):(f.did L k u).ev=4:=by
 obtain ⟨hl,e0,h⟩:=h;subst hW;obtain ⟨x,hA⟩:=CM hl h h1 h2 hk hu;rw [ES hA];have hg:g=some k:=h.held (k:=k) hk (.inr (.inr hs));subst hg;have ht:0<=(k:Int)/\(k:Int)<(f.vw o (f.s.n+2) f.s.n).s.n:=by have:(f.vw o (f.s.n+2) f.s.n).s.n=f.s.n:=rfl;omega
 have CY:k<(f.vw o (f.s.n+2) f.s.n).ps.ac.length:=by rw [h.ac];exact hk
 obtain ⟨fl,w1,_⟩:=h.ws;obtain ⟨e1,_⟩:=BL (a:=0) (i:=0) w1 CY rfl (by simp);have jB:(f.vw o (f.s.n+2) f.s.n).s.st k=4:=hs;unfold FL.did;rw [Qj ht,Int.toNat_natCast,Qq (by omega),Qq (by omega),Qj jB];unfold FL.CW;rw [show ({L with a1:=0,a2:=1}:Lp).a1=0 from rfl,e1,Qj (by rfl)]
end In
end Go.Proofs.YtmnephejhkfchaaGreat.Kc
namespace Go.Proofs.YtmnephejhkfchaaGreat.Km
set_option linter.unusedVariables false
set_option maxRecDepth 100000
def FL.vw (f:FL) (o n m:Nat):FL:={f with ps:=f.ps.vw o n m}
def FL.Df (f:FL) (m:Nat):FL:={f with ps:=f.ps.Df m}
section
variable {f:FL} {L L0:Lp} {o m k u:Nat}
structure OS (f:FL) (L L0:Lp) (o m k u:Nat):Prop where
 h1:L.a1=(o:Int)+(0:Nat)
 h2:L.a2=(o:Int)+1
 z1:L0.a1=(0:Nat)
 z2:L0.a2=1
 hl:o+(2*m+1)<=f.ps.ws.length
 hu:u<f.ps.ac.length
 hm:k<m
 hy:f.s.st k=1->f.pc k=3->∃ y:Nat,f.A9 k=(y:Int)+1/\y<m
 hz:f.s.st k=3->f.pc k≠0->f.pc k≠1->f.pc k≠2->∃ y:Nat,f.A9 k=(y:Int)+1/\y<m
theorem Nt (h:OS f L L0 o m k u) (y:Nat):L.nx (y:Int)=(o:Int)+((1+2*y:Nat):Int)/\L0.nx (y:Int)=((1+2*y:Nat):Int):=by
 unfold Lp.nx;rw [h.h2,h.z2];omega
theorem Nl (h:OS f L L0 o m k u) (y:Nat):L.lk (y:Int)=(o:Int)+((2+2*y:Nat):Int)/\L0.lk (y:Int)=((2+2*y:Nat):Int):=by
 unfold Lp.lk;rw [h.h2,h.z2];omega
theorem Wn (h:OS f L L0 o m k u) (old:Int):casT f.ps u L.a1 old=casT (f.ps.vw o (2*m+1) m) k L0.a1 old:=by
 rw [h.h1,h.z1];exact Un h.hu h.hm (by omega) h.hl old
theorem ES (h:OS f L L0 o m k u):f.did L k u=(f.vw o (2*m+1) m).did L0 k k:=by
 have t:=λi K (hi:i<2*m+1)=>Ep (v:=k) (m:=m) (n:=2*m+1) (i:=i) h.hu h.hm hi h.hl K;have t0:∀ K,A6 f.ps u K L.a1=A6 (f.ps.vw o (2*m+1) m) k K L0.a1:=λK=>by rw [h.h1,h.z1];exact t 0 K (by omega)
 have hm:=h.hm;have tn:∀ K,A6 f.ps u K (L.nx (k:Int))=A6 (f.ps.vw o (2*m+1) m) k K (L0.nx (k:Int)):=λK=>by rw [(Nt h k).1,(Nt h k).2];exact t _ K (by omega)
 have tk:∀ K,A6 f.ps u K (L.lk (k:Int))=A6 (f.ps.vw o (2*m+1) m) k K (L0.lk (k:Int)):=λK=>by rw [(Nl h k).1,(Nl h k).2];exact t _ K (by omega)
 unfold FL.did FL.A7 FL.AX FL.CW;rw [Int.toNat_natCast,t0,tk,tn,Wn h];rfl
theorem JM (h:OS f L L0 o m k u):(f.mid L k u).vw o (2*m+1) m=((f.vw o (2*m+1) m).mid L0 k k).Df m:=by
 have t:=λi K (hi:i<2*m+1)=>Ep (v:=k) (m:=m) (n:=2*m+1) (i:=i) h.hu h.hm hi h.hl K;have hm:=h.hm;have d:=λi K old x (hi:i<2*m+1)=>ME (v:=k) (m:=m) (n:=2*m+1) (i:=i) h.hu h.hm hi h.hl K old x;have t0:∀ K,A6 f.ps u K L.a1=A6 (f.ps.vw o (2*m+1) m) k K L0.a1:=λK=>by rw [h.h1,h.z1];exact t 0 K (by omega)
 have tn:∀ K,A6 f.ps u K (L.nx (k:Int))=A6 (f.ps.vw o (2*m+1) m) k K (L0.nx (k:Int)):=λK=>by rw [(Nt h k).1,(Nt h k).2];exact t _ K (by omega)
 have tk:∀ K,A6 f.ps u K (L.lk (k:Int))=A6 (f.ps.vw o (2*m+1) m) k K (L0.lk (k:Int)):=λK=>by rw [(Nl h k).1,(Nl h k).2];exact t _ K (by omega)
 have d0:∀ K old x,(A5 f.ps u K L.a1 old x).vw o (2*m+1) m=(A5 (f.ps.vw o (2*m+1) m) k K L0.a1 old x).Df m:=λK old x=>by rw [h.h1,h.z1];exact d 0 K old x (by omega)
 have dn:∀ (y:Nat) K old x,y<m->(A5 f.ps u K (L.nx (y:Int)) old x).vw o (2*m+1) m=(A5 (f.ps.vw o (2*m+1) m) k K (L0.nx (y:Int)) old x).Df m:=λy K old x hy=>by rw [(Nt h y).1,(Nt h y).2];exact d _ K old x (by omega)
 have dk:∀ (y:Nat) K old x,y<m->(A5 f.ps u K (L.lk (y:Int)) old x).vw o (2*m+1) m=(A5 (f.ps.vw o (2*m+1) m) k K (L0.lk (y:Int)) old x).Df m:=λy K old x hy=>by rw [(Nl h y).1,(Nl h y).2];exact d _ K old x (by omega)
 have cc:=Wn h;unfold FL.mid;show FL.vw (if 0<=(k:Int)/\(k:Int)<f.s.n then _ else _) o (2*m+1) m=FL.Df (if 0<=(k:Int)/\(k:Int)<f.s.n then _ else _) m;by_cases ht:0<=(k:Int)/\(k:Int)<f.s.n
 ·rw [Qj ht,Qj ht,Int.toNat_natCast]
  show FL.vw (if f.s.st k=1 then _ else _) o (2*m+1) m=FL.Df (if f.s.st k=1 then _ else _) m;by_cases s1:f.s.st k=1
  ·rw [Qj s1,Qj s1]
   unfold FL.acq;show FL.vw (if f.pc k=0 then _ else _) o (2*m+1) m=FL.Df (if f.pc k=0 then _ else _) m;by_cases p0:f.pc k=0
   ·rw [Qj p0,Qj p0]
    unfold FL.vw FL.Df;dsimp only;rw [dn k _ _ _ hm]
   rw [Qq p0,Qq p0];show FL.vw (if f.pc k=1 then _ else _) o (2*m+1) m=FL.Df (if f.pc k=1 then _ else _) m;by_cases p1:f.pc k=1
   ·rw [Qj p1,Qj p1]
    unfold FL.vw FL.Df;dsimp only;rw [d0,t0]
   rw [Qq p1,Qq p1];show FL.vw (if f.pc k=2 then _ else _) o (2*m+1) m=FL.Df (if f.pc k=2 then _ else _) m;by_cases p2:f.pc k=2
   ·rw [Qj p2,Qj p2]
    unfold FL.vw FL.Df;dsimp only;rw [dk k _ _ _ hm]
   rw [Qq p2,Qq p2];show FL.vw (if f.pc k=3 then _ else _) o (2*m+1) m=FL.Df (if f.pc k=3 then _ else _) m;by_cases p3:f.pc k=3
   ·rw [Qj p3,Qj p3]
    obtain ⟨y,hy,hy2⟩:=h.hy s1 p3;unfold FL.vw FL.Df;dsimp only;rw [hy,show (y:Int)+1-1=(y:Int) by omega,dn y _ _ _ hy2]
   rw [Qq p3,Qq p3];unfold FL.vw FL.Df;dsimp only;rw [dk k _ _ _ hm,tk]
  ·rw [Qq s1,Qq s1]
   show FL.vw (if f.s.st k=3 then _ else _) o (2*m+1) m=FL.Df (if f.s.st k=3 then _ else _) m;by_cases s3:f.s.st k=3
   ·rw [Qj s3,Qj s3]
    unfold FL.rel;show FL.vw (if f.pc k=0 then _ else _) o (2*m+1) m=FL.Df (if f.pc k=0 then _ else _) m;by_cases p0:f.pc k=0
    ·rw [Qj p0,Qj p0]
     unfold FL.vw FL.Df;dsimp only;rw [dn k _ _ _ hm,tn]
    rw [Qq p0,Qq p0];show FL.vw (if f.pc k=1 then _ else _) o (2*m+1) m=FL.Df (if f.pc k=1 then _ else _) m;by_cases p1:f.pc k=1
    ·rw [Qj p1,Qj p1]
     unfold FL.vw FL.Df;dsimp only;rw [d0,cc]
    rw [Qq p1,Qq p1];show FL.vw (if f.pc k=2 then _ else _) o (2*m+1) m=FL.Df (if f.pc k=2 then _ else _) m;by_cases p2:f.pc k=2
    ·rw [Qj p2,Qj p2]
     unfold FL.vw FL.Df;dsimp only;rw [dn k _ _ _ hm,tn]
    rw [Qq p2,Qq p2];obtain ⟨y,hy,hy2⟩:=h.hz s3 p0 p1 p2;unfold FL.vw FL.Df;dsimp only;rw [hy,show (y:Int)+1-1=(y:Int) by omega,dk y _ _ _ hy2]
   ·rw [Qq s3,Qq s3]
    show FL.vw (if f.s.st k=4 then _ else _) o (2*m+1) m=FL.Df (if f.s.st k=4 then _ else _) m;by_cases s4:f.s.st k=4
    ·rw [Qj s4,Qj s4]
     unfold FL.ask FL.vw FL.Df;dsimp only;rw [dn k _ _ _ hm]
    ·rw [Qq s4,Qq s4]
     rfl
 ·rw [Qq ht,Qq ht]
  rfl
theorem Hc (h:OS f L L0 o m k u):(f.step L k u).vw o (2*m+1) m=((f.vw o (2*m+1) m).step L0 k k).Df m:=by
 have e:=JM h;have d:=ES h;unfold FL.step;rw [d];have:({f.mid L k u with s:=f.s.fin k ((f.vw o (2*m+1) m).did L0 k k).ev}:FL).vw o (2*m+1) m={(f.mid L k u).vw o (2*m+1) m with s:=f.s.fin k ((f.vw o (2*m+1) m).did L0 k k).ev}:=rfl;rw [this,e];rfl
theorem Ft (h:OS f L L0 o m k u) {o' n':Nat} (ha:o+(2*m+1)<=o'\/o'+n'<=o):sub (f.step L k u).ps.ws o' n'=sub f.ps.ws o' n':=by
 have hm:=h.hm;have key:∀ (i:Nat) K old x,i<2*m+1->sub (A5 f.ps u K ((o:Int)+i) old x).ws o' n'=sub f.ps.ws o' n':=λi K old x hi=>L5 K old x (by omega);have k0:∀ K old x,sub (A5 f.ps u K L.a1 old x).ws o' n'=sub f.ps.ws o' n':=λK old x=>by rw [h.h1];exact key 0 K old x (by omega)
 have kn:∀ (y:Nat) K old x,y<m->sub (A5 f.ps u K (L.nx (y:Int)) old x).ws o' n'=sub f.ps.ws o' n':=λy K old x hy=>by rw [(Nt h y).1];exact key _ K old x (by omega)
 have kk:∀ (y:Nat) K old x,y<m->sub (A5 f.ps u K (L.lk (y:Int)) old x).ws o' n'=sub f.ps.ws o' n':=λy K old x hy=>by rw [(Nl h y).1];exact key _ K old x (by omega)
 show sub (f.mid L k u).ps.ws o' n'=_;unfold FL.mid;split
 ·rw [Int.toNat_natCast]
  split
  ·rename_i s1
   unfold FL.acq;by_cases p0:f.pc k=0
   ·rw [Qj p0];exact kn k _ _ _ hm
   rw [Qq p0];by_cases p1:f.pc k=1
   ·rw [Qj p1];exact k0 _ _ _
   rw [Qq p1];by_cases p2:f.pc k=2
   ·rw [Qj p2];exact kk k _ _ _ hm
   rw [Qq p2];by_cases p3:f.pc k=3
   ·rw [Qj p3]
    obtain ⟨y,hy,hy2⟩:=h.hy s1 p3;rw [hy,show (y:Int)+1-1=(y:Int) by omega];exact kn y _ _ _ hy2
   rw [Qq p3];exact kk k _ _ _ hm
  ·split
   ·rename_i s3
    unfold FL.rel;by_cases p0:f.pc k=0
    ·rw [Qj p0];exact kn k _ _ _ hm
    rw [Qq p0];by_cases p1:f.pc k=1
    ·rw [Qj p1];exact k0 _ _ _
    rw [Qq p1];by_cases p2:f.pc k=2
    ·rw [Qj p2];exact kn k _ _ _ hm
    rw [Qq p2];obtain ⟨y,hy,hy2⟩:=h.hz s3 p0 p1 p2;rw [hy,show (y:Int)+1-1=(y:Int) by omega];exact kk y _ _ _ hy2
   ·split
    ·unfold FL.ask;exact kn k _ _ _ hm
    ·rfl
 ·rfl
theorem Cj (t u:Int):(f.step L t u).ps.ws.length=f.ps.ws.length/\(f.step L t u).ps.ac.length=f.ps.ac.length:=by
 show (f.mid L t u).ps.ws.length=_/\(f.mid L t u).ps.ac.length=_;unfold FL.mid FL.acq FL.rel FL.ask
 repeat' split
 all_goals first|exact ⟨rfl,rfl⟩|exact CX _ _ _ _ _ _
theorem Ck (t u:Int):(f.step L t u).s.n=f.s.n:=SS.Bv _ _ _
end
def In (f:FL) (o:Nat) (g:Option Nat) (W:List Nat):Prop:=o+(2*f.s.n+1)<=f.ps.ws.length/\OrdJ (f.vw o (2*f.s.n+1) f.s.n) g W
namespace In
variable {f:FL} {o:Nat} {g:Option Nat} {W:List Nat} {L:Lp}
theorem lock (h:In f o g W) (t d:Int):In (f.lock t d) o g W:=by
 obtain ⟨hl,h⟩:=h;have en:(f.lock t d).s.n=f.s.n:=SS.Bz _ _ _;refine ⟨by rw [en];exact hl,?_⟩;rw [en];exact h.lock t d
theorem turn (h:In f o g W) (t x:Int) (hx:x=3\/x=4):In (f.turn t x) o g W:=by
 obtain ⟨hl,h⟩:=h;have en:(f.turn t x).s.n=f.s.n:=SS.Bu _ _ _;refine ⟨by rw [en];exact hl,?_⟩;rw [en];exact h.turn t x hx
theorem far (h:In f o g W) {ps:AK} (hl:ps.ws.length=f.ps.ws.length) (hw:sub ps.ws o (2*f.s.n+1)=sub f.ps.ws o (2*f.s.n+1)):In {f with ps:=ps} o g W:=by
 obtain ⟨hl0,h⟩:=h;refine ⟨by show o+(2*f.s.n+1)<=ps.ws.length;omega,?_⟩;have e:({f with ps:=ps}:FL).vw o (2*f.s.n+1) f.s.n=f.vw o (2*f.s.n+1) f.s.n:=by
  unfold FL.vw AK.vw;rw [hw]
 show OrdJ (({f with ps:=ps}:FL).vw o (2*f.s.n+1) f.s.n) g W;rw [e];exact h
theorem CM (hl:o+(2*f.s.n+1)<=f.ps.ws.length) (h:OrdJ (f.vw o (2*f.s.n+1) f.s.n) g W) (h1:L.a1=o) (h2:L.a2=(o:Int)+1) {k u:Nat} (hk:k<f.s.n) (hu:u<f.ps.ac.length):OS f L {L with a1:=0,a2:=1} o f.s.n k u:=by
 refine ⟨by rw [h1];omega,h2,rfl,rfl,hl,hu,hk,λs1 p3=> ?_,λs3 p0 p1 p2=> ?_⟩
 ·obtain ⟨i,hi,ho⟩:=h.Ae.ahead (k:=k) hk s1 (.inr p3)
  exact ⟨i,ho,hi⟩
 ·have hg:=h.Ae.held (k:=k) hk (.inr (.inl s3))
  have hp:f.pc k<=3:=h.Ae.KG k hk s3;have hr:0<=f.pc k:=(h.Ae.Ev k).1;obtain ⟨j,r,hW,ho,_⟩:=h.Ae.Yc k hg s3 (by show f.pc k=3;omega);exact ⟨j,ho,h.Ae.lt j (by rw [hW];simp)⟩
theorem step (h:In f o g W) (h1:L.a1=o) (h2:L.a2=(o:Int)+1) {k u:Nat} (hk:k<f.s.n) (hu:u<f.ps.ac.length):
  ∃ g' W',In (f.step L k u) o g' W'/\OrdJ.BC W k (f.did L k u) W'/\(∀ o' n',o+(2*f.s.n+1)<=o'\/o'+n'<=o->sub (f.step L k u).ps.ws o' n'=sub f.ps.ws o' n'):=by
 obtain ⟨hl,h⟩:=h;have hA:=CM hl h h1 h2 hk hu;have e:=Hc hA;have d:=ES hA;obtain ⟨g',W',x,p,hS⟩:=h.Lz (L:={L with a1:=0,a2:=1}) rfl rfl (k:=k) hk;have hJ:=hS.ord;refine ⟨g',W',⟨by rw [Ck,(Cj (f:=f) (L:=L) k u).1];exact hl,?_⟩,?_,λo' n' ha=>Ft hA ha⟩
 ·rw [Ck,e]
  exact ⟨hJ.n8,hJ.len,by show (List.replicate f.s.n 0).length=_;rw [List.length_replicate];exact (Ck (f:=f.vw o (2*f.s.n+1) f.s.n) (k:Int) (k:Int)).symm,hJ.Ae⟩
 ·rw [d];exact hS.q
theorem company (h:In f o g W) (h1:L.a1=o) (h2:L.a2=(o:Int)+1) {k u:Nat} (hk:k<f.s.n) (hu:u<f.ps.ac.length) (hs:f.s.st k=4) (hW:W=[]):(f.did L k u).ev=4:=by
 obtain ⟨hl,h⟩:=h;subst hW;have hA:=CM hl h h1 h2 hk hu;rw [ES hA];have hg:g=some k:=h.Ae.held (k:=k) hk (.inr (.inr hs));subst hg;have CY:k<(f.vw o (2*f.s.n+1) f.s.n).ps.ac.length:=by rw [h.ac];exact hk
 have hlen:=h.len;have hk2:k<(f.vw o (2*f.s.n+1) f.s.n).s.n:=hk;obtain ⟨e1,_⟩:=BL CY (OrdJ.Z_ (L:={L with a1:=0,a2:=1}) rfl k) (show 1+2*k<(f.vw o (2*f.s.n+1) f.s.n).ps.ws.length by omega);have hn:wN (f.vw o (2*f.s.n+1) f.s.n).ps k=0:=h.Ae.ch;rw [(OrdJ.OY (L:={L with a1:=0,a2:=1}) (f:=f.vw o (2*f.s.n+1) f.s.n) hk hs).1];unfold FL.CW;rw [e1];unfold wN at hn;rw [hn,Qj rfl]
end In
end Go.Proofs.YtmnephejhkfchaaGreat.Km
namespace Go.Proofs.YtmnephejhkfchaaGreat
set_option linter.unusedVariables false
set_option maxRecDepth 100000
namespace Kf
theorem D_ {f:FL} {L:Lp} {k u:Nat} (hk:k<f.s.n):
  (f.s.st k=1->((f.did L k u).ev=0\/(f.did L k u).ev=1)/\(f.did L k u).arr=false/\(f.did L k u).lead=false)/\
  (f.s.st k=3->((f.did L k u).ev=0\/(f.did L k u).ev=3)/\(f.did L k u).BW=false)/\
  (f.s.st k=4->((f.did L k u).ev=4\/(f.did L k u).ev=5)/\(f.did L k u).BW=false)/\
  (f.s.st k≠1->f.s.st k≠3->f.s.st k≠4->f.did L k u=Dd.no):=zz1u
theorem DF (f:FL) (L:Lp) (t u:Int):(f.step L t u).s=f.s.fin t (f.did L t u).ev:=rfl
def lp (a:Int):Lp:={lb:=0,p:=0,b:=0,tb:=0,a1:=a,a2:=a+1,q:=⟨0,0,0,0,0,0,0,0,0,0,0,0,.slice none 0 0⟩,hs:=[]}
theorem Hb {L:Lp} (h:L.a2=L.a1+1) (f:FL) (t u:Int):f.step L t u=f.step (lp L.a1) t u/\f.did L t u=f.did (lp L.a1) t u:=zz2e
end Kf
namespace Kc
theorem D_ {f:FL} {L:Lp} {k u:Nat} (hk:k<f.s.n):
  (f.s.st k=1->((f.did L k u).ev=0\/(f.did L k u).ev=1)/\(f.did L k u).arr=false/\(f.did L k u).lead=false)/\
  (f.s.st k=3->((f.did L k u).ev=0\/(f.did L k u).ev=3)/\(f.did L k u).BW=false)/\
  (f.s.st k=4->((f.did L k u).ev=4\/(f.did L k u).ev=5)/\(f.did L k u).BW=false)/\
  (f.s.st k≠1->f.s.st k≠3->f.s.st k≠4->f.did L k u=Dd.no):=zz1u
theorem DF (f:FL) (L:Lp) (t u:Int):(f.step L t u).s=f.s.fin t (f.did L t u).ev:=rfl
def lp (a:Int):Lp:={lb:=0,p:=0,b:=0,tb:=0,a1:=a,a2:=a+1,q:=⟨0,0,0,0,0,0,0,0,0,0,0,0,.slice none 0 0⟩,hs:=[]}
theorem Hb {L:Lp} (h:L.a2=L.a1+1) (f:FL) (t u:Int):f.step L t u=f.step (lp L.a1) t u/\f.did L t u=f.did (lp L.a1) t u:=zz2e
end Kc
namespace Km
theorem D_ {f:FL} {L:Lp} {k u:Nat} (hk:k<f.s.n):
  (f.s.st k=1->((f.did L k u).ev=0\/(f.did L k u).ev=1)/\(f.did L k u).arr=false/\(f.did L k u).lead=false)/\
  (f.s.st k=3->((f.did L k u).ev=0\/(f.did L k u).ev=3)/\(f.did L k u).BW=false)/\
  (f.s.st k=4->((f.did L k u).ev=4\/(f.did L k u).ev=5)/\(f.did L k u).BW=false)/\
  (f.s.st k≠1->f.s.st k≠3->f.s.st k≠4->f.did L k u=Dd.no):=by
 have ht:(0:Int)<=(k:Int)/\(k:Int)<f.s.n:=by omega
 unfold FL.did;rw [Qj ht,Int.toNat_natCast];refine ⟨λe=> ?_,λe=> ?_,λe=> ?_,λe1 e3 e4=> ?_⟩
 ·rw [Qj e]
  unfold FL.A7 Dd.no
  repeat' split
  all_goals simp
 ·rw [Qq (by omega),Qj e]
  unfold FL.AX Dd.no
  repeat' split
  all_goals simp
 ·exact zz80
 ·rw [Qq e1,Qq e3,Qq e4]
theorem DF (f:FL) (L:Lp) (t u:Int):(f.step L t u).s=f.s.fin t (f.did L t u).ev:=rfl
def lp (a:Int):Lp:={lb:=0,p:=0,b:=0,tb:=0,a1:=a,a2:=a+1,q:=⟨0,0,0,0,0,0,0,0,0,0,0,0,.slice none 0 0⟩,hs:=[]}
theorem Hb {L:Lp} (h:L.a2=L.a1+1) (f:FL) (t u:Int):f.step L t u=f.step (lp L.a1) t u/\f.did L t u=f.did (lp L.a1) t u:=by
 have e1:(lp L.a1).a1=L.a1:=rfl;have e2:(lp L.a1).a2=L.a2:=h.symm;have d:f.did L t u=f.did (lp L.a1) t u:=by
  unfold FL.did FL.A7 FL.AX FL.CW Lp.nx Lp.lk;rw [e1,e2]
 refine ⟨?_,d⟩;unfold FL.step;rw [d];have m:f.mid L t u=f.mid (lp L.a1) t u:=by
  unfold FL.mid FL.acq FL.rel FL.ask Lp.nx Lp.lk;rw [e1,e2]
 rw [m]
end Km
structure Qf (s:SS) (g:Option Nat) (W:List Nat):Prop where
 n8:s.n<=64
 nodup:(g.toList++W).Nodup
 lt:∀ k∈g.toList++W,k<s.n
 FZ:∀ k,g=some k->s.st k=2\/s.st k=3\/s.st k=4
 EN:∀ k∈W,s.st k=1
 FB:∀ k,k<s.n->k∉g.toList++W->s.st k=0\/s.st k=1
inductive RP (W:List Nat) (k:Nat) (d:Dd) (W':List Nat):Prop where
 |same (h0:d.BW=false) (h1:d.ev≠1) (e:W'=W):RP W k d W'
 |BW (hd:d=⟨0,true,false,false⟩) (e:W'=W++[k]):RP W k d W'
 |Bs (hd:d=⟨1,false,false,false⟩) (e:W=k::W'):RP W k d W'
 |both (hd:d=⟨1,true,false,false⟩) (e:W=[]) (e':W'=[]):RP W k d W'
theorem Kf.In.qf {f:Kf.FL} {o:Nat} {g:Option Nat} {W:List Nat} (h:Kf.In f o g W):Qf f.s g W:=by
 obtain ⟨_,nx,ow,h⟩:=h;exact ⟨h.n8,h.nodup,h.lt,h.FZ,h.EN,h.FB⟩
theorem Kc.In.qf {f:Kc.FL} {o:Nat} {g:Option Nat} {W:List Nat} (h:Kc.In f o g W):Qf f.s g W:=by
 obtain ⟨_,e,h⟩:=h;exact ⟨h.n8,h.nodup,h.lt,h.FZ,h.EN,h.FB⟩
theorem Km.In.qf {f:Km.FL} {o:Nat} {g:Option Nat} {W:List Nat} (h:Km.In f o g W):Qf f.s g W:=by
 obtain ⟨_,h⟩:=h;exact ⟨h.n8,h.Ae.nodup,h.Ae.lt,h.Ae.FZ,h.Ae.EN,h.Ae.FB⟩
theorem Kf.d_ {W W':List Nat} {k:Nat} {d:Dd} (h:Kf.OrdJ.BC W k d W'):RP W k d W':=zz3l
theorem Kc.d_ {W W':List Nat} {k:Nat} {d:Dd} (h:Kc.OrdJ.BC W k d W'):RP W k d W':=zz3l
theorem Km.d_ {W W':List Nat} {k:Nat} {d:Dd} (h:Km.OrdJ.BC W k d W'):RP W k d W':=by
 cases h with
 |same h0 h1 h2 e=>exact .same h0 h1 e
 |BW hd j ht e=>obtain rfl:k=j:=by omega
                exact .BW hd e
 |Bs hd j ht e hn=>obtain rfl:k=j:=by omega
                   exact .Bs hd e
 |both hd j ht e e'=>exact .both hd e e'
structure Ip where
 lb:Nat
 p:Nat
 b:Nat
 tb:Nat
 a:Nat
 ty:Nat
 lo:Nat
 hi:Nat
inductive Inn where
 |tk (f:Kf.FL)
 |cl (f:Kc.FL)
 |mc (f:Km.FL)
namespace Inn
def s:Inn->SS
 |tk f=>f.s
 |cl f=>f.s
 |mc f=>f.s
def ps:Inn->AK
 |tk f=>f.ps
 |cl f=>f.ps
 |mc f=>f.ps
def on (q:AK):Inn->Inn
 |tk f=>tk {f with ps:=q}
 |cl f=>cl {f with ps:=q}
 |mc f=>mc {f with ps:=q}
def size:Inn->Nat
 |tk f=>2
 |cl f=>f.s.n+2
 |mc f=>2*f.s.n+1
def lock (t d:Int):Inn->Inn
 |tk f=>tk (f.lock t d)
 |cl f=>cl (f.lock t d)
 |mc f=>mc (f.lock t d)
def turn (t x:Int):Inn->Inn
 |tk f=>tk (f.turn t x)
 |cl f=>cl (f.turn t x)
 |mc f=>mc (f.turn t x)
def step (a t u:Int):Inn->Inn
 |tk f=>tk (f.step (Kf.lp a) t u)
 |cl f=>cl (f.step (Kc.lp a) t u)
 |mc f=>mc (f.step (Km.lp a) t u)
def did (a t u:Int):Inn->Dd
 |tk f=>f.did (Kf.lp a) t u
 |cl f=>f.did (Kc.lp a) t u
 |mc f=>f.did (Km.lp a) t u
def At:Inn->Nat->Option Nat->List Nat->Prop
 |tk f,o,g,W=>Kf.In f o g W
 |cl f,o,g,W=>Kc.In f o g W
 |mc f,o,g,W=>Km.In f o g W
section
variable {x:Inn} {o:Nat} {g:Option Nat} {W:List Nat}
theorem JR (q:AK):(x.on q).s=x.s:=by cases x<;>rfl
theorem Da (q:AK):(x.on q).ps=q:=by cases x<;>rfl
theorem FP (q:AK):(x.on q).size=x.size:=by cases x<;>rfl
theorem PE:x.on x.ps=x:=by cases x<;>rfl
theorem Me (q r:AK):(x.on q).on r=x.on r:=by cases x<;>rfl
theorem Hz (t d:Int):(x.lock t d).s=x.s.lock t d:=by cases x<;>rfl
theorem Iq (t d:Int):(x.lock t d).ps=x.ps:=by cases x<;>rfl
theorem P6 (t d:Int) (q:AK):(x.lock t d).on q=(x.on q).lock t d:=by cases x<;>rfl
theorem Fv (t y:Int):(x.turn t y).s=x.s.turn t y:=by cases x<;>rfl
theorem Lr (t y:Int) (q:AK):(x.turn t y).on q=(x.on q).turn t y:=by cases x<;>rfl
theorem DF (a t u:Int):(x.step a t u).s=x.s.fin t (x.did a t u).ev:=by cases x<;>rfl
theorem Cj (a t u:Int):(x.step a t u).ps.ws.length=x.ps.ws.length/\(x.step a t u).ps.ac.length=x.ps.ac.length:=by
 cases x
 ·exact Kf.Cj _ _
 ·exact Kc.Cj _ _
 ·exact Km.Cj _ _
theorem At.qf (h:x.At o g W):Qf x.s g W:=by
 cases x
 ·exact Kf.In.qf h
 ·exact Kc.In.qf h
 ·exact Km.In.qf h
theorem At.fits (h:x.At o g W):o+x.size<=x.ps.ws.length:=by
 cases x
 ·exact h.1
 ·exact h.1
 ·exact h.1
theorem At.lock (h:x.At o g W) (t d:Int):(x.lock t d).At o g W:=by
 cases x
 ·exact Kf.In.lock h t d
 ·exact Kc.In.lock h t d
 ·exact Km.In.lock h t d
theorem At.turn (h:x.At o g W) (t y:Int) (hy:y=3\/y=4):(x.turn t y).At o g W:=by
 cases x
 ·exact Kf.In.turn h t y hy
 ·exact Kc.In.turn h t y hy
 ·exact Km.In.turn h t y hy
theorem At.far (h:x.At o g W) {q:AK} (hl:q.ws.length=x.ps.ws.length) (hw:sub q.ws o x.size=sub x.ps.ws o x.size):(x.on q).At o g W:=by
 cases x
 ·exact Kf.In.far h hl hw
 ·exact Kc.In.far h hl hw
 ·exact Km.In.far h hl hw
theorem At.step (h:x.At o g W) {k u:Nat} (hk:k<x.s.n) (hu:u<x.ps.ac.length):
  ∃ g' W',(x.step o k u).At o g' W'/\RP W k (x.did o k u) W'/\(∀ o' n',o+x.size<=o'\/o'+n'<=o->sub (x.step o k u).ps.ws o' n'=sub x.ps.ws o' n'):=by
 cases x
 ·obtain ⟨g',W',a,b,c⟩:=Kf.In.step (L:=Kf.lp o) h rfl rfl hk hu
  exact ⟨g',W',a,Kf.d_ b,c⟩
 ·obtain ⟨g',W',a,b,c⟩:=Kc.In.step (L:=Kc.lp o) h rfl rfl hk hu
  exact ⟨g',W',a,Kc.d_ b,c⟩
 ·obtain ⟨g',W',a,b,c⟩:=Km.In.step (L:=Km.lp o) h rfl rfl hk hu
  exact ⟨g',W',a,Km.d_ b,c⟩
theorem At.company (h:x.At o g W) {k u:Nat} (hk:k<x.s.n) (hu:u<x.ps.ac.length) (hs:x.s.st k=4) (h5:(x.did o k u).ev=5):W≠[]:=by
 intro hW;cases x
 ·rcases Kf.In.company (L:=Kf.lp o) h rfl rfl hk hu hs with ⟨a,_⟩|⟨_,b⟩
  ·have h5:(Kf.FL.did _ (Kf.lp o) k u).ev=5:=h5
   omega
  ·exact b hW
 ·have:=Kc.In.company (L:=Kc.lp o) h rfl rfl hk hu hs hW
  have h5:(Kc.FL.did _ (Kc.lp o) k u).ev=5:=h5;omega
 ·have:=Km.In.company (L:=Km.lp o) h rfl rfl hk hu hs hW
  have h5:(Km.FL.did _ (Km.lp o) k u).ev=5:=h5;omega
theorem D_ {k u:Nat} (a:Int) (hk:k<x.s.n):
  (x.s.st k=1->((x.did a k u).ev=0\/(x.did a k u).ev=1)/\(x.did a k u).arr=false/\(x.did a k u).lead=false)/\
  (x.s.st k=3->((x.did a k u).ev=0\/(x.did a k u).ev=3)/\(x.did a k u).BW=false)/\
  (x.s.st k=4->((x.did a k u).ev=4\/(x.did a k u).ev=5)/\(x.did a k u).BW=false)/\
  (x.s.st k≠1->x.s.st k≠3->x.s.st k≠4->x.did a k u=Dd.no):=by
 cases x
 ·exact Kf.D_ hk
 ·exact Kc.D_ hk
 ·exact Km.D_ hk
end
end Inn
open Go.RowKit
structure FL where
 s:SS
 CJ:Int
 nd:Nat->Nat
 own:Nat->Nat
 ph:Nat->Int
 got:Nat->Int
 ga:Nat
 la:Nat->Nat
 G:Inn
 Lc:Nat->Inn
 ps:AK
structure Lp where
 lb:Nat
 p:Nat
 b:Nat
 tb:Nat
 a1:Int
 a2:Int
 q:Place
 hs:List Int
 lo:Nat
 gi:Ip
 li:Nat->Ip
 has:Nat->Bool
def Lp.pA (L:Lp) (c:Nat):Int:=L.a1+c
def FL.lk (f:FL) (c:Nat):Inn:=(f.Lc c).on f.ps
def FL.gl (f:FL):Inn:=f.G.on f.ps
def FL.ask (f:FL) (t:Nat):Inn:=if (f.Lc (f.nd t)).s.st (f.own t)=0 then (f.lk (f.nd t)).lock (f.own t:Nat) (-1) else f.lk (f.nd t)
def FL.acq (f:FL) (L:Lp) (t:Nat) (u:Int):FL:=
 if f.ph t=0 then {f with Lc:=upd f.Lc (f.nd t) ((f.ask t).step (f.la (f.nd t):Nat) (f.own t:Nat) u),ph:=upd f.ph t ((f.ask t).did (f.la (f.nd t):Nat) (f.own t:Nat) u).ev,ps:=((f.ask t).step (f.la (f.nd t):Nat) (f.own t:Nat) u).ps}
 else if f.ph t=1 then (if A6 f.ps u 1 (L.pA (f.nd t))=0 then {f with ph:=upd f.ph t 2,G:=f.G.lock (f.nd t:Nat) (-1),ps:=A5 f.ps u 1 (L.pA (f.nd t)) 0 0} else {f with ps:=A5 f.ps u 1 (L.pA (f.nd t)) 0 0})
 else if f.ph t=2 then {f with G:=f.gl.step (f.ga:Nat) (f.nd t:Nat) u,ph:=upd f.ph t (2+(f.gl.did (f.ga:Nat) (f.nd t:Nat) u).ev),ps:=(f.gl.step (f.ga:Nat) (f.nd t:Nat) u).ps}
 else {f with ps:=A5 f.ps u 2 (L.pA (f.nd t)) 0 1}
def FL.A7 (f:FL) (L:Lp) (t:Nat) (u:Int):Dd:=
 if f.ph t=0 then ⟨0,((f.ask t).did (f.la (f.nd t):Nat) (f.own t:Nat) u).BW,false,false⟩
 else if f.ph t=1 then (if A6 f.ps u 1 (L.pA (f.nd t))=0 then Dd.no else ⟨1,false,false,false⟩)
 else if f.ph t=2 then ⟨0,false,(f.gl.did (f.ga:Nat) (f.nd t:Nat) u).BW,false⟩
 else ⟨1,false,false,true⟩
def FL.rel (f:FL) (L:Lp) (t:Nat) (u:Int):FL:=
 if f.ph t=0 then (if A6 f.ps u 1 (L.pA (f.nd t))<f.CJ then {f with got:=upd f.got t (A6 f.ps u 1 (L.pA (f.nd t))),ph:=upd f.ph t 1,Lc:=upd f.Lc (f.nd t) ((f.Lc (f.nd t)).turn (f.own t:Nat) 4),ps:=A5 f.ps u 1 (L.pA (f.nd t)) 0 0}
  else {f with got:=upd f.got t (A6 f.ps u 1 (L.pA (f.nd t))),ph:=upd f.ph t 3,ps:=A5 f.ps u 1 (L.pA (f.nd t)) 0 0})
 else if f.ph t=1 then {f with Lc:=upd f.Lc (f.nd t) ((f.lk (f.nd t)).step (f.la (f.nd t):Nat) (f.own t:Nat) u),ph:=upd f.ph t (if ((f.lk (f.nd t)).did (f.la (f.nd t):Nat) (f.own t:Nat) u).ev=5 then 2 else 3),ps:=((f.lk (f.nd t)).step (f.la (f.nd t):Nat) (f.own t:Nat) u).ps}
 else if f.ph t=2 then {f with Lc:=upd f.Lc (f.nd t) ((f.Lc (f.nd t)).turn (f.own t:Nat) 3),ph:=upd f.ph t 5,ps:=A5 f.ps u 2 (L.pA (f.nd t)) 0 (f.got t+1)}
 else if f.ph t=3 then {f with G:=f.G.turn (f.nd t:Nat) 3,ph:=upd f.ph t 4,ps:=A5 f.ps u 2 (L.pA (f.nd t)) 0 0}
 else if f.ph t=4 then (if (f.gl.did (f.ga:Nat) (f.nd t:Nat) u).ev=3 then {f with G:=f.gl.step (f.ga:Nat) (f.nd t:Nat) u,ph:=upd f.ph t 5,Lc:=upd f.Lc (f.nd t) ((f.Lc (f.nd t)).turn (f.own t:Nat) 3),ps:=(f.gl.step (f.ga:Nat) (f.nd t:Nat) u).ps}
  else {f with G:=f.gl.step (f.ga:Nat) (f.nd t:Nat) u,ps:=(f.gl.step (f.ga:Nat) (f.nd t:Nat) u).ps})
 else {f with Lc:=upd f.Lc (f.nd t) ((f.lk (f.nd t)).step (f.la (f.nd t):Nat) (f.own t:Nat) u),ps:=((f.lk (f.nd t)).step (f.la (f.nd t):Nat) (f.own t:Nat) u).ps}
def FL.AX (f:FL) (L:Lp) (t:Nat) (u:Int):Dd:=
 if f.ph t=0 then Dd.no else if f.ph t=1 then Dd.no else if f.ph t=2 then Dd.no else if f.ph t=3 then Dd.no else if f.ph t=4 then Dd.no
 else ⟨((f.lk (f.nd t)).did (f.la (f.nd t):Nat) (f.own t:Nat) u).ev,false,false,false⟩
def FL.mid (f:FL) (L:Lp) (t u:Int):FL:=if 0<=t/\t<f.s.n then (if f.s.st t.toNat=1 then f.acq L t.toNat u else if f.s.st t.toNat=3 then f.rel L t.toNat u else f) else f
def FL.did (f:FL) (L:Lp) (t u:Int):Dd:=if 0<=t/\t<f.s.n then (if f.s.st t.toNat=1 then f.A7 L t.toNat u else if f.s.st t.toNat=3 then f.AX L t.toNat u else Dd.no) else Dd.no
def FL.step (f:FL) (L:Lp) (t u:Int):FL:={f.mid L t u with s:=f.s.fin t (f.did L t u).ev,ph:=if Gd f.s t (f.did L t u).ev=true then upd (f.mid L t u).ph t.toNat 0 else (f.mid L t u).ph}
def FL.lock (f:FL) (t d:Int):FL:={f with s:=f.s.lock t d}
def FL.turn (f:FL) (t x:Int):FL:={f with s:=f.s.turn t x}
theorem FL.F3 (f:FL) (L:Lp) (t:Nat) (u:Int):(f.acq L t u).s=f.s/\(f.acq L t u).nd=f.nd/\(f.acq L t u).own=f.own/\(f.acq L t u).CJ=f.CJ:=by unfold FL.acq;repeat' split<;>try exact ⟨rfl,rfl,rfl,rfl⟩
theorem FL.JW (f:FL) (L:Lp) (t:Nat) (u:Int):(f.rel L t u).s=f.s/\(f.rel L t u).nd=f.nd/\(f.rel L t u).own=f.own/\(f.rel L t u).CJ=f.CJ:=by unfold FL.rel;repeat' split<;>try exact ⟨rfl,rfl,rfl,rfl⟩
theorem FL.CO (f:FL) (L:Lp) (t u:Int):(f.mid L t u).s=f.s/\(f.mid L t u).nd=f.nd/\(f.mid L t u).own=f.own/\(f.mid L t u).CJ=f.CJ:=by
 unfold FL.mid
 repeat' split
 ·exact f.F3 L _ u
 ·exact f.JW L _ u
 all_goals exact ⟨rfl,rfl,rfl,rfl⟩
theorem FL.Rn (f:FL) (t:Nat):(f.ask t).ps=f.ps:=by
 unfold FL.ask FL.lk;split
 ·rw [Inn.Iq,Inn.Da]
 ·rw [Inn.Da]
inductive Cx (B x p g l q e:Int) (v:List Nat):Prop where
 |idle (hx:x=0) (hp:p=0) (hl:l=0)
 |loc (hx:x=1) (hp:p=0) (hl:l=0\/l=1)
 |pass (hx:x=1) (hp:p=1) (hl:l=2) (h:(q=0/\e=0)\/(1<=q/\q<=B/\e=2))
 |Cw (hx:x=1) (hp:p=2) (hl:l=2) (hq:q=0) (he:e=1)
 |fst (hx:x=1) (hp:p=3) (hl:l=2) (hq:q=0) (he:e=2)
 |has (hx:x=2) (hp:p=0) (hl:l=2) (he:e=2) (q1:1<=q) (q2:q<=B)
 |u0 (hx:x=3) (hp:p=0) (hl:l=2) (he:e=2) (q1:1<=q) (q2:q<=B)
 |u1 (hx:x=3) (hp:p=1) (hl:l=4) (he:e=2) (q1:1<=q) (q2:q<B) (hg:g=q)
 |u2 (hx:x=3) (hp:p=2) (hl:l=2) (he:e=2) (q1:1<=q) (q2:q<B) (hg:g=q) (hv:v≠[])
 |u3 (hx:x=3) (hp:p=3) (hl:l=2) (he:e=2) (q1:1<=q) (q2:q<=B)
 |u4 (hx:x=3) (hp:p=4) (hl:l=2) (he:e=3) (hq:q=0)
 |u5 (hx:x=3) (hp:p=5) (hl:l=3) (h:(q=0/\e=0)\/(e=2/\1<=q/\q<=B/\v≠[]))
theorem Cx.far {B x p g l q e q' e':Int} {v v':List Nat} (h:Cx B x p g l q e v) (hz:l=0\/l=1):Cx B x p g l q' e' v':=by
 cases h with
 |idle hx hp hl=>exact .idle hx hp hl
 |loc hx hp hl=>exact .loc hx hp hl
 |pass hx hp hl=>omega
 |Cw hx hp hl=>omega
 |fst hx hp hl=>omega
 |has hx hp hl=>omega
 |u0 hx hp hl=>omega
 |u1 hx hp hl=>omega
 |u2 hx hp hl=>omega
 |u3 hx hp hl=>omega
 |u4 hx hp hl=>omega
 |u5 hx hp hl=>omega
theorem Cx.more {B x p g l q e:Int} {v v':List Nat} (h:Cx B x p g l q e v) (hv:v≠[]->v'≠[]):Cx B x p g l q e v':=by
 cases h with
 |idle hx hp hl=>exact .idle hx hp hl
 |loc hx hp hl=>exact .loc hx hp hl
 |pass hx hp hl h=>exact .pass hx hp hl h
 |Cw hx hp hl hq he=>exact .Cw hx hp hl hq he
 |fst hx hp hl hq he=>exact .fst hx hp hl hq he
 |has hx hp hl he q1 q2=>exact .has hx hp hl he q1 q2
 |u0 hx hp hl he q1 q2=>exact .u0 hx hp hl he q1 q2
 |u1 hx hp hl he q1 q2 hg=>exact .u1 hx hp hl he q1 q2 hg
 |u2 hx hp hl he q1 q2 hg hw=>exact .u2 hx hp hl he q1 q2 hg (hv hw)
 |u3 hx hp hl he q1 q2=>exact .u3 hx hp hl he q1 q2
 |u4 hx hp hl he hq=>exact .u4 hx hp hl he hq
 |u5 hx hp hl h=>exact .u5 hx hp hl (h.imp id λq=>⟨q.1,q.2.1,q.2.2.1,hv q.2.2.2⟩)
theorem Cx.iE {B x p g l q e:Int} {v:List Nat} (h:Cx B x p g l q e v):0<=l/\l<=4:=by cases h<;>omega
theorem Cx.two {B x p g l q e:Int} {v:List Nat} (h:Cx B x p g l q e v) (hx:x=2):l=2/\e=2/\1<=q/\q<=B:=by cases h<;>omega
structure Cor (n:Nat) (B:Int) (st ph got:Nat->Int) (nd own:Nat->Nat) (ls:Nat->Nat->Int) (H:Nat->Option Nat) (V:Nat->List Nat) (gs P:Nat->Int):Prop where
 K9:∀ t,t<n->nd t<8
 inj:∀ t u,t<n->u<n->nd t=nd u->own t=own u->t=u
 cx:∀ t,t<n->Cx B (st t) (ph t) (got t) (ls (nd t) (own t)) (P (nd t)) (gs (nd t)) (V (nd t))
 hold:∀ t,t<n->2<=ls (nd t) (own t)->H (nd t)=some (own t)
 held:∀ c j,H c=some j->2<=ls c j/\∃ t,t<n/\nd t=c/\own t=j
 eJ:∀ c,c<8->H c=none->(P c=0/\gs c=0)\/(1<=P c/\P c<=B/\gs c=2/\V c≠[])
namespace Cor
variable {n:Nat} {B:Int} {st ph got:Nat->Int} {nd own:Nat->Nat} {ls:Nat->Nat->Int} {H:Nat->Option Nat} {V:Nat->List Nat} {gs P:Nat->Int}
theorem put (h:Cor n B st ph got nd own ls H V gs P) {t:Nat} (ht:t<n) {st' iL got':Nat->Int} {Z8:Nat->Nat->Int} {H':Nat->Option Nat} {V':Nat->List Nat} {gs' P':Nat->Int}
  (e1:∀ u,u≠t->st' u=st u) (e2:∀ u,u≠t->iL u=ph u) (e3:∀ u,u≠t->got' u=got u)
  (e4:∀ c j,(c≠nd t\/j≠own t)->Z8 c j=ls c j) (e5:∀ c,c≠nd t->H' c=H c/\V' c=V c/\gs' c=gs c/\P' c=P c)
  (hoth:(P' (nd t)=P (nd t)/\gs' (nd t)=gs (nd t)/\(∀ j,H (nd t)=some j->V (nd t)≠[]->V' (nd t)≠[]))\/H (nd t)=some (own t))
  (Zw:Cx B (st' t) (iL t) (got' t) (Z8 (nd t) (own t)) (P' (nd t)) (gs' (nd t)) (V' (nd t)))
  (hH:(2<=Z8 (nd t) (own t)/\H' (nd t)=some (own t)/\(H (nd t)=none\/H (nd t)=some (own t)))\/(Z8 (nd t) (own t)<2/\H' (nd t)=none/\H (nd t)=some (own t))\/(Z8 (nd t) (own t)<2/\H' (nd t)=H (nd t)/\H (nd t)≠some (own t)))
  (gK:H' (nd t)=none->(P' (nd t)=0/\gs' (nd t)=0)\/(1<=P' (nd t)/\P' (nd t)<=B/\gs' (nd t)=2/\V' (nd t)≠[])):Cor n B st' iL got' nd own Z8 H' V' gs' P':=by
 refine ⟨h.K9,h.inj,λu hu=> ?_,λu hu hl=> ?_,λc j hc=> ?_,λc hc hn=> ?_⟩
 ·by_cases q:u=t
  ·subst q;exact Zw
  rw [e1 u q,e2 u q,e3 u q];by_cases qc:nd u=nd t
  ·have qo:own u≠own t:=λe=>q (h.inj u t hu ht qc e)
   rw [e4 _ _ (.inr qo)];have hx:=h.cx u hu;have hr:=hx.iE;by_cases hl:2<=ls (nd u) (own u)
   ·have hh:=h.hold u hu hl
    rcases hoth with ⟨a,b,c⟩|a
    ·rw [qc] at hx hh ⊢
     rw [a,b];exact hx.more (c _ hh)
    ·rw [qc,a] at hh
     exact absurd (Option.some.inj hh) λe=>qo e.symm
   ·exact hx.far (by omega)
  ·obtain ⟨a,b,c,d⟩:=e5 _ qc
   rw [e4 _ _ (.inl qc),b,c,d];exact h.cx u hu
 ·by_cases q:u=t
  ·subst q
   rcases hH with ⟨_,a,_⟩|⟨a,_⟩|⟨a,_⟩
   ·exact a
   ·omega
   ·omega
  by_cases qc:nd u=nd t
  ·have qo:own u≠own t:=λe=>q (h.inj u t hu ht qc e)
   rw [e4 _ _ (.inr qo)] at hl;have hh:=h.hold u hu hl;rw [qc] at hh ⊢;rcases hH with ⟨_,_,a|a⟩|⟨_,_,a⟩|⟨_,a,_⟩
   ·rw [hh] at a;cases a
   ·rw [hh] at a;exact absurd (Option.some.inj a) qo
   ·rw [hh] at a;exact absurd (Option.some.inj a) qo
   ·rw [a];exact hh
  ·rw [(e5 _ qc).1]
   rw [e4 _ _ (.inl qc)] at hl;exact h.hold u hu hl
 ·by_cases qc:c=nd t
  ·subst qc
   rcases hH with ⟨a,b,_⟩|⟨_,b,_⟩|⟨_,b,d⟩
   ·rw [b] at hc
    obtain rfl:=Option.some.inj hc;exact ⟨a,t,ht,rfl,rfl⟩
   ·rw [b] at hc;cases hc
   ·rw [b] at hc
    have hj:j≠own t:=λe=>d (by rw [hc,e]);rw [e4 _ _ (.inr hj)];exact h.held _ _ hc
  ·rw [(e5 _ qc).1] at hc
   rw [e4 _ _ (.inl qc)];exact h.held _ _ hc
 ·by_cases qc:c=nd t
  ·subst qc;exact gK hn
  ·obtain ⟨a,b,d,e⟩:=e5 _ qc
   rw [a] at hn;rw [b,d,e];exact h.eJ c hc hn
section
variable {t:Nat}
theorem Nv (h:Cor n B st ph got nd own ls H V gs P) (ht:t<n) {y p g:Int} (Zw:Cx B y p g (ls (nd t) (own t)) (P (nd t)) (gs (nd t)) (V (nd t))):
  Cor n B (upd st t y) (upd ph t p) (upd got t g) nd own ls H V gs P:=by
 refine h.put ht (λu q=>A0 _ _ q) (λu q=>A0 _ _ q) (λu q=>A0 _ _ q) (λ_ _ _=>rfl) (λ_ _=>⟨rfl,rfl,rfl,rfl⟩) (.inl ⟨rfl,rfl,λ_ _ q=>q⟩) (by rw [upd_same,upd_same,upd_same];exact Zw) ?_ (λq=>h.eJ _ (h.K9 t ht) q);by_cases hl:2<=ls (nd t) (own t)
 ·exact .inl ⟨hl,h.hold t ht hl,.inr (h.hold t ht hl)⟩
 ·refine .inr (.inr ⟨by omega,rfl,λq=> ?_⟩)
  have:=(h.held _ _ q).1;omega
theorem JT (h:Cor n B st ph got nd own ls H V gs P) (ht:t<n) (hl:2<=ls (nd t) (own t)) {y p g z w e:Int} (hz:2<=z) (Zw:Cx B y p g z w e (V (nd t))):
  Cor n B (upd st t y) (upd ph t p) (upd got t g) nd own (upd ls (nd t) (upd (ls (nd t)) (own t) z)) H V (upd gs (nd t) e) (upd P (nd t) w):=by
 have hh:=h.hold t ht hl;refine h.put ht (λu q=>A0 _ _ q) (λu q=>A0 _ _ q) (λu q=>A0 _ _ q) (λc j q=> ?_) (λc q=>⟨rfl,rfl,A0 _ _ q,A0 _ _ q⟩) (.inr hh) (by rw [upd_same,upd_same,upd_same,upd_same,upd_same,upd_same,upd_same];exact Zw) (.inl ⟨by rw [upd_same,upd_same];exact hz,hh,.inr hh⟩) (λq=>by rw [hh] at q;cases q);exact zz2i
theorem ask (h:Cor n B st ph got nd own ls H V gs P) (ht:t<n) (s1:st t=1) (p0:ph t=0) {v:List Nat} (hv:V (nd t)≠[]->v≠[]):
  Cor n B st ph got nd own (upd ls (nd t) (upd (ls (nd t)) (own t) 1)) H (upd V (nd t) v) gs P:=by
 have hl:¬ 2<=ls (nd t) (own t):=by have:=h.cx t ht;cases this<;>omega
 have hne:H (nd t)≠some (own t):=λq=>hl (h.held _ _ q).1;refine h.put ht (λu q=>rfl) (λu q=>rfl) (λu q=>rfl) (λc j q=> ?_) (λc q=>⟨rfl,A0 _ _ q,rfl,rfl⟩) (.inl ⟨rfl,rfl,λ_ _ q=>by rw [upd_same];exact hv q⟩) (by rw [upd_same,upd_same];exact .loc s1 p0 (.inr rfl)) (.inr (.inr ⟨by rw [upd_same,upd_same];decide,rfl,hne⟩)) (λq=> ?_)
 ·exact zz2i
 ·rw [upd_same]
  rcases h.eJ _ (h.K9 t ht) q with a|⟨a,b,c,d⟩
  ·exact .inl a
  ·exact .inr ⟨a,b,c,hv d⟩
theorem fT (h:Cor n B st ph got nd own ls H V gs P) (ht:t<n) (s1:st t=1) (hH:H (nd t)=none) (v:List Nat):
  Cor n B st (upd ph t 1) got nd own (upd ls (nd t) (upd (ls (nd t)) (own t) 2)) (upd H (nd t) (some (own t))) (upd V (nd t) v) gs P:=by
 refine h.put ht (λu q=>rfl) (λu q=>A0 _ _ q) (λu q=>rfl) (λc j q=> ?_) (λc q=>⟨A0 _ _ q,A0 _ _ q,rfl,rfl⟩) (.inl ⟨rfl,rfl,λj q=>by rw [hH] at q;cases q⟩) ?_ (.inl ⟨by rw [upd_same,upd_same];decide,by rw [upd_same],.inl hH⟩) (λq=>by rw [upd_same] at q;cases q)
 ·exact zz2i
 ·rw [upd_same,upd_same,upd_same,upd_same]
  refine .pass s1 rfl rfl ?_;rcases h.eJ _ (h.K9 t ht) hH with a|⟨a,b,c,_⟩
  ·exact .inl a
  ·exact .inr ⟨a,b,c⟩
theorem gone (h:Cor n B st ph got nd own ls H V gs P) (ht:t<n) (s3:st t=3) (p5:ph t=5):
  Cor n B (upd st t 0) (upd ph t 0) got nd own (upd ls (nd t) (upd (ls (nd t)) (own t) 0)) (upd H (nd t) none) V gs P:=by
 have hc:=h.cx t ht;have hl:ls (nd t) (own t)=3/\((P (nd t)=0/\gs (nd t)=0)\/(gs (nd t)=2/\1<=P (nd t)/\P (nd t)<=B/\V (nd t)≠[])):=by
  cases hc with
  |u5 hx hp hl h=>exact ⟨hl,h⟩
  |_=>omega
 have hh:=h.hold t ht (by omega);refine h.put ht (λu q=>A0 _ _ q) (λu q=>A0 _ _ q) (λu q=>rfl) (λc j q=> ?_) (λc q=>⟨A0 _ _ q,rfl,rfl,rfl⟩) (.inr hh) (by rw [upd_same,upd_same,upd_same,upd_same];exact .idle rfl rfl rfl) (.inr (.inl ⟨by rw [upd_same,upd_same];decide,by rw [upd_same],hh⟩)) (λ_=> ?_)
 ·exact zz2i
 ·rcases hl.2 with a|⟨a,b,c,d⟩
  ·exact .inl a
  ·exact .inr ⟨b,c,a,d⟩
end
theorem start {nd own:Nat->Nat} (n:Nat) (B:Int) (hn:∀ t,t<n->nd t<8) (hi:∀ t u,t<n->u<n->nd t=nd u->own t=own u->t=u):Cor n B (λ_=>0) (λ_=>0) (λ_=>0) nd own (λ_ _=>0) (λ_=>none) (λ_=>[]) (λ_=>0) (λ_=>0):=
 ⟨hn,hi,λt ht=> .idle rfl rfl rfl,λt ht hl=>by simp at hl,λc j hc=>(by cases hc),λc hc _=> .inl ⟨rfl,rfl⟩⟩
theorem one (h:Cor n B st ph got nd own ls H V gs P) (hg:∀ c d,c<8->d<8->gs c=2->gs d=2->c=d) {t u:Nat} (ht:t<n) (hu:u<n) (et:st t=2) (eu:st u=2):t=u:=by
 have ct:=(h.cx t ht).two et;have cu:=(h.cx u hu).two eu;have e:=hg (nd t) (nd u) (h.K9 t ht) (h.K9 u hu) (by omega) (by omega);have a:=h.hold t ht (by omega);have b:=h.hold u hu (by omega);rw [e,b] at a;exact h.inj t u ht hu e (Option.some.inj a).symm
end Cor
def wP (ps:AK) (c:Nat):Int:=if c<8 then ps.ws.getD c 0 else 0
theorem UE {ps q:AK} (h:sub q.ws 0 8=sub ps.ws 0 8):wP q=wP ps:=by
 funext c
 unfold wP;split
 ·rename_i hc
  have e:=congrArg (λl=>l.getD c 0) h
  try dsimp only at e
  rw [Jd hc,Jd hc,Nat.zero_add] at e;exact e
 ·rfl
theorem Ji {ps:AK} {u c:Nat} {w:Int} (hu:u<ps.ac.length) (hc:c<8) (hl:8<=ps.ws.length):wP (A5 ps u 2 ((0:Int)+c) 0 w)=upd (wP ps) c w:=by
 have e:=ME (ps:=ps) (o:=0) (n:=8) (m:=1) (v:=0) (i:=c) hu (by decide) hc (by omega) 2 0 w;have e2:sub (A5 ps u 2 ((0:Int)+c) 0 w).ws 0 8=(sub ps.ws 0 8).set c w:=by
  have ho:=(IP (ps:=ps) (o:=0) (n:=8) (m:=1) (v:=0) (i:=c) hu (by decide) hc (by omega)).1;unfold A5 Dg;rw [show (0:Int)+(c:Int)=((0:Nat):Int)+(c:Int) by omega,ho];rw [Qj (by decide)];dsimp only;unfold Gb;rw [Qj (.inl rfl)];exact G7 w |>.trans (by unfold BA;rw [Qj (by omega),Int.toNat_natCast])
 funext d
 unfold wP;by_cases hd:d<8
 ·rw [Qj hd]
  have e3:=congrArg (λl=>l.getD d 0) e2
  try dsimp only at e3
  rw [Jd hd,Nat.zero_add] at e3;rw [e3];by_cases q:d=c
  ·subst q
   rw [upd_same,List.getD_eq_getElem?_getD,List.getElem?_set,Qj rfl,Qj (by rw [G8 (by omega)];exact hd)];rfl
  ·rw [A0 _ _ q,List.getD_eq_getElem?_getD,List.getElem?_set,Qq (λf=>q f.symm),<-List.getD_eq_getElem?_getD,Jd hd,Nat.zero_add,Qj hd]
 ·rw [Qq hd,A0 _ _ (by omega),Qq hd]
structure OrdJ (f:FL) (ga:Nat) (la:Nat->Nat) (H:Nat->Option Nat) (V:Nat->List Nat) (gg:Option Nat) (Wg:List Nat):Prop where
 n8:f.s.n<=64
 np:f.s.Af=false
 CJ:1<=f.CJ/\f.CJ<=1000
 CM:f.ga=ga/\f.la=la
 ac:f.ps.ac.length=f.s.n
 own:∀ t,t<f.s.n->f.own t<(f.Lc (f.nd t)).s.n
 loc:∀ t,t<f.s.n->(f.lk (f.nd t)).At (la (f.nd t)) (H (f.nd t)) (V (f.nd t))
 Cw:f.gl.At ga gg Wg
 gn:f.G.s.n=8
 g8:8<=ga
 gl:∀ t,t<f.s.n->ga+f.G.size<=la (f.nd t)
 ll:∀ t u,t<f.s.n->u<f.s.n->f.nd t≠f.nd u->la (f.nd t)+(f.Lc (f.nd t)).size<=la (f.nd u)\/la (f.nd u)+(f.Lc (f.nd u)).size<=la (f.nd t)
 Ae:Cor f.s.n f.CJ f.s.st f.ph f.got f.nd f.own (λc=>(f.Lc c).s.st) H V f.G.s.st (wP f.ps)
namespace OrdJ
variable {f:FL} {ga:Nat} {la:Nat->Nat} {H:Nat->Option Nat} {V:Nat->List Nat} {gg:Option Nat} {Wg:List Nat}
theorem wl (h:OrdJ f ga la H V gg Wg):8<=f.ps.ws.length:=by
 have:=h.Cw.fits;unfold FL.gl at this;rw [Inn.Da] at this;have:=h.g8;omega
theorem Pw (h:OrdJ f ga la H V gg Wg) {q:AK} (hl:q.ws.length=f.ps.ws.length) (hs:∀ o' n',8<=o'->sub q.ws o' n'=sub f.ps.ws o' n'):
  (∀ t,t<f.s.n->((f.Lc (f.nd t)).on q).At (la (f.nd t)) (H (f.nd t)) (V (f.nd t)))/\(f.G.on q).At ga gg Wg:=by
 have g8:=h.g8;constructor
 ·intro t ht
  have:=h.gl t ht;have hf:=(h.loc t ht).far (q:=q) (by unfold FL.lk;rw [Inn.Da];exact hl) (by unfold FL.lk;rw [Inn.Da];exact hs _ _ (by omega));unfold FL.lk at hf
  rwa [Inn.Me] at hf
 ·have hf:=h.Cw.far (q:=q) (by unfold FL.gl;rw [Inn.Da];exact hl) (by unfold FL.gl;rw [Inn.Da];exact hs _ _ (by omega))
  unfold FL.gl at hf
  rwa [Inn.Me] at hf
theorem Px (h:OrdJ f ga la H V gg Wg) {t:Nat} (ht:t<f.s.n) {q:AK} (hl:q.ws.length=f.ps.ws.length) (hs:∀ o' n',la (f.nd t)+(f.Lc (f.nd t)).size<=o'\/o'+n'<=la (f.nd t)->sub q.ws o' n'=sub f.ps.ws o' n'):
  (∀ u,u<f.s.n->f.nd u≠f.nd t->((f.Lc (f.nd u)).on q).At (la (f.nd u)) (H (f.nd u)) (V (f.nd u)))/\(f.G.on q).At ga gg Wg/\wP q=wP f.ps:=by
 have g8:=h.g8;have g1:=h.gl t ht;refine ⟨λu hu hne=> ?_,?_,UE (hs 0 8 (by omega))⟩
 ·have hll:=h.ll u t hu ht hne
  have hf:=(h.loc u hu).far (q:=q) (by unfold FL.lk;rw [Inn.Da];exact hl) (by unfold FL.lk;rw [Inn.Da,Inn.FP];exact hs _ _ (by omega));unfold FL.lk at hf
  rwa [Inn.Me] at hf
 ·have hf:=h.Cw.far (q:=q) (by unfold FL.gl;rw [Inn.Da];exact hl) (by unfold FL.gl;rw [Inn.Da,Inn.FP];exact hs _ _ (by omega))
  unfold FL.gl at hf
  rwa [Inn.Me] at hf
theorem Xa (h:OrdJ f ga la H V gg Wg) {q:AK} (hl:q.ws.length=f.ps.ws.length) (hs:∀ o' n',ga+f.G.size<=o'\/o'+n'<=ga->sub q.ws o' n'=sub f.ps.ws o' n'):
  (∀ u,u<f.s.n->((f.Lc (f.nd u)).on q).At (la (f.nd u)) (H (f.nd u)) (V (f.nd u)))/\wP q=wP f.ps:=by
 have g8:=h.g8;refine ⟨λu hu=> ?_,UE (hs 0 8 (by omega))⟩;have g1:=h.gl u hu;have hf:=(h.loc u hu).far (q:=q) (by unfold FL.lk;rw [Inn.Da];exact hl) (by unfold FL.lk;rw [Inn.Da];exact hs _ _ (by omega));unfold FL.lk at hf
 rwa [Inn.Me] at hf
end OrdJ
namespace Inn
variable {x:Inn}
theorem Bz (t d:Int):(x.lock t d).s.n=x.s.n:=by rw [Hz];exact SS.Bz _ _ _
theorem Bu (t y:Int):(x.turn t y).s.n=x.s.n:=by rw [Fv];exact SS.Bu _ _ _
theorem Ck (a t u:Int):(x.step a t u).s.n=x.s.n:=by rw [DF];exact SS.Bv _ _ _
theorem K6 (t d:Int):(x.lock t d).size=x.size:=by
 have h:=x.Bz t d;exact zz4z
theorem KW (t y:Int):(x.turn t y).size=x.size:=by
 have h:=x.Bu t y;exact zz4z
theorem KS (a t u:Int):(x.step a t u).size=x.size:=by
 have h:=x.Ck a t u;exact zz4z
end Inn
theorem AZ {α:Type} (g:Nat->α) (k:Nat) {y:α} (h:g k=y):upd g k y=g:=by
 funext j
 by_cases e:j=k
 ·subst e;rw [upd_same,h]
 ·rw [A0 _ _ e]
theorem Dl {s:SS} {k:Nat} {ev:Int} (h:AH (s.st k) ev=none):s.fin k ev=s/\Gd s k ev=false:=by
 have e:Bo s k ev=none:=by
  unfold Bo;split
  ·rw [Int.toNat_natCast];exact h
  ·rfl
 unfold SS.fin Gd;rw [e];exact ⟨rfl,rfl⟩
theorem EL {s:SS} {k:Nat} {ev y:Int} (hk:k<s.n) (h:AH (s.st k) ev=some y):s.fin k ev=s.set k y 0/\Gd s k ev=true:=by
 have e:Bo s k ev=some y:=by unfold Bo;rw [Qj (by omega),Int.toNat_natCast,h]
 unfold SS.fin Gd;rw [e,Int.toNat_natCast];exact ⟨rfl,rfl⟩
theorem LX {s:SS} {k:Nat} (hk:k<s.n) (h0:s.st k=0):(s.lock (k:Nat) (-1)).st=upd s.st k 1:=by
 have e:BZ s (k:Nat) (-1)=0:=by
  unfold BZ;rw [Qj ⟨by omega,.inl rfl⟩,Int.toNat_natCast,Qj h0]
 unfold SS.lock;rw [Qj e,Int.toNat_natCast];rfl
theorem Ix {s:SS} {k:Nat} (hk:k<s.n) (h2:s.st k=2) (x:Int):(s.turn (k:Nat) x).st=upd s.st k x:=by
 have e:BR s (k:Nat)=0:=by
  unfold BR;rw [Qj (by omega),Int.toNat_natCast,Qq (by omega),Qj h2]
 unfold SS.turn;rw [Qj e,Int.toNat_natCast];rfl
theorem Qf.iff {s:SS} {g:Option Nat} {W:List Nat} (h:Qf s g W) (i:Nat):g=some i↔i<s.n/\2<=s.st i:=by
 constructor
 ·intro e
  have:=h.FZ i e;exact ⟨h.lt i (by rw [e];simp),by omega⟩
 ·rintro ⟨a,b⟩
  by_cases hm:i∈g.toList++W
  ·rcases List.mem_append.1 hm with hm|hm
   ·simpa using hm
   ·have:=h.EN i hm;omega
  ·have:=h.FB i a hm;omega
theorem Qf.same {s s':SS} {g g':Option Nat} {W W':List Nat} (h:Qf s g W) (h':Qf s' g' W') (hn:s'.n=s.n) (hs:∀ i,i<s.n->(2<=s'.st i↔2<=s.st i)):g'=g:=by
 cases e:g with
 |none=>
  cases e':g' with
  |none=>rfl
  |some i=>
   obtain ⟨a,b⟩:=(h'.iff i).1 e';have:=(h.iff i).2 ⟨by omega,(hs i (by omega)).1 b⟩;rw [e] at this;cases this
 |some i=>
  obtain ⟨a,b⟩:=(h.iff i).1 e;exact (h'.iff i).2 ⟨by omega,(hs i a).2 b⟩
theorem Er {g:Nat->Inn} {c:Nat} {x:Inn}:(λd=>((upd g c x) d).s.st)=upd (λd=>(g d).s.st) c x.s.st:=by
 funext d
 by_cases e:d=c
 ·subst e;rw [upd_same,upd_same]
 ·rw [A0 _ _ e,A0 _ _ e]
namespace OrdJ
variable {f:FL} {L:Lp} {ga:Nat} {la:Nat->Nat} {H:Nat->Option Nat} {V:Nat->List Nat} {gg:Option Nat} {Wg:List Nat}
theorem at_one {k:Nat} {u:Int} (hk:k<f.s.n) (s1:f.s.st k=1):f.did L k u=f.A7 L k u/\f.mid L k u=f.acq L k u:=by
 have ht:(0:Int)<=(k:Int)/\(k:Int)<f.s.n:=by omega
 unfold FL.did FL.mid;rw [Qj ht,Qj ht,Int.toNat_natCast,Qj s1,Qj s1];exact ⟨rfl,rfl⟩
theorem B6 {k:Nat} {u:Int} (hk:k<f.s.n) (s3:f.s.st k=3):f.did L k u=f.AX L k u/\f.mid L k u=f.rel L k u:=by
 have ht:(0:Int)<=(k:Int)/\(k:Int)<f.s.n:=by omega
 unfold FL.did FL.mid;have n1:¬ f.s.st k=1:=by omega
 rw [Qj ht,Qj ht,Int.toNat_natCast,Qq n1,Qj s3,Qq n1,Qj s3];exact ⟨rfl,rfl⟩
theorem Bg {k:Nat} {u:Int} {ev:Int} {m:FL} (ed:(f.did L k u).ev=ev) (em:f.mid L k u=m) (hb:AH (f.s.st k) ev=none):f.step L k u={m with s:=f.s}:=by
 obtain ⟨a,b⟩:=Dl hb;unfold FL.step;rw [ed,em,a,b];rfl
theorem F7 {k:Nat} {u:Int} {ev y:Int} {m:FL} (hk:k<f.s.n) (ed:(f.did L k u).ev=ev) (em:f.mid L k u=m) (hb:AH (f.s.st k) ev=some y):f.step L k u={m with s:=f.s.set k y 0,ph:=upd m.ph k 0}:=by
 obtain ⟨a,b⟩:=EL hk hb;unfold FL.step;rw [ed,em,a,b,Int.toNat_natCast];rfl
theorem keep (h:OrdJ f ga la H V gg Wg) {f':FL} {H':Nat->Option Nat} {V':Nat->List Nat} {RS:Option Nat} {Rf:List Nat} (hn:f'.s.n=f.s.n) (hp:f'.s.Af=f.s.Af) (hb:f'.CJ=f.CJ) (Xn:f'.nd=f.nd/\f'.ga=f.ga/\f'.la=f.la) (how:f'.own=f.own) (CY:f'.ps.ac.length=f.ps.ac.length)
  (hL:∀ c,(f'.Lc c).s.n=(f.Lc c).s.n/\(f'.Lc c).size=(f.Lc c).size) (hG:f'.G.s.n=f.G.s.n/\f'.G.size=f.G.size) (hloc:∀ t,t<f.s.n->((f'.Lc (f.nd t)).on f'.ps).At (la (f.nd t)) (H' (f.nd t)) (V' (f.nd t))) (g_:(f'.G.on f'.ps).At ga RS Rf)
  (QJ:Cor f.s.n f.CJ f'.s.st f'.ph f'.got f.nd f.own (λc=>(f'.Lc c).s.st) H' V' f'.G.s.st (wP f'.ps)):OrdJ f' ga la H' V' RS Rf:=by
 have hnd:=Xn.1;refine ⟨by rw [hn];exact h.n8,by rw [hp];exact h.np,by rw [hb];exact h.CJ,by rw [Xn.2.1,Xn.2.2];exact h.CM,by rw [CY,hn];exact h.ac,λt ht=> ?_,λt ht=> ?_,g_,by rw [hG.1];exact h.gn,h.g8,λt ht=> ?_,λt u ht hu=> ?_,?_⟩
 ·rw [how,hnd,(hL _).1];exact h.own t (by omega)
 ·unfold FL.lk;rw [hnd];exact hloc t (by omega)
 ·rw [hG.2,hnd];exact h.gl t (by omega)
 ·rw [hnd,(hL _).2,(hL _).2];exact h.ll t u (by omega) (by omega)
 ·rw [hn,hb,hnd,how];exact QJ
theorem G9 (h:OrdJ f ga la H V gg Wg) (h1:L.a1=0) {c u:Nat} (hc:c<8) (hu:u<f.ps.ac.length):A6 f.ps u 1 (L.pA c)=wP f.ps c:=by
 have hw:=h.wl;have e:=Ep (ps:=f.ps) (o:=0) (n:=8) (m:=1) (v:=0) (i:=c) hu (by decide) hc (by omega) 1;have ho:=(IP (ps:=f.ps) (o:=0) (n:=8) (m:=1) (v:=0) (i:=c) hu (by decide) hc (by omega)).1;unfold Lp.pA;rw [h1,show (0:Int)+(c:Int)=((0:Nat):Int)+(c:Int) by omega];unfold A6 Dg;rw [ho,Qj (by decide)];unfold CR wP;rw [Qj (.inl rfl),Qj hc,show ((0:Nat):Int)+(c:Int)=(c:Int) by omega,DW]
theorem F_ (h1:L.a1=0) {c:Nat} (hc:c<8) (u:Nat) (K old x:Int):∀ o' n',8<=o'->sub (A5 f.ps u K (L.pA c) old x).ws o' n'=sub f.ps.ws o' n':=λo' n' ho=>by
 unfold Lp.pA;rw [h1,show (0:Int)+(c:Int)=((0:Nat):Int)+(c:Int) by omega];exact L5 K old x (by omega)
theorem G5 (h1:L.a1=0) {c:Nat} (u:Nat):wP (A5 f.ps u 1 (L.pA c) 0 0)=wP f.ps:=by
 unfold wP A5;split
 ·rfl
 ·rfl
theorem YT (h:OrdJ f ga la H V gg Wg) (h1:L.a1=0) {k u:Nat} (hk:k<f.s.n) (hu:u<f.ps.ac.length) (s1:f.s.st k=1) (p1:f.ph k=1) (hw:wP f.ps (f.nd k)≠0):
  f.did L k u=⟨1,false,false,false⟩/\OrdJ (f.step L k u) ga la H V gg Wg/\(f.step L k u).s=f.s.set k 2 0/\(f.step L k u).ph=upd f.ph k 0:=by
 have hc:=h.Ae.K9 k hk;have et:=h.G9 h1 hc hu;obtain ⟨ed,em⟩:=at_one (L:=L) (u:=u) hk s1;have Es:f.did L k u=⟨1,false,false,false⟩:=by rw [ed];unfold FL.A7;rw [Qq (by omega),Qj p1,Qq (by rw [et];exact hw)]
 have Hh:f.mid L k u={f with ps:=A5 f.ps u 1 (L.pA (f.nd k)) 0 0}:=by rw [em];unfold FL.acq;rw [Qq (by omega),Qj p1,Qq (by rw [et];exact hw)]
 have es:=F7 (L:=L) (u:=(u:Int)) hk (by rw [Es]) Hh (by rw [s1];rfl:AH (f.s.st k) 1=some 2);refine ⟨Es,?_,by rw [es],by rw [es]⟩;rw [es];obtain ⟨fl,fg⟩:=h.Pw (q:=A5 f.ps u 1 (L.pA (f.nd k)) 0 0) (CX _ _ _ _ _ _).1 (F_ h1 hc u 1 0 0);refine h.keep rfl rfl rfl ⟨rfl,rfl,rfl⟩ rfl (CX _ _ _ _ _ _).2 (λ_=>⟨rfl,rfl⟩) ⟨rfl,rfl⟩ fl fg ?_;show Cor f.s.n f.CJ (upd f.s.st k 2) (upd f.ph k 0) f.got f.nd f.own _ H V f.G.s.st (wP (A5 f.ps u 1 (L.pA (f.nd k)) 0 0));rw [G5 h1];have hx:=h.Ae.cx k hk;have:=h.Ae.Nv (t:=k) hk (y:=2) (p:=0) (g:=f.got k) (by
  cases hx with
  |pass hx hp hl q=>
   rcases q with ⟨q,_⟩|⟨q1,q2,q3⟩
   ·exact absurd q hw
   ·exact .has rfl rfl hl q3 q1 q2
  |_=>omega)
 rw [AZ f.got k rfl] at this;exact this
theorem YU (h:OrdJ f ga la H V gg Wg) (h1:L.a1=0) {k u:Nat} (hk:k<f.s.n) (hu:u<f.ps.ac.length) (s1:f.s.st k=1) (p1:f.ph k=1) (hw:wP f.ps (f.nd k)=0):
  f.did L k u=Dd.no/\OrdJ (f.step L k u) ga la H V gg Wg/\(f.step L k u).s=f.s/\(f.step L k u).ph=upd f.ph k 2:=by
 have hc:=h.Ae.K9 k hk;have et:=h.G9 h1 hc hu;obtain ⟨ed,em⟩:=at_one (L:=L) (u:=u) hk s1;have Es:f.did L k u=Dd.no:=by rw [ed];unfold FL.A7;rw [Qq (by omega),Qj p1,Qj (by rw [et];exact hw)]
 have Hh:f.mid L k u={f with ph:=upd f.ph k 2,G:=f.G.lock (f.nd k:Nat) (-1),ps:=A5 f.ps u 1 (L.pA (f.nd k)) 0 0}:=by rw [em];unfold FL.acq;rw [Qq (by omega),Qj p1,Qj (by rw [et];exact hw)]
 have es:=Bg (L:=L) (u:=(u:Int)) (k:=k) (by rw [Es];rfl:(f.did L k u).ev=0) Hh (by rw [s1];rfl);have hx:=h.Ae.cx k hk;obtain ⟨hl,hq⟩:(f.Lc (f.nd k)).s.st (f.own k)=2/\f.G.s.st (f.nd k)=0:=by
  cases hx with
  |pass hx hp hl q=>exact ⟨hl,by omega⟩
  |_=>omega
 refine ⟨Es,?_,by rw [es],by rw [es]⟩;rw [es];obtain ⟨fl,fg⟩:=h.Pw (q:=A5 f.ps u 1 (L.pA (f.nd k)) 0 0) (CX _ _ _ _ _ _).1 (F_ h1 hc u 1 0 0);refine h.keep rfl rfl rfl ⟨rfl,rfl,rfl⟩ rfl (CX _ _ _ _ _ _).2 (λ_=>⟨rfl,rfl⟩) ⟨Inn.Bz _ _,Inn.K6 _ _⟩ fl (by show ((f.G.lock _ _).on _).At _ _ _;rw [Inn.P6];exact fg.lock _ _) ?_;show Cor f.s.n f.CJ f.s.st (upd f.ph k 2) f.got f.nd f.own _ H V (f.G.lock (f.nd k:Nat) (-1)).s.st (wP (A5 f.ps u 1 (L.pA (f.nd k)) 0 0));rw [G5 h1,Inn.Hz,LX (by rw [h.gn];exact hc) hq];have:=h.Ae.JT (t:=k) hk (by show 2<=(f.Lc (f.nd k)).s.st (f.own k);omega) (y:=f.s.st k) (p:=2) (g:=f.got k) (z:=(f.Lc (f.nd k)).s.st (f.own k)) (w:=wP f.ps (f.nd k)) (e:=1) (by omega) (.Cw s1 rfl hl hw rfl);exact zz4o
theorem dK (h:OrdJ f ga la H V gg Wg) (h1:L.a1=0) {k u:Nat} (hk:k<f.s.n) (hu:u<f.ps.ac.length) (s1:f.s.st k=1) (p3:f.ph k=3):
  f.did L k u=⟨1,false,false,true⟩/\OrdJ (f.step L k u) ga la H V gg Wg/\(f.step L k u).s=f.s.set k 2 0/\(f.step L k u).ph=upd f.ph k 0:=by
 have hc:=h.Ae.K9 k hk;obtain ⟨ed,em⟩:=at_one (L:=L) (u:=u) hk s1;have Es:f.did L k u=⟨1,false,false,true⟩:=by rw [ed];unfold FL.A7;rw [Qq (by omega),Qq (by omega),Qq (by omega)]
 have Hh:f.mid L k u={f with ps:=A5 f.ps u 2 (L.pA (f.nd k)) 0 1}:=by rw [em];unfold FL.acq;rw [Qq (by omega),Qq (by omega),Qq (by omega)]
 have es:=F7 (L:=L) (u:=(u:Int)) hk (by rw [Es]) Hh (by rw [s1];rfl:AH (f.s.st k) 1=some 2);have hx:=h.Ae.cx k hk;have hB:=h.CJ;obtain ⟨hl,hq⟩:(f.Lc (f.nd k)).s.st (f.own k)=2/\f.G.s.st (f.nd k)=2:=by
  cases hx with
  |fst hx hp hl q e=>exact ⟨hl,e⟩
  |_=>omega
 refine ⟨Es,?_,by rw [es],by rw [es]⟩;rw [es];obtain ⟨fl,fg⟩:=h.Pw (q:=A5 f.ps u 2 (L.pA (f.nd k)) 0 1) (CX _ _ _ _ _ _).1 (F_ h1 hc u 2 0 1);refine h.keep rfl rfl rfl ⟨rfl,rfl,rfl⟩ rfl (CX _ _ _ _ _ _).2 (λ_=>⟨rfl,rfl⟩) ⟨rfl,rfl⟩ fl fg ?_;show Cor f.s.n f.CJ (upd f.s.st k 2) (upd f.ph k 0) f.got f.nd f.own _ H V f.G.s.st (wP (A5 f.ps u 2 (L.pA (f.nd k)) 0 1));have ew:wP (A5 f.ps u 2 (L.pA (f.nd k)) 0 1)=upd (wP f.ps) (f.nd k) 1:=by unfold Lp.pA;rw [h1];exact Ji hu hc h.wl
 rw [ew];have:=h.Ae.JT (t:=k) hk (by show 2<=(f.Lc (f.nd k)).s.st (f.own k);omega) (y:=2) (p:=0) (g:=f.got k) (z:=(f.Lc (f.nd k)).s.st (f.own k)) (w:=1) (e:=f.G.s.st (f.nd k)) (by omega) (.has rfl rfl hl hq (by decide) (by omega));rw [AZ f.got k rfl,AZ f.G.s.st _ rfl,AZ ((f.Lc (f.nd k)).s.st) _ rfl,AZ (λc=>(f.Lc c).s.st) _ rfl] at this;exact this
theorem LW {q:AK} {k:Nat} {x:Inn} {h':Option Nat} {v':List Nat} (hx:(x.on q).At (la (f.nd k)) h' v') (hf:∀ u,u<f.s.n->f.nd u≠f.nd k->((f.Lc (f.nd u)).on q).At (la (f.nd u)) (H (f.nd u)) (V (f.nd u))):
  ∀ t,t<f.s.n->((upd f.Lc (f.nd k) x (f.nd t)).on q).At (la (f.nd t)) (upd H (f.nd k) h' (f.nd t)) (upd V (f.nd k) v' (f.nd t)):=by
 intro t ht;by_cases e:f.nd t=f.nd k
 ·rw [e,upd_same,upd_same,upd_same];exact hx
 ·rw [A0 _ _ e,A0 _ _ e,A0 _ _ e];exact hf t ht e
theorem KD (h:OrdJ f ga la H V gg Wg) (h1:L.a1=0) {k u:Nat} (hk:k<f.s.n) (K old w x:Int) (hx:x=3\/x=4):
  (∀ t,t<f.s.n->((upd f.Lc (f.nd k) ((f.Lc (f.nd k)).turn (f.own k:Nat) x) (f.nd t)).on (A5 f.ps u K (L.pA (f.nd k)) old w)).At (la (f.nd t)) (H (f.nd t)) (V (f.nd t)))/\(f.G.on (A5 f.ps u K (L.pA (f.nd k)) old w)).At ga gg Wg:=by
 have hc:=h.Ae.K9 k hk;obtain ⟨fl,fg⟩:=h.Pw (q:=A5 f.ps u K (L.pA (f.nd k)) old w) (CX _ _ _ _ _ _).1 (F_ h1 hc u K old w);refine ⟨?_,fg⟩;have:=LW (f:=f) (k:=k) (H:=H) (V:=V) (la:=la) (q:=A5 f.ps u K (L.pA (f.nd k)) old w) (x:=(f.Lc (f.nd k)).turn (f.own k:Nat) x) (h':=H (f.nd k)) (v':=V (f.nd k)) (by rw [Inn.Lr];exact (fl k hk).turn _ _ hx) (λu hu _=>fl u hu);rw [AZ H _ rfl,AZ V _ rfl] at this;exact this
theorem Lq (c:Nat) (j:Nat) (x:Int):∀ d,(upd f.Lc c ((f.Lc c).turn (j:Nat) x) d).s.n=(f.Lc d).s.n/\(upd f.Lc c ((f.Lc c).turn (j:Nat) x) d).size=(f.Lc d).size:=λd=>by
 by_cases e:d=c
 ·subst e;rw [upd_same];exact ⟨Inn.Bu _ _,Inn.KW _ _⟩
 ·rw [A0 _ _ e];exact ⟨rfl,rfl⟩
theorem YV (h:OrdJ f ga la H V gg Wg) (h1:L.a1=0) {k u:Nat} (hk:k<f.s.n) (hu:u<f.ps.ac.length) (s3:f.s.st k=3) (p0:f.ph k=0) (hw:wP f.ps (f.nd k)<f.CJ):
  f.did L k u=Dd.no/\OrdJ (f.step L k u) ga la H V gg Wg/\(f.step L k u).s=f.s/\(f.step L k u).ph=upd f.ph k 1:=by
 have hc:=h.Ae.K9 k hk;have et:=h.G9 h1 hc hu;obtain ⟨ed,em⟩:=B6 (L:=L) (u:=u) hk s3;have Es:f.did L k u=Dd.no:=by rw [ed];unfold FL.AX;rw [Qj p0]
 have Hh:f.mid L k u={f with got:=upd f.got k (wP f.ps (f.nd k)),ph:=upd f.ph k 1,Lc:=upd f.Lc (f.nd k) ((f.Lc (f.nd k)).turn (f.own k:Nat) 4),ps:=A5 f.ps u 1 (L.pA (f.nd k)) 0 0}:=by rw [em];unfold FL.rel;rw [Qj p0,et,Qj hw]
 have es:=Bg (L:=L) (u:=(u:Int)) (k:=k) (by rw [Es];rfl:(f.did L k u).ev=0) Hh (by rw [s3];rfl);have hx:=h.Ae.cx k hk;obtain ⟨hl,hq,q1⟩:(f.Lc (f.nd k)).s.st (f.own k)=2/\f.G.s.st (f.nd k)=2/\1<=wP f.ps (f.nd k):=by
  cases hx with
  |u0 hx hp hl e q1 q2=>exact ⟨hl,e,q1⟩
  |_=>omega
 refine ⟨Es,?_,by rw [es],by rw [es]⟩;rw [es];obtain ⟨fl,fg⟩:=h.KD (u:=u) h1 hk 1 0 0 4 (.inr rfl);refine h.keep rfl rfl rfl ⟨rfl,rfl,rfl⟩ rfl (CX _ _ _ _ _ _).2 (Lq _ _ _) ⟨rfl,rfl⟩ fl fg ?_;show Cor f.s.n f.CJ f.s.st (upd f.ph k 1) (upd f.got k (wP f.ps (f.nd k))) f.nd f.own (λc=>(upd f.Lc (f.nd k) _ c).s.st) H V f.G.s.st (wP (A5 f.ps u 1 (L.pA (f.nd k)) 0 0));rw [G5 h1,Er,Inn.Fv,Ix (h.own k hk) hl];have:=h.Ae.JT (t:=k) hk (by show 2<=(f.Lc (f.nd k)).s.st (f.own k);omega) (y:=f.s.st k) (p:=1) (g:=wP f.ps (f.nd k)) (z:=4) (w:=wP f.ps (f.nd k)) (e:=f.G.s.st (f.nd k)) (by decide) (.u1 s3 rfl rfl hq q1 hw rfl);rw [AZ f.s.st k rfl,AZ (wP f.ps) _ rfl,AZ f.G.s.st _ rfl] at this;exact this
theorem YW (h:OrdJ f ga la H V gg Wg) (h1:L.a1=0) {k u:Nat} (hk:k<f.s.n) (hu:u<f.ps.ac.length) (s3:f.s.st k=3) (p0:f.ph k=0) (hw:¬ wP f.ps (f.nd k)<f.CJ):
  f.did L k u=Dd.no/\OrdJ (f.step L k u) ga la H V gg Wg/\(f.step L k u).s=f.s/\(f.step L k u).ph=upd f.ph k 3:=by
 have hc:=h.Ae.K9 k hk;have et:=h.G9 h1 hc hu;obtain ⟨ed,em⟩:=B6 (L:=L) (u:=u) hk s3;have Es:f.did L k u=Dd.no:=by rw [ed];unfold FL.AX;rw [Qj p0]
 have Hh:f.mid L k u={f with got:=upd f.got k (wP f.ps (f.nd k)),ph:=upd f.ph k 3,ps:=A5 f.ps u 1 (L.pA (f.nd k)) 0 0}:=by rw [em];unfold FL.rel;rw [Qj p0,et,Qq hw]
 have es:=Bg (L:=L) (u:=(u:Int)) (k:=k) (by rw [Es];rfl:(f.did L k u).ev=0) Hh (by rw [s3];rfl);have hx:=h.Ae.cx k hk;refine ⟨Es,?_,by rw [es],by rw [es]⟩;rw [es];obtain ⟨fl,fg⟩:=h.Pw (q:=A5 f.ps u 1 (L.pA (f.nd k)) 0 0) (CX _ _ _ _ _ _).1 (F_ h1 hc u 1 0 0);refine h.keep rfl rfl rfl ⟨rfl,rfl,rfl⟩ rfl (CX _ _ _ _ _ _).2 (λ_=>⟨rfl,rfl⟩) ⟨rfl,rfl⟩ fl fg ?_;show Cor f.s.n f.CJ f.s.st (upd f.ph k 3) (upd f.got k (wP f.ps (f.nd k))) f.nd f.own _ H V f.G.s.st (wP (A5 f.ps u 1 (L.pA (f.nd k)) 0 0));rw [G5 h1];have:=h.Ae.Nv (t:=k) hk (y:=f.s.st k) (p:=3) (g:=wP f.ps (f.nd k)) (by
  cases hx with
  |u0 hx hp hl e q1 q2=>exact .u3 s3 rfl hl e q1 q2
  |_=>omega)
 rw [AZ f.s.st k rfl] at this;exact this
theorem dM (h:OrdJ f ga la H V gg Wg) (h1:L.a1=0) {k u:Nat} (hk:k<f.s.n) (hu:u<f.ps.ac.length) (s3:f.s.st k=3) (p2:f.ph k=2):
  f.did L k u=Dd.no/\OrdJ (f.step L k u) ga la H V gg Wg/\(f.step L k u).s=f.s/\(f.step L k u).ph=upd f.ph k 5:=by
 have hc:=h.Ae.K9 k hk;obtain ⟨ed,em⟩:=B6 (L:=L) (u:=u) hk s3;have Es:f.did L k u=Dd.no:=by rw [ed];unfold FL.AX;rw [Qq (by omega),Qq (by omega),Qj p2]
 have Hh:f.mid L k u={f with Lc:=upd f.Lc (f.nd k) ((f.Lc (f.nd k)).turn (f.own k:Nat) 3),ph:=upd f.ph k 5,ps:=A5 f.ps u 2 (L.pA (f.nd k)) 0 (f.got k+1)}:=by rw [em];unfold FL.rel;rw [Qq (by omega),Qq (by omega),Qj p2]
 have es:=Bg (L:=L) (u:=(u:Int)) (k:=k) (by rw [Es];rfl:(f.did L k u).ev=0) Hh (by rw [s3];rfl);have hx:=h.Ae.cx k hk;obtain ⟨hl,hq,q1,q2,hv⟩:(f.Lc (f.nd k)).s.st (f.own k)=2/\f.G.s.st (f.nd k)=2/\1<=f.got k/\f.got k<f.CJ/\V (f.nd k)≠[]:=by
  cases hx with
  |u2 hx hp hl e q1 q2 hg hv=>exact ⟨hl,e,by omega,by omega,hv⟩
  |_=>omega
 refine ⟨Es,?_,by rw [es],by rw [es]⟩;rw [es];obtain ⟨fl,fg⟩:=h.KD (u:=u) h1 hk 2 0 (f.got k+1) 3 (.inl rfl);refine h.keep rfl rfl rfl ⟨rfl,rfl,rfl⟩ rfl (CX _ _ _ _ _ _).2 (Lq _ _ _) ⟨rfl,rfl⟩ fl fg ?_;show Cor f.s.n f.CJ f.s.st (upd f.ph k 5) f.got f.nd f.own (λc=>(upd f.Lc (f.nd k) _ c).s.st) H V f.G.s.st (wP (A5 f.ps u 2 (L.pA (f.nd k)) 0 (f.got k+1)));have ew:wP (A5 f.ps u 2 (L.pA (f.nd k)) 0 (f.got k+1))=upd (wP f.ps) (f.nd k) (f.got k+1):=by unfold Lp.pA;rw [h1];exact Ji hu hc h.wl
 rw [ew,Er,Inn.Fv,Ix (h.own k hk) hl];have:=h.Ae.JT (t:=k) hk (by show 2<=(f.Lc (f.nd k)).s.st (f.own k);omega) (y:=f.s.st k) (p:=5) (g:=f.got k) (z:=3) (w:=f.got k+1) (e:=f.G.s.st (f.nd k)) (by decide) (.u5 s3 rfl rfl (.inr ⟨hq,by omega,by omega,hv⟩));rw [AZ f.s.st k rfl,AZ f.got k rfl,AZ f.G.s.st _ rfl] at this;exact this
theorem dO (h:OrdJ f ga la H V gg Wg) (h1:L.a1=0) {k u:Nat} (hk:k<f.s.n) (hu:u<f.ps.ac.length) (s3:f.s.st k=3) (p3:f.ph k=3):
  f.did L k u=Dd.no/\OrdJ (f.step L k u) ga la H V gg Wg/\(f.step L k u).s=f.s/\(f.step L k u).ph=upd f.ph k 4:=by
 have hc:=h.Ae.K9 k hk;obtain ⟨ed,em⟩:=B6 (L:=L) (u:=u) hk s3;have Es:f.did L k u=Dd.no:=by rw [ed];unfold FL.AX;rw [Qq (by omega),Qq (by omega),Qq (by omega),Qj p3]
 have Hh:f.mid L k u={f with G:=f.G.turn (f.nd k:Nat) 3,ph:=upd f.ph k 4,ps:=A5 f.ps u 2 (L.pA (f.nd k)) 0 0}:=by rw [em];unfold FL.rel;rw [Qq (by omega),Qq (by omega),Qq (by omega),Qj p3]
 have es:=Bg (L:=L) (u:=(u:Int)) (k:=k) (by rw [Es];rfl:(f.did L k u).ev=0) Hh (by rw [s3];rfl);have hx:=h.Ae.cx k hk;obtain ⟨hl,hq⟩:(f.Lc (f.nd k)).s.st (f.own k)=2/\f.G.s.st (f.nd k)=2:=by
  cases hx with
  |u3 hx hp hl e q1 q2=>exact ⟨hl,e⟩
  |_=>omega
 refine ⟨Es,?_,by rw [es],by rw [es]⟩;rw [es];obtain ⟨fl,fg⟩:=h.Pw (q:=A5 f.ps u 2 (L.pA (f.nd k)) 0 0) (CX _ _ _ _ _ _).1 (F_ h1 hc u 2 0 0);refine h.keep rfl rfl rfl ⟨rfl,rfl,rfl⟩ rfl (CX _ _ _ _ _ _).2 (λ_=>⟨rfl,rfl⟩) ⟨Inn.Bu _ _,Inn.KW _ _⟩ fl (by show ((f.G.turn _ _).on _).At _ _ _;rw [Inn.Lr];exact fg.turn _ _ (.inl rfl)) ?_;show Cor f.s.n f.CJ f.s.st (upd f.ph k 4) f.got f.nd f.own _ H V (f.G.turn (f.nd k:Nat) 3).s.st (wP (A5 f.ps u 2 (L.pA (f.nd k)) 0 0));have ew:wP (A5 f.ps u 2 (L.pA (f.nd k)) 0 0)=upd (wP f.ps) (f.nd k) 0:=by unfold Lp.pA;rw [h1];exact Ji hu hc h.wl
 rw [ew,Inn.Fv,Ix (by rw [h.gn];exact hc) hq];have:=h.Ae.JT (t:=k) hk (by show 2<=(f.Lc (f.nd k)).s.st (f.own k);omega) (y:=f.s.st k) (p:=4) (g:=f.got k) (z:=(f.Lc (f.nd k)).s.st (f.own k)) (w:=0) (e:=3) (by omega) (.u4 s3 rfl hl rfl rfl);rw [AZ f.s.st k rfl,AZ f.got k rfl,AZ ((f.Lc (f.nd k)).s.st) _ rfl,AZ (λc=>(f.Lc c).s.st) _ rfl] at this;exact this
end OrdJ
namespace OrdJ
variable {f:FL} {L:Lp} {ga:Nat} {la:Nat->Nat} {H:Nat->Option Nat} {V:Nat->List Nat} {gg:Option Nat} {Wg:List Nat}
theorem MM (h:OrdJ f ga la H V gg Wg) {c u:Nat} (hc:c<8) (hu:u<f.ps.ac.length):
  ∃ g' W',((f.gl.step ga c u).on (f.gl.step ga c u).ps).At ga g' W'/\RP Wg c (f.gl.did ga c u) W'/\(∀ t,t<f.s.n->((f.Lc (f.nd t)).on (f.gl.step ga c u).ps).At (la (f.nd t)) (H (f.nd t)) (V (f.nd t)))/\wP (f.gl.step ga c u).ps=wP f.ps/\(f.gl.step ga c u).ps.ac.length=f.ps.ac.length/\
   ((f.gl.step ga c u).s.n=f.G.s.n/\(f.gl.step ga c u).size=f.G.size)/\(f.gl.step ga c u).s=f.G.s.fin c (f.gl.did ga c u).ev:=by
 have es:f.gl.s=f.G.s:=Inn.JR _;have ep:f.gl.ps=f.ps:=Inn.Da _;have ez:f.gl.size=f.G.size:=Inn.FP _;obtain ⟨g',W',a,b,d⟩:=h.Cw.step (k:=c) (u:=u) (by rw [es,h.gn];exact hc) (by rw [ep];exact hu);have hl:=Inn.Cj (x:=f.gl) (ga:Int) (c:Int) (u:Int);rw [ep] at hl d;rw [ez] at d;obtain ⟨q1,q2⟩:=h.Xa hl.1 d;exact ⟨g',W',by rw [Inn.PE];exact a,b,q1,q2,hl.2,⟨by rw [Inn.Ck,es],by rw [Inn.KS,ez]⟩,by rw [Inn.DF,es]⟩
theorem dJ (h:OrdJ f ga la H V gg Wg) {k u:Nat} (hk:k<f.s.n) (hu:u<f.ps.ac.length) (s1:f.s.st k=1) (p2:f.ph k=2):
  ∃ RS Rf,f.did L k u=⟨0,false,(f.gl.did ga (f.nd k:Nat) u).BW,false⟩/\OrdJ (f.step L k u) ga la H V RS Rf/\RP Wg (f.nd k) (f.gl.did ga (f.nd k:Nat) u) Rf/\(f.step L k u).s=f.s/\(f.step L k u).ph=upd f.ph k (2+(f.gl.did ga (f.nd k:Nat) u).ev)/\((f.gl.did ga (f.nd k:Nat) u).ev=0\/(f.gl.did ga (f.nd k:Nat) u).ev=1):=by
 have hc:=h.Ae.K9 k hk;obtain ⟨g',W',a,b,fl,ew,el,en,ex⟩:=h.MM (c:=f.nd k) (u:=u) hc hu;have hx:=h.Ae.cx k hk;obtain ⟨hl,hq,hw⟩:(f.Lc (f.nd k)).s.st (f.own k)=2/\f.G.s.st (f.nd k)=1/\wP f.ps (f.nd k)=0:=by
  cases hx with
  |Cw hx hp hl q e=>exact ⟨hl,e,q⟩
  |_=>omega
 have Ib:f.gl.s=f.G.s:=Inn.JR _;have hd:=(Inn.D_ (x:=f.gl) (k:=f.nd k) (u:=u) (ga:Int) (by rw [Ib,h.gn];exact hc)).1 (by rw [Ib];exact hq);obtain ⟨ed,em⟩:=at_one (L:=L) (u:=u) hk s1;have Es:f.did L k u=⟨0,false,(f.gl.did ga (f.nd k:Nat) u).BW,false⟩:=by rw [ed];unfold FL.A7;rw [Qq (by omega),Qq (by omega),Qj p2,h.CM.1]
 have Hh:f.mid L k u={f with G:=f.gl.step ga (f.nd k:Nat) u,ph:=upd f.ph k (2+(f.gl.did ga (f.nd k:Nat) u).ev),ps:=(f.gl.step ga (f.nd k:Nat) u).ps}:=by rw [em];unfold FL.acq;rw [Qq (by omega),Qq (by omega),Qj p2,h.CM.1]
 have es:=Bg (L:=L) (u:=(u:Int)) (k:=k) (by rw [Es]:(f.did L k u).ev=0) Hh (by rw [s1];rfl);refine ⟨g',W',Es,?_,b,by rw [es],by rw [es],hd.1⟩;rw [es];refine h.keep rfl rfl rfl ⟨rfl,rfl,rfl⟩ rfl el (λ_=>⟨rfl,rfl⟩) en fl a ?_;show Cor f.s.n f.CJ f.s.st (upd f.ph k (2+(f.gl.did ga (f.nd k:Nat) u).ev)) f.got f.nd f.own _ H V (f.gl.step ga (f.nd k:Nat) u).s.st (wP (f.gl.step ga (f.nd k:Nat) u).ps);rw [ew,ex];rcases hd.1 with e0|e1
 ·rw [e0,(Dl (by rw [hq];rfl:AH (f.G.s.st (f.nd k)) 0=none)).1]
  have:=h.Ae.Nv (t:=k) hk (y:=f.s.st k) (p:=2+0) (g:=f.got k) (.Cw s1 rfl hl hw hq);rw [AZ f.got k rfl,AZ f.s.st k rfl] at this;exact this
 ·rw [e1,(EL (by rw [h.gn];exact hc) (by rw [hq];rfl:AH (f.G.s.st (f.nd k)) 1=some 2)).1]
  have:=h.Ae.JT (t:=k) hk (by show 2<=(f.Lc (f.nd k)).s.st (f.own k);omega) (y:=f.s.st k) (p:=2+1) (g:=f.got k) (z:=(f.Lc (f.nd k)).s.st (f.own k)) (w:=wP f.ps (f.nd k)) (e:=2) (by omega) (.fst s1 rfl hl hw rfl);exact zz4o
theorem dP (h:OrdJ f ga la H V gg Wg) {k u:Nat} (hk:k<f.s.n) (hu:u<f.ps.ac.length) (s3:f.s.st k=3) (p4:f.ph k=4):
  ∃ RS,f.did L k u=Dd.no/\OrdJ (f.step L k u) ga la H V RS Wg/\(f.step L k u).s=f.s/\((f.gl.did ga (f.nd k:Nat) u).ev=0/\(f.step L k u).ph=f.ph\/(f.gl.did ga (f.nd k:Nat) u).ev=3/\(f.step L k u).ph=upd f.ph k 5):=by
 have hc:=h.Ae.K9 k hk;obtain ⟨g',W',a,b,fl,ew,el,en,ex⟩:=h.MM (c:=f.nd k) (u:=u) hc hu;have hx:=h.Ae.cx k hk;obtain ⟨hl,hq,hw⟩:(f.Lc (f.nd k)).s.st (f.own k)=2/\f.G.s.st (f.nd k)=3/\wP f.ps (f.nd k)=0:=by
  cases hx with
  |u4 hx hp hl q e=>exact ⟨hl,q,e⟩
  |_=>omega
 have Ib:f.gl.s=f.G.s:=Inn.JR _;have hd:=(Inn.D_ (x:=f.gl) (k:=f.nd k) (u:=u) (ga:Int) (by rw [Ib,h.gn];exact hc)).2.1 (by rw [Ib];exact hq);have eW:W'=Wg:=zz2d;subst eW;obtain ⟨ed,em⟩:=B6 (L:=L) (u:=u) hk s3;have Es:f.did L k u=Dd.no:=by rw [ed];unfold FL.AX;rw [Qq (by omega),Qq (by omega),Qq (by omega),Qq (by omega),Qj p4]
 rcases hd.1 with e0|e3
 ·have Hh:f.mid L k u={f with G:=f.gl.step ga (f.nd k:Nat) u,ps:=(f.gl.step ga (f.nd k:Nat) u).ps}:=by rw [em];unfold FL.rel;rw [Qq (by omega),Qq (by omega),Qq (by omega),Qq (by omega),Qj p4,h.CM.1,Qq (by omega)]
  have es:=Bg (L:=L) (u:=(u:Int)) (k:=k) (by rw [Es];rfl:(f.did L k u).ev=0) Hh (by rw [s3];rfl);refine ⟨g',Es,?_,by rw [es],.inl ⟨e0,by rw [es]⟩⟩;rw [es];refine h.keep rfl rfl rfl ⟨rfl,rfl,rfl⟩ rfl el (λ_=>⟨rfl,rfl⟩) en fl a ?_;show Cor f.s.n f.CJ f.s.st f.ph f.got f.nd f.own _ H V (f.gl.step ga (f.nd k:Nat) u).s.st (wP (f.gl.step ga (f.nd k:Nat) u).ps);rw [ew,ex,e0,(Dl (by rw [hq];rfl:AH (f.G.s.st (f.nd k)) 0=none)).1];exact h.Ae
 ·have Hh:f.mid L k u={f with G:=f.gl.step ga (f.nd k:Nat) u,ph:=upd f.ph k 5,Lc:=upd f.Lc (f.nd k) ((f.Lc (f.nd k)).turn (f.own k:Nat) 3),ps:=(f.gl.step ga (f.nd k:Nat) u).ps}:=by rw [em];unfold FL.rel;rw [Qq (by omega),Qq (by omega),Qq (by omega),Qq (by omega),Qj p4,h.CM.1,Qj e3]
  have es:=Bg (L:=L) (u:=(u:Int)) (k:=k) (by rw [Es];rfl:(f.did L k u).ev=0) Hh (by rw [s3];rfl);refine ⟨g',Es,?_,by rw [es],.inr ⟨e3,by rw [es]⟩⟩;rw [es];have jY:=LW (f:=f) (k:=k) (H:=H) (V:=V) (la:=la) (q:=(f.gl.step ga (f.nd k:Nat) u).ps) (x:=(f.Lc (f.nd k)).turn (f.own k:Nat) 3) (h':=H (f.nd k)) (v':=V (f.nd k)) (by rw [Inn.Lr];exact (fl k hk).turn _ _ (.inl rfl)) (λu hu _=>fl u hu);rw [AZ H _ rfl,AZ V _ rfl] at jY;refine h.keep rfl rfl rfl ⟨rfl,rfl,rfl⟩ rfl el (Lq _ _ _) en jY a ?_;show Cor f.s.n f.CJ f.s.st (upd f.ph k 5) f.got f.nd f.own (λc=>(upd f.Lc (f.nd k) _ c).s.st) H V (f.gl.step ga (f.nd k:Nat) u).s.st (wP (f.gl.step ga (f.nd k:Nat) u).ps);rw [ew,ex,e3,(EL (by rw [h.gn];exact hc) (by rw [hq];rfl:AH (f.G.s.st (f.nd k)) 3=some 0)).1,Er,Inn.Fv,Ix (h.own k hk) hl];have:=h.Ae.JT (t:=k) hk (by show 2<=(f.Lc (f.nd k)).s.st (f.own k);omega) (y:=f.s.st k) (p:=5) (g:=f.got k) (z:=3) (w:=wP f.ps (f.nd k)) (e:=0) (by decide) (.u5 s3 rfl rfl (.inl ⟨hw,rfl⟩));rw [AZ f.s.st k rfl,AZ f.got k rfl,AZ (wP f.ps) _ rfl] at this;exact this
theorem JI (h:OrdJ f ga la H V gg Wg) {k u:Nat} (hk:k<f.s.n) (hu:u<f.ps.ac.length) {y:Inn} (hy:y.At (la (f.nd k)) (H (f.nd k)) (V (f.nd k))) (yp:y.ps=f.ps) (yn:y.s.n=(f.Lc (f.nd k)).s.n) (yz:y.size=(f.Lc (f.nd k)).size):
  ∃ g' W',(y.step (la (f.nd k)) (f.own k:Nat) u).At (la (f.nd k)) g' W'/\RP (V (f.nd k)) (f.own k) (y.did (la (f.nd k)) (f.own k:Nat) u) W'/\
   (∀ t,t<f.s.n->((upd f.Lc (f.nd k) (y.step (la (f.nd k)) (f.own k:Nat) u) (f.nd t)).on (y.step (la (f.nd k)) (f.own k:Nat) u).ps).At (la (f.nd t)) (upd H (f.nd k) g' (f.nd t)) (upd V (f.nd k) W' (f.nd t)))/\
   (f.G.on (y.step (la (f.nd k)) (f.own k:Nat) u).ps).At ga gg Wg/\wP (y.step (la (f.nd k)) (f.own k:Nat) u).ps=wP f.ps/\(y.step (la (f.nd k)) (f.own k:Nat) u).ps.ac.length=f.ps.ac.length/\
   (∀ c,(upd f.Lc (f.nd k) (y.step (la (f.nd k)) (f.own k:Nat) u) c).s.n=(f.Lc c).s.n/\(upd f.Lc (f.nd k) (y.step (la (f.nd k)) (f.own k:Nat) u) c).size=(f.Lc c).size):=by
 have ho:=h.own k hk;obtain ⟨g',W',a,b,d⟩:=hy.step (k:=f.own k) (u:=u) (by rw [yn];exact ho) (by rw [yp];exact hu);have hl:=Inn.Cj (x:=y) (la (f.nd k):Int) (f.own k:Int) (u:Int);rw [yp] at hl d;rw [yz] at d;obtain ⟨q1,q2,q3⟩:=h.Px hk hl.1 d;refine ⟨g',W',a,b,LW (by rw [Inn.PE];exact a) q1,q2,q3,hl.2,λc=> ?_⟩;by_cases e:c=f.nd k
 ·subst e;rw [upd_same];exact ⟨by rw [Inn.Ck,yn],by rw [Inn.KS,yz]⟩
 ·rw [A0 _ _ e];exact ⟨rfl,rfl⟩
theorem dL (h:OrdJ f ga la H V gg Wg) {k u:Nat} (hk:k<f.s.n) (hu:u<f.ps.ac.length) (s3:f.s.st k=3) (p1:f.ph k=1):
  ∃ p,(p=2\/p=3)/\f.did L k u=Dd.no/\OrdJ (f.step L k u) ga la H V gg Wg/\(f.step L k u).s=f.s/\(f.step L k u).ph=upd f.ph k p:=by
 have hc:=h.Ae.K9 k hk;have Ib:(f.lk (f.nd k)).s=(f.Lc (f.nd k)).s:=Inn.JR _;obtain ⟨g',W',a,b,fl,fg,ew,el,en⟩:=h.JI hk hu (h.loc k hk) (Inn.Da _) (by rw [Ib]) (Inn.FP _);have hx:=h.Ae.cx k hk;obtain ⟨hl,he,q1,q2,hg⟩:(f.Lc (f.nd k)).s.st (f.own k)=4/\f.G.s.st (f.nd k)=2/\1<=wP f.ps (f.nd k)/\wP f.ps (f.nd k)<f.CJ/\f.got k=wP f.ps (f.nd k):=by
  cases hx with
  |u1 hx hp hl e q1 q2 hg=>exact ⟨hl,e,q1,q2,hg⟩
  |_=>omega
 have ho:=h.own k hk;have Z6:f.own k<(f.lk (f.nd k)).s.n:=by rw [Ib];exact ho
 have hd:=(Inn.D_ (x:=f.lk (f.nd k)) (k:=f.own k) (u:=u) (la (f.nd k):Int) Z6).2.2.1 (by rw [Ib];exact hl);have eW:W'=V (f.nd k):=zz2d;have N_:((f.lk (f.nd k)).step (la (f.nd k)) (f.own k:Nat) u).s=(f.Lc (f.nd k)).s.set (f.own k) 2 0:=by
  rw [Inn.DF,Ib];exact (EL ho (by rw [hl];rcases hd.1 with e|e<;>rw [e]<;>rfl)).1
 have eg:g'=H (f.nd k):=by
  refine (h.loc k hk).qf.same a.qf (by rw [N_,Ib];rfl) λi hi=> ?_;rw [N_,Ib];show 2<=upd _ _ _ i↔_;by_cases e:i=f.own k
  ·subst e;rw [upd_same,hl];decide
  ·rw [A0 _ _ e]
 subst eW eg;rw [AZ H _ rfl,AZ V _ rfl] at fl;obtain ⟨ed,em⟩:=B6 (L:=L) (u:=u) hk s3;have Es:f.did L k u=Dd.no:=by rw [ed];unfold FL.AX;rw [Qq (by omega),Qj p1]
 obtain ⟨p,hp,hp2⟩:∃ p:Int,p=(if ((f.lk (f.nd k)).did (la (f.nd k)) (f.own k:Nat) u).ev=5 then 2 else 3)/\((p=2/\V (f.nd k)≠[])\/p=3):=by
  by_cases e5:((f.lk (f.nd k)).did (la (f.nd k)) (f.own k:Nat) u).ev=5
  ·exact ⟨2,by rw [Qj e5],.inl ⟨rfl,(h.loc k hk).company Z6 (by rw [show (f.lk (f.nd k)).ps=f.ps from Inn.Da _];exact hu) (by rw [Ib];exact hl) e5⟩⟩
  ·exact ⟨3,by rw [Qq e5],.inr rfl⟩
 have Hh:f.mid L k u={f with Lc:=upd f.Lc (f.nd k) ((f.lk (f.nd k)).step (la (f.nd k)) (f.own k:Nat) u),ph:=upd f.ph k p,ps:=((f.lk (f.nd k)).step (la (f.nd k)) (f.own k:Nat) u).ps}:=by rw [em];unfold FL.rel;rw [Qq (by omega),Qj p1,h.CM.2,<-hp]
 have es:=Bg (L:=L) (u:=(u:Int)) (k:=k) (by rw [Es];rfl:(f.did L k u).ev=0) Hh (by rw [s3];rfl);refine ⟨p,hp2.imp (λq=>q.1) id,Es,?_,by rw [es],by rw [es]⟩;rw [es];refine h.keep rfl rfl rfl ⟨rfl,rfl,rfl⟩ rfl el en ⟨rfl,rfl⟩ fl fg ?_;show Cor f.s.n f.CJ f.s.st (upd f.ph k p) f.got f.nd f.own (λc=>(upd f.Lc (f.nd k) _ c).s.st) H V f.G.s.st (wP ((f.lk (f.nd k)).step (la (f.nd k)) (f.own k:Nat) u).ps);rw [ew,Er,N_];have:=h.Ae.JT (t:=k) hk (by show 2<=(f.Lc (f.nd k)).s.st (f.own k);omega) (y:=f.s.st k) (p:=p) (g:=f.got k) (z:=2) (w:=wP f.ps (f.nd k)) (e:=f.G.s.st (f.nd k)) (by decide) (by
  rcases hp2 with ⟨e,hv⟩|e
  ·exact .u2 s3 e rfl he q1 q2 hg hv
  ·exact .u3 s3 e rfl he q1 (by omega))
 rw [AZ f.s.st k rfl,AZ f.got k rfl,AZ (wP f.ps) _ rfl,AZ f.G.s.st _ rfl] at this;exact this
theorem dQ (h:OrdJ f ga la H V gg Wg) {k u:Nat} (hk:k<f.s.n) (hu:u<f.ps.ac.length) (s3:f.s.st k=3) (p5:f.ph k=5):
  (f.did L k u=Dd.no/\OrdJ (f.step L k u) ga la H V gg Wg/\(f.step L k u).s=f.s/\(f.step L k u).ph=f.ph)\/
  (f.did L k u=⟨3,false,false,false⟩/\OrdJ (f.step L k u) ga la (upd H (f.nd k) none) V gg Wg/\(f.step L k u).s=f.s.set k 0 0/\(f.step L k u).ph=upd f.ph k 0):=by
 have hc:=h.Ae.K9 k hk;have Ib:(f.lk (f.nd k)).s=(f.Lc (f.nd k)).s:=Inn.JR _;obtain ⟨g',W',a,b,fl,fg,ew,el,en⟩:=h.JI hk hu (h.loc k hk) (Inn.Da _) (by rw [Ib]) (Inn.FP _);have hx:=h.Ae.cx k hk;have hl:(f.Lc (f.nd k)).s.st (f.own k)=3:=by
  cases hx with
  |u5 hx hp hl q=>exact hl
  |_=>omega
 have ho:=h.own k hk;have Z6:f.own k<(f.lk (f.nd k)).s.n:=by rw [Ib];exact ho
 have hH:H (f.nd k)=some (f.own k):=h.Ae.hold k hk (by show 2<=(f.Lc (f.nd k)).s.st (f.own k);omega);have hd:=(Inn.D_ (x:=f.lk (f.nd k)) (k:=f.own k) (u:=u) (la (f.nd k):Int) Z6).2.1 (by rw [Ib];exact hl);have eW:W'=V (f.nd k):=zz2d;subst eW;rw [AZ V _ rfl] at fl;obtain ⟨ed,em⟩:=B6 (L:=L) (u:=u) hk s3;have Hh:f.mid L k u={f with Lc:=upd f.Lc (f.nd k) ((f.lk (f.nd k)).step (la (f.nd k)) (f.own k:Nat) u),ps:=((f.lk (f.nd k)).step (la (f.nd k)) (f.own k:Nat) u).ps}:=by rw [em];unfold FL.rel;rw [Qq (by omega),Qq (by omega),Qq (by omega),Qq (by omega),Qq (by omega),h.CM.2]
 have Es:f.did L k u=⟨((f.lk (f.nd k)).did (la (f.nd k)) (f.own k:Nat) u).ev,false,false,false⟩:=by rw [ed];unfold FL.AX;rw [Qq (by omega),Qq (by omega),Qq (by omega),Qq (by omega),Qq (by omega),h.CM.2]
 rcases hd.1 with e0|e3
 ·rw [e0] at Es
  have N_:((f.lk (f.nd k)).step (la (f.nd k)) (f.own k:Nat) u).s=(f.Lc (f.nd k)).s:=by
   rw [Inn.DF,Ib,e0];exact (Dl (by rw [hl];rfl)).1
  have eg:g'=H (f.nd k):=(h.loc k hk).qf.same a.qf (by rw [N_,Ib]) λi hi=>by rw [N_,Ib]
  subst eg;rw [AZ H _ rfl] at fl;have es:=Bg (L:=L) (u:=(u:Int)) (k:=k) (by rw [Es]:(f.did L k u).ev=0) Hh (by rw [s3];rfl);refine .inl ⟨Es,?_,by rw [es],by rw [es]⟩;rw [es];refine h.keep rfl rfl rfl ⟨rfl,rfl,rfl⟩ rfl el en ⟨rfl,rfl⟩ fl fg ?_;show Cor f.s.n f.CJ f.s.st f.ph f.got f.nd f.own (λc=>(upd f.Lc (f.nd k) _ c).s.st) H V f.G.s.st (wP ((f.lk (f.nd k)).step (la (f.nd k)) (f.own k:Nat) u).ps);rw [ew,Er,N_,AZ (λd=>(f.Lc d).s.st) _ rfl];exact h.Ae
 ·rw [e3] at Es
  have N_:((f.lk (f.nd k)).step (la (f.nd k)) (f.own k:Nat) u).s=(f.Lc (f.nd k)).s.set (f.own k) 0 0:=by
   rw [Inn.DF,Ib,e3];exact (EL ho (by rw [hl];rfl)).1
  have eg:g'=none:=by
   cases e:g' with
   |none=>rfl
   |some i=>
    obtain ⟨i1,i2⟩:=(a.qf.iff i).1 e;rw [N_] at i1 i2;have i2:2<=upd (f.Lc (f.nd k)).s.st (f.own k) 0 i:=i2;by_cases q:i=f.own k
    ·subst q;rw [upd_same] at i2;omega
    ·rw [A0 _ _ q] at i2
     have:=((h.loc k hk).qf.iff i).2 (by rw [Ib];exact ⟨i1,i2⟩);rw [hH] at this;exact absurd (Option.some.inj this).symm q
  subst eg;have es:=F7 (L:=L) (u:=(u:Int)) hk (by rw [Es]) Hh (by rw [s3];rfl:AH (f.s.st k) 3=some 0);refine .inr ⟨Es,?_,by rw [es],by rw [es]⟩;rw [es];refine h.keep rfl rfl rfl ⟨rfl,rfl,rfl⟩ rfl el en ⟨rfl,rfl⟩ fl fg ?_;show Cor f.s.n f.CJ (upd f.s.st k 0) (upd f.ph k 0) f.got f.nd f.own (λc=>(upd f.Lc (f.nd k) _ c).s.st) (upd H (f.nd k) none) V f.G.s.st (wP ((f.lk (f.nd k)).step (la (f.nd k)) (f.own k:Nat) u).ps);rw [ew,Er,N_];exact h.Ae.gone hk s3 p5
end OrdJ
namespace OrdJ
variable {f:FL} {L:Lp} {ga:Nat} {la:Nat->Nat} {H:Nat->Option Nat} {V:Nat->List Nat} {gg:Option Nat} {Wg:List Nat}
theorem dI (h:OrdJ f ga la H V gg Wg) {k u:Nat} (hk:k<f.s.n) (hu:u<f.ps.ac.length) (s1:f.s.st k=1) (p0:f.ph k=0):
  ∃ W',RP (V (f.nd k)) (f.own k) ((f.ask k).did (la (f.nd k)) (f.own k:Nat) u) W'/\f.did L k u=⟨0,((f.ask k).did (la (f.nd k)) (f.own k:Nat) u).BW,false,false⟩/\(f.step L k u).s=f.s/\
   ((((f.ask k).did (la (f.nd k)) (f.own k:Nat) u).ev=0/\OrdJ (f.step L k u) ga la H (upd V (f.nd k) W') gg Wg/\(f.step L k u).ph=f.ph)\/
    (((f.ask k).did (la (f.nd k)) (f.own k:Nat) u).ev=1/\H (f.nd k)=none/\OrdJ (f.step L k u) ga la (upd H (f.nd k) (some (f.own k))) (upd V (f.nd k) W') gg Wg/\(f.step L k u).ph=upd f.ph k 1)):=by
 have hc:=h.Ae.K9 k hk;have ho:=h.own k hk;have Ib:(f.lk (f.nd k)).s=(f.Lc (f.nd k)).s:=Inn.JR _;have hx:=h.Ae.cx k hk;have hl:(f.Lc (f.nd k)).s.st (f.own k)=0\/(f.Lc (f.nd k)).s.st (f.own k)=1:=by
  cases hx with
  |loc hx hp hl=>exact hl
  |_=>omega
 obtain ⟨y,hy⟩:∃ y,y=f.ask k:=⟨_,rfl⟩
 have yA:y.At (la (f.nd k)) (H (f.nd k)) (V (f.nd k)):=by
  rw [hy];unfold FL.ask;split
  ·exact (h.loc k hk).lock _ _
  ·exact h.loc k hk
 have yS:y.s.st=upd (f.Lc (f.nd k)).s.st (f.own k) 1/\y.s.n=(f.Lc (f.nd k)).s.n:=by
  rw [hy];unfold FL.ask;rcases hl with e|e
  ·rw [Qj e,Inn.Hz,Ib]
   exact ⟨LX ho e,SS.Bz _ _ _⟩
  ·rw [Qq (by omega),Ib]
   exact ⟨(AZ _ _ e).symm,rfl⟩
 have yz:y.size=(f.Lc (f.nd k)).size:=by
  rw [hy];unfold FL.ask;split
  ·rw [Inn.K6];exact Inn.FP _
  ·exact Inn.FP _
 have yp:y.ps=f.ps:=by rw [hy];exact f.Rn k
 obtain ⟨g',W',a,b,fl,fg,ew,el,en⟩:=h.JI hk hu yA yp yS.2 yz;have yk:y.s.st (f.own k)=1:=by rw [yS.1,upd_same]
 have hd:=(Inn.D_ (x:=y) (k:=f.own k) (u:=u) (la (f.nd k):Int) (by rw [yS.2];exact ho)).1 yk;obtain ⟨ed,em⟩:=at_one (L:=L) (u:=u) hk s1;have Es:f.did L k u=⟨0,(y.did (la (f.nd k)) (f.own k:Nat) u).BW,false,false⟩:=by rw [ed];unfold FL.A7;rw [Qj p0,h.CM.2,hy]
 have Hh:f.mid L k u={f with Lc:=upd f.Lc (f.nd k) (y.step (la (f.nd k)) (f.own k:Nat) u),ph:=upd f.ph k (y.did (la (f.nd k)) (f.own k:Nat) u).ev,ps:=(y.step (la (f.nd k)) (f.own k:Nat) u).ps}:=by rw [em];unfold FL.acq;rw [Qj p0,h.CM.2,hy]
 have es:=Bg (L:=L) (u:=(u:Int)) (k:=k) (by rw [Es]:(f.did L k u).ev=0) Hh (by rw [s1];rfl);rw [<-hy];refine ⟨W',b,Es,by rw [es],?_⟩;rcases hd.1 with e0|e1
 ·left
  have N_:(y.step (la (f.nd k)) (f.own k:Nat) u).s=y.s:=by
   rw [Inn.DF,e0];exact (Dl (by rw [yk];rfl)).1
  have eg:g'=H (f.nd k):=yA.qf.same a.qf (by rw [N_]) λi hi=>by rw [N_]
  subst eg;rw [AZ H _ rfl] at fl;have hv:V (f.nd k)≠[]->W'≠[]:=by
   cases b with
   |same q0 q1 e=>rw [e];exact id
   |BW hh e=>rw [e];intro _;simp
   |Bs hh e=>rw [hh] at e0;cases e0
   |both hh e e'=>rw [hh] at e0;cases e0
  refine ⟨e0,?_,by rw [es];show upd f.ph k _=f.ph;rw [e0];exact AZ _ _ p0⟩;rw [es];refine h.keep rfl rfl rfl ⟨rfl,rfl,rfl⟩ rfl el en ⟨rfl,rfl⟩ fl fg ?_;show Cor f.s.n f.CJ f.s.st (upd f.ph k _) f.got f.nd f.own (λc=>(upd f.Lc (f.nd k) _ c).s.st) H (upd V (f.nd k) W') f.G.s.st (wP (y.step (la (f.nd k)) (f.own k:Nat) u).ps);rw [ew,Er,N_,yS.1,e0,AZ f.ph k p0];exact h.Ae.ask hk s1 p0 hv
 ·right
  have N_:(y.step (la (f.nd k)) (f.own k:Nat) u).s=y.s.set (f.own k) 2 0:=by
   rw [Inn.DF,e1];exact (EL (by rw [yS.2];exact ho) (by rw [yk];rfl)).1
  have fR:(y.step (la (f.nd k)) (f.own k:Nat) u).s.st=upd (f.Lc (f.nd k)).s.st (f.own k) 2:=by
   rw [N_];show upd y.s.st (f.own k) 2=_;rw [yS.1]
   funext i
   by_cases e:i=f.own k
   ·subst e;rw [upd_same,upd_same]
   ·rw [A0 _ _ e,A0 _ _ e,A0 _ _ e]
  have jX:(y.step (la (f.nd k)) (f.own k:Nat) u).s.n=(f.Lc (f.nd k)).s.n:=by rw [Inn.Ck,yS.2]
  have eg:g'=some (f.own k):=(a.qf.iff _).2 ⟨by rw [jX];exact ho,by rw [fR,upd_same];decide⟩;have eH:H (f.nd k)=none:=by
   cases e:H (f.nd k) with
   |none=>rfl
   |some i=>
    obtain ⟨i1,i2⟩:=(yA.qf.iff i).1 e;rw [yS.1] at i2;by_cases q:i=f.own k
    ·subst q;rw [upd_same] at i2;omega
    ·rw [A0 _ _ q] at i2
     have:=(a.qf.iff i).2 ⟨by rw [jX,<-yS.2];exact i1,by rw [fR,A0 _ _ q];exact i2⟩;rw [eg] at this;exact absurd (Option.some.inj this).symm q
  subst eg;refine ⟨e1,eH,?_,by rw [es];show upd f.ph k _=_;rw [e1]⟩;rw [es];refine h.keep rfl rfl rfl ⟨rfl,rfl,rfl⟩ rfl el en ⟨rfl,rfl⟩ fl fg ?_;show Cor f.s.n f.CJ f.s.st (upd f.ph k _) f.got f.nd f.own (λc=>(upd f.Lc (f.nd k) _ c).s.st) (upd H (f.nd k) (some (f.own k))) (upd V (f.nd k) W') f.G.s.st (wP (y.step (la (f.nd k)) (f.own k:Nat) u).ps);rw [ew,Er,fR,e1];exact h.Ae.fT hk s1 eH W'
theorem XL (h:OrdJ f ga la H V gg Wg) {k:Nat} (hk:k<f.s.n) {s':SS} {y:Int} (hn:s'.n=f.s.n) (hp:s'.Af=f.s.Af) (hs:s'.st=upd f.s.st k y) (hy:(f.s.st k=0/\y=1)\/(f.s.st k=2/\y=3)):OrdJ {f with s:=s'} ga la H V gg Wg:=by
 refine h.keep hn hp rfl ⟨rfl,rfl,rfl⟩ rfl rfl (λ_=>⟨rfl,rfl⟩) ⟨rfl,rfl⟩ (λt ht=>h.loc t ht) h.Cw ?_;show Cor f.s.n f.CJ s'.st f.ph f.got f.nd f.own _ H V f.G.s.st (wP f.ps);rw [hs];have hx:=h.Ae.cx k hk;have:=h.Ae.Nv (t:=k) hk (y:=y) (p:=f.ph k) (g:=f.got k) (by
  rcases hy with ⟨a,b⟩|⟨a,b⟩
  ·cases hx with
   |idle hx hp hl=>exact .loc b hp (.inl hl)
   |_=>omega
  ·cases hx with
   |has hx hp hl he q1 q2=>exact .u0 b hp hl he q1 q2
   |_=>omega)
 rw [AZ f.got k rfl,AZ f.ph k rfl] at this;exact this
theorem lock (h:OrdJ f ga la H V gg Wg) (t d:Int):OrdJ (f.lock t d) ga la H V gg Wg:=by
 unfold FL.lock SS.lock;by_cases e:BZ f.s t d=0
 ·rw [Qj e]
  unfold BZ at e;by_cases c:(0<=t/\t<f.s.n)/\(d= -1\/(0<=d/\f.s.C7=true))
  ·rw [Qj c] at e
   by_cases z:f.s.st t.toNat=0
   ·exact h.XL (k:=t.toNat) (by omega) rfl rfl rfl (.inl ⟨z,rfl⟩)
   ·rw [Qq z] at e;omega
  ·rw [Qq c] at e;omega
 ·rw [Qq e];exact h
theorem unlock (h:OrdJ f ga la H V gg Wg) (t:Int):OrdJ (f.turn t 3) ga la H V gg Wg:=by
 unfold FL.turn SS.turn;by_cases e:BR f.s t=0
 ·rw [Qj e]
  unfold BR at e;by_cases c:0<=t/\t<f.s.n
  ·rw [Qj c] at e
   by_cases z:f.s.st t.toNat=0
   ·rw [Qj z] at e;omega
   ·rw [Qq z] at e
    by_cases z2:f.s.st t.toNat=2
    ·exact h.XL (k:=t.toNat) (by omega) rfl rfl rfl (.inr ⟨z2,rfl⟩)
    ·rw [Qq z2] at e;omega
  ·rw [Qq c] at e;omega
 ·rw [Qq e];exact h
theorem D5 {k:Nat} {u:Int} (hk:k<f.s.n) (s1:f.s.st k≠1) (s3:f.s.st k≠3) (s4:f.s.st k≠4):f.did L k u=Dd.no/\f.step L k u=f:=by
 have ht:(0:Int)<=(k:Int)/\(k:Int)<f.s.n:=by omega
 have ed:f.did L k u=Dd.no:=by unfold FL.did;rw [Qj ht,Int.toNat_natCast,Qq s1,Qq s3]
 have em:f.mid L k u=f:=by unfold FL.mid;rw [Qj ht,Int.toNat_natCast,Qq s1,Qq s3]
 refine ⟨ed,?_⟩;rw [Bg (L:=L) (u:=u) (by rw [ed];rfl:(f.did L k u).ev=0) em (by unfold AH;rw [Qq (by omega),Qq (by omega),Qq (by omega),Qq (by omega)])]
theorem D6 {t u:Int} (ht:¬ (0<=t/\t<f.s.n)):f.did L t u=Dd.no/\f.step L t u=f:=by
 have ed:f.did L t u=Dd.no:=by unfold FL.did;rw [Qq ht]
 have em:f.mid L t u=f:=by unfold FL.mid;rw [Qq ht]
 have e0:Bo f.s t Dd.no.ev=none:=by unfold Bo;rw [Qq ht]
 refine ⟨ed,?_⟩;unfold FL.step SS.fin Gd;rw [ed,em,e0];rfl
theorem one (h:OrdJ f ga la H V gg Wg) {j k:Nat} (hj:j<f.s.n) (hk:k<f.s.n) (ej:f.s.st j=2) (ek:f.s.st k=2):j=k:=by
 refine h.Ae.one (λc d hc hd ec e2=> ?_) hj hk ej ek;have es:f.gl.s=f.G.s:=Inn.JR _;have a:=(h.Cw.qf.iff c).2 ⟨by rw [es,h.gn];exact hc,by rw [es,ec];decide⟩;have b:=(h.Cw.qf.iff d).2 ⟨by rw [es,h.gn];exact hd,by rw [es,e2];decide⟩;rw [a] at b;exact Option.some.inj b
theorem step (h:OrdJ f ga la H V gg Wg) (h1:L.a1=0) (t:Int):∃ H' V' RS Rf,OrdJ (f.step L t t) ga la H' V' RS Rf:=by
 by_cases ht:0<=t/\t<f.s.n
 ·obtain ⟨k,rfl⟩:=Qx ht.1
  have hk:k<f.s.n:=by omega
  have hu:k<f.ps.ac.length:=by rw [h.ac];exact hk
  have hx:=h.Ae.cx k hk;by_cases s1:f.s.st k=1
  ·have hp:f.ph k=0\/f.ph k=1\/f.ph k=2\/f.ph k=3:=by cases hx<;>omega
   rcases hp with p|p|p|p
   ·obtain ⟨W',_,_,_,⟨_,a,_⟩|⟨_,_,a,_⟩⟩:=h.dI hk hu s1 p
    ·exact ⟨_,_,_,_,a⟩
    ·exact ⟨_,_,_,_,a⟩
   ·by_cases hw:wP f.ps (f.nd k)=0
    ·exact ⟨_,_,_,_,(h.YU h1 hk hu s1 p hw).2.1⟩
    ·exact ⟨_,_,_,_,(h.YT h1 hk hu s1 p hw).2.1⟩
   ·obtain ⟨_,_,_,a,_⟩:=h.dJ hk hu s1 p
    exact ⟨_,_,_,_,a⟩
   ·exact ⟨_,_,_,_,(h.dK h1 hk hu s1 p).2.1⟩
  by_cases s3:f.s.st k=3
  ·have hp:f.ph k=0\/f.ph k=1\/f.ph k=2\/f.ph k=3\/f.ph k=4\/f.ph k=5:=by cases hx<;>omega
   rcases hp with p|p|p|p|p|p
   ·by_cases hw:wP f.ps (f.nd k)<f.CJ
    ·exact ⟨_,_,_,_,(h.YV h1 hk hu s3 p hw).2.1⟩
    ·exact ⟨_,_,_,_,(h.YW h1 hk hu s3 p hw).2.1⟩
   ·obtain ⟨_,_,_,a,_⟩:=h.dL hk hu s3 p
    exact ⟨_,_,_,_,a⟩
   ·exact ⟨_,_,_,_,(h.dM h1 hk hu s3 p).2.1⟩
   ·exact ⟨_,_,_,_,(h.dO h1 hk hu s3 p).2.1⟩
   ·obtain ⟨_,_,a,_⟩:=h.dP hk hu s3 p
    exact ⟨_,_,_,_,a⟩
   ·rcases h.dQ hk hu s3 p with ⟨_,a,_⟩|⟨_,a,_⟩
    ·exact ⟨_,_,_,_,a⟩
    ·exact ⟨_,_,_,_,a⟩
  have s4:f.s.st k≠4:=by cases hx<;>omega
  rw [(D5 (L:=L) (u:=(k:Int)) hk s1 s3 s4).2];exact ⟨_,_,_,_,h⟩
 ·rw [(D6 (L:=L) (u:=t) ht).2]
  exact ⟨_,_,_,_,h⟩
end OrdJ
theorem sub_zero {l:List Int} {o n:Nat} (hl:o+n<=l.length) (hz:∀ x∈l,x=0):sub l o n=List.replicate n 0:=by
 apply List.ext_getElem?;intro i;rw [List.getElem?_replicate];by_cases hi:i<n
 ·rw [Qj hi]
  have hlen:=G8 hl;rw [List.getElem?_eq_getElem (by omega)]
  congr 1
  have hm:(sub l o n)[i]'(by omega)∈sub l o n:=List.getElem_mem _;exact hz _ (List.mem_of_mem_drop (List.mem_of_mem_take hm))
 ·rw [Qq hi]
  exact List.getElem?_eq_none (by rw [G8 hl];omega)
def XF (n:Nat) (ps:AK):Inn:= .tk ⟨AQ n false true,λ_=>0,λ_=>false,ps⟩
def XD (n:Nat) (ps:AK):Inn:= .cl ⟨AQ n false true,λ_=>0,λj=>if j<n then (j:Int)+1 else 0,λ_=>0,ps⟩
def XE (n:Nat) (ps:AK):Inn:= .mc ⟨AQ n false true,λ_=>0,λ_=>0,ps⟩
section
variable {ps:AK} {o n:Nat}
theorem TT (hn:n<=64) (hl:o+2<=ps.ws.length) (hz:∀ x∈ps.ws,x=0):(XF n ps).At o none []:=by
 refine ⟨hl,0,0,hn,sub_zero hl hz,List.length_replicate,by decide,by simp,by simp,by simp,by simp,λk hk=>by simp [Kf.FL.vw],λk hk=>by simp at hk,by simp,λk hk _=> .inl rfl⟩
theorem TR (hn:n<=64) (hl:o+(n+2)<=ps.ws.length) (hz:∀ x∈ps.ws,x=0):(XD n ps).At o none []:=by
 have hs:=sub_zero hl hz;have hk:∀ j,j<n->(if j<n then (j:Int)+1 else 0)=(j:Int)+1:=λj hj=>Qj hj;refine ⟨hl,0,hn,λj hj=> ?_,⟨Int.le_refl _,by show (0:Int)<=(n:Int);omega⟩,λj k hj hk2 e=> ?_,λj hj=> ?_,⟨List.replicate (n+1) 0,hs.trans rfl,by rw [List.length_replicate];rfl,λj hj=> ?_,by simp⟩,List.length_replicate,by simp,by simp,λj hj=>by simp [Kc.FL.vw],λj=> .inl rfl,λj hj hp=>by simp [Kc.FL.vw] at hp,trivial,λk hk=>(by cases hk),by simp,λk hk _=> .inl rfl⟩
 ·show 0<=(if j<n then (j:Int)+1 else 0)/\(if j<n then (j:Int)+1 else 0)<=(n:Int)
  exact zz6b
 ·have hj:j<n:=hj
  have hk2:k<n:=hk2;have e:(if j<n then (j:Int)+1 else 0)=(if k<n then (k:Int)+1 else 0):=e;rw [hk j hj,hk k hk2] at e;omega
 ·show (if j<n then (j:Int)+1 else 0)≠0
  exact zz6b
 ·exact zz4f
theorem TS (hn:n<=64) (hl:o+(2*n+1)<=ps.ws.length) (hz:∀ x∈ps.ws,x=0):(XE n ps).At o none []:=by
 have hs:=sub_zero hl hz;have h0:∀ i,(sub ps.ws o (2*n+1)).getD i 0=0:=λi=>by
  rw [hs,List.getD_eq_getElem?_getD,List.getElem?_replicate];split<;>rfl
 refine ⟨hl,hn,G8 hl,List.length_replicate,⟨by simp,by simp,h0 0,λj=>⟨Int.le_refl _,by show (0:Int)<=4;decide⟩,λj hj hs=>by simp [Km.FL.vw,AQ] at hs,λj hj _ _=>rfl,λj hj _=>by show (0:Int)<=3;decide,λk hk=>(by cases hk),by simp,λk hk _=> .inl rfl,trivial,λj hj _ hp=>by simp [Km.FL.vw] at hp,λ_ k r e=>by simp at e,λk hk=>(by cases hk),λk hk=>(by cases hk)⟩⟩
end
theorem OrdJ.start {n ga:Nat} {B:Int} {nd own:Nat->Nat} {la:Nat->Nat} {G:Inn} {Lc:Nat->Inn} {ps:AK} (hn:n<=64) (hB:1<=B/\B<=1000) (CY:ps.ac.length=n) (hz:∀ x∈ps.ws,x=0)
  (hnd:∀ t,t<n->nd t<8) (how:∀ t,t<n->own t<(Lc (nd t)).s.n) (hi:∀ t u,t<n->u<n->nd t=nd u->own t=own u->t=u)
  (hL:∀ t,t<n->((Lc (nd t)).on ps).At (la (nd t)) none []) (hs:∀ c j,(Lc c).s.st j=0) (hG:(G.on ps).At ga none []) (lW:G.s.n=8) (lX:∀ c,G.s.st c=0) (g8:8<=ga) (hgl:∀ t,t<n->ga+G.size<=la (nd t))
  (hll:∀ t u,t<n->u<n->nd t≠nd u->la (nd t)+(Lc (nd t)).size<=la (nd u)\/la (nd u)+(Lc (nd u)).size<=la (nd t)):
  OrdJ ⟨AQ n false false,B,nd,own,λ_=>0,λ_=>0,ga,la,G,Lc,ps⟩ ga la (λ_=>none) (λ_=>[]) none []:=by
 refine ⟨hn,rfl,hB,⟨rfl,rfl⟩,CY,how,hL,hG,lW,g8,hgl,hll,?_⟩;have e1:(λc=>(Lc c).s.st)=λ_ _=>(0:Int):=funext λc=>funext λj=>hs c j;have e2:G.s.st=λ_=>(0:Int):=funext lX;have e3:wP ps=λ_=>(0:Int):=by
  funext c
  unfold wP;split
  ·rw [List.getD_eq_getElem?_getD]
   cases e:ps.ws[c]? with
   |none=>rfl
   |some x=>exact hz x (List.mem_of_getElem? e)
  ·rfl
 show Cor n B (λ_=>0) (λ_=>0) (λ_=>0) nd own (λc=>(Lc c).s.st) (λ_=>none) (λ_=>[]) G.s.st (wP ps);rw [e1,e2,e3];exact Cor.start n B hnd hi
def Ex (ps q:AK) (u:Int):Prop:=q=ps\/∃ K a o v,q=A5 ps u K a o v
theorem Kf.BM (f:Kf.FL) (L:Kf.Lp) (t u:Int):Ex f.ps (f.step L t u).ps u:=by
 show Ex f.ps (f.mid L t u).ps u;unfold Kf.FL.mid Kf.FL.acq Kf.FL.rel Kf.FL.ask
 repeat' split
 all_goals first|exact .inl rfl|exact .inr ⟨_,_,_,_,rfl⟩
theorem Kc.BM (f:Kc.FL) (L:Kc.Lp) (t u:Int):Ex f.ps (f.step L t u).ps u:=by
 show Ex f.ps (f.mid L t u).ps u;unfold Kc.FL.mid Kc.FL.acq Kc.FL.rel Kc.FL.ask
 repeat' split
 all_goals first|exact .inl rfl|exact .inr ⟨_,_,_,_,rfl⟩
theorem Km.BM (f:Km.FL) (L:Km.Lp) (t u:Int):Ex f.ps (f.step L t u).ps u:=by
 show Ex f.ps (f.mid L t u).ps u;unfold Km.FL.mid Km.FL.acq Km.FL.rel Km.FL.ask
 repeat' split
 all_goals first|exact .inl rfl|exact .inr ⟨_,_,_,_,rfl⟩
theorem Inn.BM (x:Inn) (a t u:Int):Ex x.ps (x.step a t u).ps u:=by
 cases x
 ·exact Kf.BM _ _ _ _
 ·exact Kc.BM _ _ _ _
 ·exact Km.BM _ _ _ _
theorem FL.BM (f:FL) (L:Lp) (t u:Int):Ex f.ps (f.step L t u).ps u:=by
 have kl:=λc a j=>by have:=(f.lk c).BM a j u;unfold FL.lk at this;rw [Inn.Da] at this;exact this
 have kg:=λa j=>by have:=f.gl.BM a j u;unfold FL.gl at this;rw [Inn.Da] at this;exact this
 have ka:=λt a j=>by have:=(f.ask t).BM a j u;rw [f.Rn] at this;exact this
 show Ex f.ps (f.mid L t u).ps u;unfold FL.mid FL.acq FL.rel
 repeat' split
 all_goals first|exact .inl rfl|exact .inr ⟨_,_,_,_,rfl⟩|exact ka _ _ _|exact kl _ _ _|exact kg _ _
theorem Ex.D {ps q:AK} {u:Int} (h:Ex ps q u):q.D.length<=ps.D.length+1:=by
 rcases h with rfl|⟨K,a,o,v,rfl⟩
 ·omega
 ·unfold A5
  split
  ·simp [AR]
  ·omega
end Go.Proofs.YtmnephejhkfchaaGreat
