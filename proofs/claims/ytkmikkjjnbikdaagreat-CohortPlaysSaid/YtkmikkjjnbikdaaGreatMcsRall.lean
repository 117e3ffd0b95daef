import Derived.Test.YtkmikkjjnbikdaaGreatMcsRstep
namespace Go.Proofs.YtkmikkjjnbikdaaGreat.Km
set_option maxHeartbeats 8000000
open _root_.Go.Proofs.Tryz Go.Deep
open Go.RowKit Go.BigFrame
set_option linter.unusedVariables false
set_option maxRecDepth 100000
structure MlAt (w:World) (M:Mp) (f:FL):Prop where
 raw:∃ o,MlRaw w M f.s f.pc o∧o=f.oth
theorem MlAt.after {w w':World} {M:Mp} {f:FL} (h:MlAt w M f) (k:Wr Nil w w'):MlAt w' M f:=by
 obtain ⟨o,a,b⟩:=h.raw
 exact ⟨o,a.after k,b⟩
theorem MlAt.apart {w w':World} {M:Mp} {f:FL} {S:Nat→Prop} (h:MlAt w M f) (k:Wr S w w') (h1:¬ S M.r) (h2:∀ j,MF M j→¬ S j):MlAt w' M f:=by
 obtain ⟨o,a,b⟩:=h.raw
 exact ⟨o,a.wrote k h1 h2,b⟩
theorem MlAt.seats {w w':World} {M:Mp} {f:FL} {s':SS} (h:MlAt w M f) (hS:RsAt w' M.sr M.hv M.dv s') (hn:s'.n=f.s.n) (k:Wr (SF M.sr M.hv M.dv) w w'):MlAt w' M {f with s:=s'}:=by
 obtain ⟨o,a,b⟩:=h.raw
 exact ⟨o,a.seats hS hn k,b⟩
def MmPost (w:World) (M:Mp) (bk:Nat) (dv:Value) (f:FL) (d:Dd) (e:Ending) (w':World):Prop:=
 e= .returned d.rval∧MlAt w' M f∧RefSt w' M.base M.pr f.ps∧Wr (MG M bk dv) w w'
structure MmIn (w:World) (M:Mp) (bk:Nat) (so:Option Addr) (cap:Nat) (dv:Value) (f:FL) (L:Lp):Prop where
 ml:MlAt w M f
 ref:RefAt w M.base M.pr bk so cap dv f.ps
 n1:1≤f.s.n
 n2:f.s.n≤64
 hD:f.ps.D.length<1000000
 hws:f.ps.ws.length≤4096
 hac:f.ps.ac.length≤64
 hb:M.base≤w.heap.size
 ha:0≤M.a∧M.a≤4096
 l1:L.a1=M.a
 l2:L.a2=M.a+1
 prg:∀ k,0≤f.pc k∧f.pc k≤4
 st4:∀ k,k<f.s.n→0≤f.s.st k∧f.s.st k≤4
 pcI:∀ k,k<f.s.n→f.s.st k≠1→f.s.st k≠3→f.pc k=0
 pc3:∀ k,k<f.s.n→f.s.st k=3→f.pc k≤3
 org:∀ k,0≤f.oth k∧f.oth k<4294967296
 tell:∀ u K a,0≤tellS f.ps u K a∧tellS f.ps u K a<4294967296
theorem nxL {M:Mp} {L:Lp} (l2:L.a2=M.a+1) (x:Int):L.nx x=M.a+1+2*x:=by unfold Lp.nx;rw [l2]
theorem lkL {M:Mp} {L:Lp} (l2:L.a2=M.a+1) (x:Int):L.lk x=M.a+2+2*x:=by unfold Lp.lk;rw [l2];omega
theorem endI_one (s:SS) {k:Nat} (hk:k<s.n) (ev:Int) (h:behindI (s.st k) ev≠none):endI s k ev=1:=by
 have e:endO s k ev=behindI (s.st k) ev:=by unfold endO;rw [if_pos (by omega),Int.toNat_natCast]
 unfold endI endB
 rw [e]
 cases hb:behindI (s.st k) ev
 ·exact absurd hb h
 ·rfl
theorem endI_none (s:SS) {k:Nat} (hk:k<s.n) (ev:Int) (h:behindI (s.st k) ev=none):endI s k ev=0:=by
 have e:endO s k ev=behindI (s.st k) ev:=by unfold endO;rw [if_pos (by omega),Int.toNat_natCast]
 unfold endI endB
 rw [e,h]
 rfl
theorem upd_at (g:Nat→Int) (k:Nat) {x:Int} (h:g k=x):upd g k x=g:=by subst h;exact funext λj=>(upd_self g k j).symm
section
variable {M:Mp} {o:Nat→Int} {ps:PSta} {k:Nat} {u:Int}
theorem rm10:rmid M o ps k u 1 0=⟨1,o,doS ps u 2 (nxR M k) 0 0,Dd.no⟩:=rfl
theorem rm11:rmid M o ps k u 1 1=⟨2,upd o k (tellS ps u 3 M.a),doS ps u 3 M.a 0 ((k:Int)+1),⟨if tellS ps u 3 M.a=0 then 1 else 0,true,false,false⟩⟩:=rfl
theorem rm12:rmid M o ps k u 1 2=⟨3,o,doS ps u 2 (lkR M k) 0 1,Dd.no⟩:=rfl
theorem rm13:rmid M o ps k u 1 3=⟨4,o,doS ps u 2 (M.a+1+2*(o k-1)) 0 ((k:Int)+1),Dd.no⟩:=rfl
theorem rm14:rmid M o ps k u 1 4=⟨4,o,doS ps u 1 (lkR M k) 0 0,if tellS ps u 1 (lkR M k)=0 then ⟨1,false,false,false⟩ else Dd.no⟩:=rfl
theorem rm30:rmid M o ps k u 3 0=⟨if tellS ps u 1 (nxR M k)=0 then 1 else 3,upd o k (tellS ps u 1 (nxR M k)),doS ps u 1 (nxR M k) 0 0,Dd.no⟩:=rfl
theorem rm31:rmid M o ps k u 3 1=⟨2,o,doS ps u 4 M.a ((k:Int)+1) 0,if casT ps u M.a ((k:Int)+1)=true then ⟨3,false,false,false⟩ else Dd.no⟩:=rfl
theorem rm32:rmid M o ps k u 3 2=⟨if tellS ps u 1 (nxR M k)=0 then 2 else 3,upd o k (tellS ps u 1 (nxR M k)),doS ps u 1 (nxR M k) 0 0,Dd.no⟩:=rfl
theorem rm33:rmid M o ps k u 3 3=⟨4,o,doS ps u 2 (M.a+2+2*(o k-1)) 0 0,⟨3,false,false,false⟩⟩:=rfl
theorem rm40:rmid M o ps k u 4 0=⟨1,o,doS ps u 1 (nxR M k) 0 0,if tellS ps u 1 (nxR M k)=0 then ⟨4,false,false,false⟩ else ⟨5,false,false,false⟩⟩:=rfl
end
theorem mid_ref {w:World} {M:Mp} {bk:Nat} {so:Option Addr} {cap:Nat} {dv:Value} {f:FL} {L:Lp} (h:MmIn w M bk so cap dv f L) {k:Nat} (hk:k<f.s.n) (u:Int) (hl:f.s.st k=1∨f.s.st k=3∨f.s.st k=4):
  liveR (f.s.st k) (f.pc k)∧(rmid M f.oth f.ps k u (f.s.st k) (f.pc k)).d=f.did L k u∧(rmid M f.oth f.ps k u (f.s.st k) (f.pc k)).ps=(f.mid L k u).ps∧(rmid M f.oth f.ps k u (f.s.st k) (f.pc k)).o=(f.mid L k u).oth∧pcR f.pc f.s k (rmid M f.oth f.ps k u (f.s.st k) (f.pc k))=(f.mid L k u).pc:=by
 have ht:(0:Int)≤(k:Int)∧(k:Int)<f.s.n:=by omega
 have l1:=h.l1
 have nx:∀ x:Int,M.a+1+2*x=L.nx x:=λx=>(nxL h.l2 x).symm
 have lk:∀ x:Int,M.a+2+2*x=L.lk x:=λx=>(lkL h.l2 x).symm
 have nxk:nxR M k=L.nx k:=nx k
 have lkk:lkR M k=L.lk k:=lk k
 have prg:=h.prg k
 have pcq:∀ r:RM,∀ x:Int,endI f.s k r.d.ev=x→pcR f.pc f.s k r=upd f.pc k (if x=1 then 0 else r.v):=λr x e=>by unfold pcR;rw [e]
 rcases hl with s1|s3|s4
 ·have no0:endI f.s k 0=0:=endI_none f.s hk 0 (by rw [s1];rfl)
  have on1:endI f.s k 1=1:=endI_one f.s hk 1 (by rw [s1];exact λq=>by cases q)
  have em:f.mid L k u=f.acq L k u:=by unfold FL.mid;rw [if_pos ht,Int.toNat_natCast,if_pos s1]
  have ed:f.did L k u=f.acqD L k u:=by unfold FL.did;rw [if_pos ht,Int.toNat_natCast,if_pos s1]
  refine ⟨.inl ⟨s1,prg⟩,?_⟩
  rw [em,ed,s1]
  have hp:f.pc k=0∨f.pc k=1∨f.pc k=2∨f.pc k=3∨f.pc k=4:=by omega
  rcases hp with p|p|p|p|p
  ·have ea:f.acq L k u={f with pc:=upd f.pc k 1,ps:=doS f.ps u 2 (L.nx k) 0 0}:=by unfold FL.acq;rw [if_pos p]
   have eb:f.acqD L k u=Dd.no:=by unfold FL.acqD;rw [if_pos p]
   rw [ea,eb,p,rm10,nxk]
   exact ⟨rfl,rfl,rfl,pcq _ 0 no0⟩
  ·have ea:f.acq L k u={f with pc:=upd f.pc k (if tellS f.ps u 3 L.a1=0 then 0 else 2),oth:=upd f.oth k (tellS f.ps u 3 L.a1),ps:=doS f.ps u 3 L.a1 0 ((k:Int)+1)}:=by unfold FL.acq;rw [if_neg (by omega),if_pos p]
   have eb:f.acqD L k u=⟨if tellS f.ps u 3 L.a1=0 then 1 else 0,true,false,false⟩:=by unfold FL.acqD;rw [if_neg (by omega),if_pos p]
   rw [ea,eb,p,rm11,l1]
   refine ⟨rfl,rfl,rfl,?_⟩
   by_cases q:tellS f.ps u 3 M.a=0
   ·rw [if_pos q,if_pos q];exact pcq _ 1 on1
   ·rw [if_neg q,if_neg q];exact pcq _ 0 no0
  ·have ea:f.acq L k u={f with pc:=upd f.pc k 3,ps:=doS f.ps u 2 (L.lk k) 0 1}:=by unfold FL.acq;rw [if_neg (by omega),if_neg (by omega),if_pos p]
   have eb:f.acqD L k u=Dd.no:=by unfold FL.acqD;rw [if_neg (by omega),if_neg (by omega),if_pos p]
   rw [ea,eb,p,rm12,lkk]
   exact ⟨rfl,rfl,rfl,pcq _ 0 no0⟩
  ·have ea:f.acq L k u={f with pc:=upd f.pc k 4,ps:=doS f.ps u 2 (L.nx (f.oth k-1)) 0 ((k:Int)+1)}:=by unfold FL.acq;rw [if_neg (by omega),if_neg (by omega),if_neg (by omega),if_pos p]
   have eb:f.acqD L k u=Dd.no:=by unfold FL.acqD;rw [if_neg (by omega),if_neg (by omega),if_neg (by omega),if_pos p]
   rw [ea,eb,p,rm13,nx]
   exact ⟨rfl,rfl,rfl,pcq _ 0 no0⟩
  ·have ea:f.acq L k u={f with pc:=upd f.pc k (if tellS f.ps u 1 (L.lk k)=0 then 0 else 4),ps:=doS f.ps u 1 (L.lk k) 0 0}:=by unfold FL.acq;rw [if_neg (by omega),if_neg (by omega),if_neg (by omega),if_neg (by omega)]
   have eb:f.acqD L k u=if tellS f.ps u 1 (L.lk k)=0 then ⟨1,false,false,false⟩ else Dd.no:=by unfold FL.acqD;rw [if_neg (by omega),if_neg (by omega),if_neg (by omega),if_neg (by omega)]
   rw [ea,eb,p,rm14,lkk]
   refine ⟨rfl,rfl,rfl,?_⟩
   by_cases q:tellS f.ps u 1 (L.lk k)=0
   ·rw [if_pos q,if_pos q];exact pcq _ 1 on1
   ·rw [if_neg q,if_neg q];exact pcq _ 0 no0
 ·have no0:endI f.s k 0=0:=endI_none f.s hk 0 (by rw [s3];rfl)
  have on3:endI f.s k 3=1:=endI_one f.s hk 3 (by rw [s3];exact λq=>by cases q)
  have n1:¬ f.s.st k=1:=by omega
  have em:f.mid L k u=f.rel L k u:=by unfold FL.mid;rw [if_pos ht,Int.toNat_natCast,if_neg n1,if_pos s3]
  have ed:f.did L k u=f.relD L k u:=by unfold FL.did;rw [if_pos ht,Int.toNat_natCast,if_neg n1,if_pos s3]
  have p3:=h.pc3 k hk s3
  refine ⟨.inr (.inl ⟨s3,prg.1,p3⟩),?_⟩
  rw [em,ed,s3]
  have hp:f.pc k=0∨f.pc k=1∨f.pc k=2∨f.pc k=3:=by omega
  rcases hp with p|p|p|p
  ·have ea:f.rel L k u={f with pc:=upd f.pc k (if tellS f.ps u 1 (L.nx k)=0 then 1 else 3),oth:=upd f.oth k (tellS f.ps u 1 (L.nx k)),ps:=doS f.ps u 1 (L.nx k) 0 0}:=by unfold FL.rel;rw [if_pos p]
   have eb:f.relD L k u=Dd.no:=by unfold FL.relD;rw [if_pos p]
   rw [ea,eb,p,rm30,nxk]
   exact ⟨rfl,rfl,rfl,pcq _ 0 no0⟩
  ·have ea:f.rel L k u={f with pc:=upd f.pc k (if casT f.ps u L.a1 ((k:Int)+1)=true then 0 else 2),ps:=doS f.ps u 4 L.a1 ((k:Int)+1) 0}:=by unfold FL.rel;rw [if_neg (by omega),if_pos p]
   have eb:f.relD L k u=if casT f.ps u L.a1 ((k:Int)+1)=true then ⟨3,false,false,false⟩ else Dd.no:=by unfold FL.relD;rw [if_neg (by omega),if_pos p]
   rw [ea,eb,p,rm31,l1]
   refine ⟨rfl,rfl,rfl,?_⟩
   by_cases q:casT f.ps u M.a ((k:Int)+1)=true
   ·rw [if_pos q,if_pos q];exact pcq _ 1 on3
   ·rw [if_neg q,if_neg q];exact pcq _ 0 no0
  ·have ea:f.rel L k u={f with pc:=upd f.pc k (if tellS f.ps u 1 (L.nx k)=0 then 2 else 3),oth:=upd f.oth k (tellS f.ps u 1 (L.nx k)),ps:=doS f.ps u 1 (L.nx k) 0 0}:=by unfold FL.rel;rw [if_neg (by omega),if_neg (by omega),if_pos p]
   have eb:f.relD L k u=Dd.no:=by unfold FL.relD;rw [if_neg (by omega),if_neg (by omega),if_pos p]
   rw [ea,eb,p,rm32,nxk]
   exact ⟨rfl,rfl,rfl,pcq _ 0 no0⟩
  ·have ea:f.rel L k u={f with pc:=upd f.pc k 0,ps:=doS f.ps u 2 (L.lk (f.oth k-1)) 0 0}:=by unfold FL.rel;rw [if_neg (by omega),if_neg (by omega),if_neg (by omega)]
   have eb:f.relD L k u=⟨3,false,false,false⟩:=by unfold FL.relD;rw [if_neg (by omega),if_neg (by omega),if_neg (by omega)]
   rw [ea,eb,p,rm33,lk]
   exact ⟨rfl,rfl,rfl,pcq _ 1 on3⟩
 ·have n1:¬ f.s.st k=1:=by omega
  have n3:¬ f.s.st k=3:=by omega
  have on4:endI f.s k 4=1:=endI_one f.s hk 4 (by rw [s4];exact λq=>by cases q)
  have on5:endI f.s k 5=1:=endI_one f.s hk 5 (by rw [s4];exact λq=>by cases q)
  have em:f.mid L k u=f.ask L k u:=by unfold FL.mid;rw [if_pos ht,Int.toNat_natCast,if_neg n1,if_neg n3,if_pos s4]
  have ed:f.did L k u=f.askD L k u:=by unfold FL.did;rw [if_pos ht,Int.toNat_natCast,if_neg n1,if_neg n3,if_pos s4]
  have p0:=h.pcI k hk n1 n3
  refine ⟨.inr (.inr ⟨s4,p0⟩),?_⟩
  rw [em,ed,s4,p0]
  unfold FL.ask FL.askD
  rw [rm40,nxk]
  refine ⟨rfl,rfl,rfl,?_⟩
  show pcR f.pc f.s k _=f.pc
  refine Eq.trans ?_ (upd_at f.pc k p0)
  by_cases q:tellS f.ps u 1 (L.nx k)=0
  ·rw [if_pos q];exact pcq _ 1 on4
  ·rw [if_neg q];exact pcq _ 1 on5
theorem ml_out {w:World} {M:Mp} {bk:Nat} {so:Option Addr} {cap:Nat} {dv:Value} {s:SS} {p o:Nat→Int} {ps:PSta} (h:MsIn w M bk so cap dv s p o ps) (t:Int) (ht:¬ (0≤t∧t<s.n)) (u x:Int):
  Calls prog 135 #[.pointer (some ⟨M.r,0,none⟩),.pointer (some ⟨M.pr,0,none⟩),.int .i64 t,.int .i64 u,.int .i64 x] w (MsPost w M bk dv s p o ps Dd.no):=by
 have n2:=h.n2
 have kk:Wr Nil w (w.alloc (.cells #[.int .i64 0,.int .i64 0,.int .i64 0,.int .i64 0] 136)):=(Wr.refl _ w).alloc _
 have b2:=(h.raw.after kk).cell2
 have hB:=blk_alloc_new w (.cells #[.int .i64 0,.int .i64 0,.int .i64 0,.int .i64 0] 136)
 have HE:=Lib.hid (And.intro (h.raw.after kk) (And.intro (h.ref.after kk λ_ _=>id) (And.intro hB kk)))
 clear h kk hB
 by_cases h0:t<0
 ·go_enter func135,ntmps135
  go_wp2
  refine bodyPost_ret (v:=Dd.rval Dd.no) (results_cell_row rfl _ _ w.heap.size 136 _ (0,0) _ rfl HE.out.2.2.1 underlying136 rfl i_rid) rfl ⟨rfl,HE.out.1,⟨bk,so,cap,dv,HE.out.2.1⟩,HE.out.2.2.2.mono λ_ _ e=>e.elim⟩
 ·have h1:(s.n:Int)≤t:=by omega
  clear ht
  generalize s.n=n at*
  go_enter func135,ntmps135
  go_wp2
  refine bodyPost_ret (v:=Dd.rval Dd.no) (results_cell_row rfl _ _ w.heap.size 136 _ (0,0) _ rfl HE.out.2.2.1 underlying136 rfl i_rid) rfl ⟨rfl,HE.out.1,⟨bk,so,cap,dv,HE.out.2.1⟩,HE.out.2.2.2.mono λ_ _ e=>e.elim⟩
theorem ml_idle {w:World} {M:Mp} {bk:Nat} {so:Option Addr} {cap:Nat} {dv:Value} {s:SS} {p o:Nat→Int} {ps:PSta} (h:MsIn w M bk so cap dv s p o ps) (k:Nat) (hk:k<s.n) (u x:Int) (h4:s.st k=0∨s.st k=2) (hp:p k=0):
  Calls prog 135 #[.pointer (some ⟨M.r,0,none⟩),.pointer (some ⟨M.pr,0,none⟩),.int .i64 (k:Int),.int .i64 u,.int .i64 x] w (MsPost w M bk dv s p o ps Dd.no):=by
 obtain ⟨hF,hR⟩:=h.start
 have n1:=h.n1
 have n2:=h.n2
 have a0:=h.ha.1
 have a1:=h.ha.2
 have b2:=(h.raw.after ((Wr.refl Nil w).alloc (.cells #[.int .i64 0,.int .i64 0,.int .i64 0,.int .i64 0] 136))).cell2
 have i0:(0:Int)≤(k:Int):=by omega
 have i1:(k:Int)<s.n:=by omega
 have i2:¬ (k:Int)<0:=by omega
 have i3:¬ (s.n:Int)≤(k:Int):=by omega
 have iN:decide (s.n≤k)=false:=decide_eq_false (by omega)
 obtain ⟨y,hy⟩:∃ y,y=s.st k:=⟨_,rfl⟩
 rw [←hy] at h4
 have hw4:IntKind.i64.wrap (M.a+1)=M.a+1:=by rw [IntKind.wrap_i64];omega
 have hw5:IntKind.i64.wrap (M.a+2)=M.a+2:=by rw [IntKind.wrap_i64];omega
 have hw6:IntKind.i64.wrap (2*(k:Int))=2*(k:Int):=by rw [IntKind.wrap_i64];omega
 have hw7:IntKind.i64.wrap (M.a+1+2*(k:Int))=M.a+1+2*(k:Int):=by rw [IntKind.wrap_i64];omega
 have hw8:IntKind.i64.wrap (M.a+2+2*(k:Int))=M.a+2+2*(k:Int):=by rw [IntKind.wrap_i64];omega
 obtain ⟨Z,hZ⟩:∃ Z,Z=(w.alloc (.cells #[.int .i64 0,.int .i64 0,.int .i64 0,.int .i64 0] 136)).alloc (.cells #[.int .i64 0,.int .i64 0,.int .i64 0,.int .i64 0] 136):=⟨_,rfl⟩
 rw [←hZ] at hF
 obtain ⟨g,cg,hgv,hg⟩:=SrAt.stV (hF.drew).raw.seat (by omega)
 have c0:=(hF.drew).raw.cell0
 have c1:=hF.raw.cell1
 have c2:=(hF.drew).raw.cell2
 have cs:=SrAt.cell0 (hF.drew).raw.seat
 rw [hgv] at cs
 have ct:=(hg k _ (stL_at s hk)).1
 have cp:=(hF.drew).raw.pcC hk
 rw [←hy] at ct
 rw [hp] at cp
 obtain ⟨e0,e1,e2,e3⟩:=hF.drew.dcell
 obtain ⟨v0,v1,v2,v3⟩:=hF.drew.rcell
 obtain ⟨x0,x1,x2,x3⟩:=hF.drew.rfrz
 have HE:=Lib.hid hF.drew
 have HZ:=Lib.hid hZ
 clear h hF hR hZ hy hgv hg hp
 rcases h4 with rfl|rfl
 ·go_enter func135,ntmps135
  go_wp2
  rw [←HZ.out]
  clear b2
  go_region_held3 (λw'=>w'.cell? ⟨M.r,1,none⟩=some (.int .i64 M.a)) (exact c1) (fail)
  generalize Z.drew=Y at*
  go_wp2
  refine bodyPost_ret (v:=Dd.rval Dd.no) (results_cell_row rfl _ _ w.heap.size 136 _ (0,0) _ rfl (set4 HE.out.res rfl _ _ _ _) underlying136 rfl i_rid) rfl HE.out.told
 ·go_enter func135,ntmps135
  go_wp2
  rw [←HZ.out]
  clear b2
  go_region_held3 (λw'=>w'.cell? ⟨M.r,1,none⟩=some (.int .i64 M.a)) (exact c1) (fail)
  generalize Z.drew=Y at*
  go_wp2
  refine bodyPost_ret (v:=Dd.rval Dd.no) (results_cell_row rfl _ _ w.heap.size 136 _ (0,0) _ rfl (set4 HE.out.res rfl _ _ _ _) underlying136 rfl i_rid) rfl HE.out.told
theorem mm_step {w:World} {M:Mp} {bk:Nat} {so:Option Addr} {cap:Nat} {dv:Value} {f:FL} {L:Lp} (h:MmIn w M bk so cap dv f L) (t u x:Int):
  Calls prog 135 #[.pointer (some ⟨M.r,0,none⟩),.pointer (some ⟨M.pr,0,none⟩),.int .i64 t,.int .i64 u,.int .i64 x] w (MmPost w M bk dv (f.step L t u) (f.did L t u)):=by
 obtain ⟨o,hraw,ho⟩:=h.ml.raw
 subst ho
 have hin:MsIn w M bk so cap dv f.s f.pc f.oth f.ps:=⟨hraw,h.ref,h.n1,h.n2,h.hD,h.hws,h.hac,h.hb,h.ha⟩
 by_cases ht:0≤t∧t<f.s.n
 ·obtain ⟨k,rfl⟩:=Int.eq_ofNat_of_zero_le ht.1
  have hk:k<f.s.n:=by omega
  have st4:=h.st4 k hk
  by_cases hl:f.s.st k=1∨f.s.st k=3∨f.s.st k=4
  ·obtain ⟨q0,q1,q2,q3,q4⟩:=mid_ref h hk u hl
   refine (ml_step hin k hk u x q0 (h.org k) (h.tell u)).mono ?_
   rintro e w' ⟨rfl,a,b,c⟩
   rw [q1,q3,q4] at a
   rw [q2] at b
   rw [q1]
   exact ⟨rfl,⟨_,a,rfl⟩,b,c⟩
  ·have n1:f.s.st k≠1:=λq=>hl (.inl q)
   have n3:f.s.st k≠3:=λq=>hl (.inr (.inl q))
   have n4:f.s.st k≠4:=λq=>hl (.inr (.inr q))
   have ed:f.did L k u=Dd.no:=by unfold FL.did;rw [if_pos ht,Int.toNat_natCast,if_neg n1,if_neg n3,if_neg n4]
   have es:f.step L k u=f:=by
    unfold FL.step
    rw [ed,fin_no]
    unfold FL.mid
    rw [if_pos ht,Int.toNat_natCast,if_neg n1,if_neg n3,if_neg n4]
   rw [ed,es]
   refine (ml_idle hin k hk u x (by omega) (h.pcI k hk n1 n3)).mono ?_
   rintro e w' ⟨rfl,a,b,c⟩
   exact ⟨rfl,⟨_,a,rfl⟩,b,c⟩
 ·have ed:f.did L t u=Dd.no:=by unfold FL.did;rw [if_neg ht]
  have es:f.step L t u=f:=by
   unfold FL.step
   have e0:endO f.s t Dd.no.ev=none:=by unfold endO;rw [if_neg ht]
   have e1:f.s.fin t Dd.no.ev=f.s:=by unfold SS.fin;rw [e0]
   rw [ed,e1]
   unfold FL.mid
   rw [if_neg ht]
  rw [ed,es]
  refine (ml_out hin t ht u x).mono ?_
  rintro e w' ⟨rfl,a,b,c⟩
  exact ⟨rfl,⟨_,a,rfl⟩,b,c⟩
def NewMlPost (w:World) (n:Nat) (a:Int) (e:Ending) (w':World):Prop:=
 ∃ M:Mp,e= .returned (.pointer (some ⟨M.r,0,none⟩))∧MlRaw w' M (newSeat n false true) (λ_=>0) (λ_=>0)∧M.a=a∧M.base=w'.heap.size∧(w.heap.size≤M.r∧∀ k,MF M k→w.heap.size≤k)∧Wr Nil w w'
theorem two_0 (w:World) (A B:Obj):((w.alloc A).alloc B).heap[w.heap.size]? =some A:=by
 rw [blk_alloc_lt _ _ _ (by rw [nblk_alloc];omega),blk_alloc_new]
theorem two_1 (w:World) (A B:Obj):((w.alloc A).alloc B).heap[w.heap.size+1]? =some B:=by
 rw [←nblk_alloc w A,blk_alloc_new]
theorem ml_end {w Wc w2 W:World} {n:Nat} {a:Int} {r pc mn lb:Nat} {hv dv:Value} {A B:Array Value} (hA:rowA n (inV λ_=>0)=A) (hB:rowA n (inV λ_=>0)=B) (h0:Wr Nil w Wc) (hR:RsAt w2 r hv dv (newSeat n false true)) (hnew:∀ k,SF r hv dv k→Wc.heap.size≤k) (hW:Wr Nil Wc w2) (h2:Wr Nil w2 W)
  (hp:W.heap[pc]? =some (.cells A 3 (0,0))) (hm:W.heap[mn]? =some (.cells B 3 (0,0))) (hpp:(w.heap.size≤pc∧pc<Wc.heap.size)∨w2.heap.size≤pc) (hmm:(w.heap.size≤mn∧mn<Wc.heap.size)∨w2.heap.size≤mn) (hne:pc≠mn) (hlb:lb=W.heap.size)
  (Y:World) (hY:Y=W.alloc (.cells #[.pointer (some ⟨r,0,none⟩),.int .i64 a,.slice (some ⟨pc,0,none⟩) n n,.slice (some ⟨mn,0,none⟩) n n] 163)):NewMlPost w n a (.returned (.pointer (some ⟨lb,0,none⟩))) Y:=by
 subst hlb hY hA hB
 have k:Wr Nil W (W.alloc (.cells #[.pointer (some ⟨r,0,none⟩),.int .i64 a,.slice (some ⟨pc,0,none⟩) n n,.slice (some ⟨mn,0,none⟩) n n] 163)):=(Wr.refl _ W).alloc _
 have e1:(W.alloc (.cells #[.pointer (some ⟨r,0,none⟩),.int .i64 a,.slice (some ⟨pc,0,none⟩) n n,.slice (some ⟨mn,0,none⟩) n n] 163)).heap.size=W.heap.size+1:=nblk_alloc _ _
 have s0:=h0.size
 have s1:=hW.size
 have s2:=h2.size
 have lp:=blk_lt hp
 have lm:=blk_lt hm
 have hsf:∀ k,SF r hv dv k→Wc.heap.size≤k∧k<w2.heap.size:=λk hk=>⟨hnew k hk,SrAt.lt hR hk⟩
 refine ⟨⟨W.heap.size,r,hv,dv,pc,mn,a,0,(W.alloc (.cells #[.pointer (some ⟨r,0,none⟩),.int .i64 a,.slice (some ⟨pc,0,none⟩) n n,.slice (some ⟨mn,0,none⟩) n n] 163)).heap.size⟩,rfl,⟨blk_alloc_new W _,hR.after (h2.nil k),(k.block _ lp id).trans hp,(k.block _ lm id).trans hm,⟨by dsimp only;omega,by dsimp only;omega,hne⟩,λj hj=> ?_,?_⟩,rfl,rfl,⟨by dsimp only;omega,λj hj=> ?_⟩,((h0.nil hW).nil h2).nil k⟩
 ·have:=hsf j hj
  dsimp only
  omega
 ·dsimp only
  exact ⟨by omega,by omega,by omega,λj hj=>by have:=hsf j hj;omega⟩
 ·rcases hj with rfl|rfl|hj
  ·(try dsimp only);omega
  ·(try dsimp only);omega
  ·have:=hsf j hj;omega
theorem ml_new (n:Nat) (n2:n≤64) (a:Int) (w:World):Calls prog 52 #[.int .i64 (n:Int),.int .i64 a] w (NewMlPost w n a):=by
 obtain ⟨i0,hi,hz0,hz1,hz2⟩:=info_parts info_int
 have hmk:∀ w:World,(Instr.makeSlice 22 (.int .i64 (n:Int)) (.int .i64 (n:Int))).run prog w= .ok (.slice (some ⟨w.heap.size,0,none⟩) n n) (w.alloc (.cells (rowA n (inV λ_=>0)) 3)):=by
  intro w
  have h:=Go.run_make (P:=prog) w 22 3 i0 _ underlying22 hi hz0 .i64 .i64 n n (by omega) (by omega) (by rw [hz2];omega) (by omega)
  rw [hz1] at h
  simp only [Int.toNat_natCast] at h
  rw [show madeCells (Value.int .i64 0).cells (n*1)=rowA n (inV λ_=>0) from made_row (.int .i64 0) n] at h
  exact h
 generalize hA:rowA n (inV λ_=>0)=A at hmk
 have cS:=λW=>rs_new n false true n2 W
 have HA:=Lib.hid (And.intro hA hA)
 clear hA
 go_enter func52,ntmps52
 go_wp2
 go_region_with (go_at_call 32;(with_reducible refine (cS _).mono ?_);intro e w2 hq;unfold RsNewPost at hq;obtain ⟨r,hv,dv,rfl,hR,hnew,hW⟩:=hq;have HR:=Lib.hid (And.intro hR (And.intro hnew hW));clear hR hnew hW cS)
 all_goals
  go_wp2
  go_ret
  first
   |exact ml_end HA.out.1 HA.out.2 ((Wr.refl Nil w).drew) HR.out.1 HR.out.2.1 HR.out.2.2 (((Wr.refl Nil w2).alloc _).alloc _) (two_0 w2 _ _) (two_1 w2 _ _) (by exact .inr (Nat.le_refl _)) (by exact .inr (Nat.le_succ _)) (by omega) (by simp only [nblk_alloc]) _ rfl
   |exact ml_end HA.out.1 HA.out.2 ((Wr.refl Nil w).drew) HR.out.1 HR.out.2.1 HR.out.2.2 (((Wr.refl Nil w2).alloc _).alloc _) (two_1 w2 _ _) (two_0 w2 _ _) (by exact .inr (Nat.le_succ _)) (by exact .inr (Nat.le_refl _)) (by omega) (by simp only [nblk_alloc]) _ rfl
   |exact ml_end HA.out.1 HA.out.2 (((Wr.refl Nil w).alloc _).drew) HR.out.1 HR.out.2.1 HR.out.2.2 ((Wr.refl Nil w2).alloc _) ((blk_alloc_lt w2 _ _ (Nat.lt_of_lt_of_le ((by have e:(w.alloc (.cells A 3)).heap.size=w.heap.size+1:=nblk_alloc _ _;show w.heap.size<(w.alloc (.cells A 3)).heap.size;omega)) HR.out.2.2.size)).trans ((HR.out.2.2.block w.heap.size ((by have e:(w.alloc (.cells A 3)).heap.size=w.heap.size+1:=nblk_alloc _ _;show w.heap.size<(w.alloc (.cells A 3)).heap.size;omega)) id).trans (blk_alloc_new w (.cells A 3)))) (blk_alloc_new w2 _) (by exact .inl ⟨Nat.le_refl _,(by have e:(w.alloc (.cells A 3)).heap.size=w.heap.size+1:=nblk_alloc _ _;show w.heap.size<(w.alloc (.cells A 3)).heap.size;omega)⟩) (by exact .inr (Nat.le_refl _)) (by have q1:w.heap.size<(w.alloc (.cells A 3)).heap.size:=(by have e:(w.alloc (.cells A 3)).heap.size=w.heap.size+1:=nblk_alloc _ _;show w.heap.size<(w.alloc (.cells A 3)).heap.size;omega);have q2:=HR.out.2.2.size;have q3:(w.alloc (.cells A 3)).heap.size≤w2.heap.size:=q2;omega) (by simp only [nblk_alloc]) _ rfl
   |exact ml_end HA.out.1 HA.out.2 (((Wr.refl Nil w).drew).alloc _) HR.out.1 HR.out.2.1 HR.out.2.2 ((Wr.refl Nil w2).alloc _) ((blk_alloc_lt w2 _ _ (Nat.lt_of_lt_of_le ((by have e:(w.alloc (.cells A 3)).heap.size=w.heap.size+1:=nblk_alloc _ _;show w.heap.size<(w.alloc (.cells A 3)).heap.size;omega)) HR.out.2.2.size)).trans ((HR.out.2.2.block w.heap.size ((by have e:(w.alloc (.cells A 3)).heap.size=w.heap.size+1:=nblk_alloc _ _;show w.heap.size<(w.alloc (.cells A 3)).heap.size;omega)) id).trans (blk_alloc_new w (.cells A 3)))) (blk_alloc_new w2 _) (by exact .inl ⟨Nat.le_refl _,(by have e:(w.alloc (.cells A 3)).heap.size=w.heap.size+1:=nblk_alloc _ _;show w.heap.size<(w.alloc (.cells A 3)).heap.size;omega)⟩) (by exact .inr (Nat.le_refl _)) (by have q1:w.heap.size<(w.alloc (.cells A 3)).heap.size:=(by have e:(w.alloc (.cells A 3)).heap.size=w.heap.size+1:=nblk_alloc _ _;show w.heap.size<(w.alloc (.cells A 3)).heap.size;omega);have q2:=HR.out.2.2.size;have q3:(w.alloc (.cells A 3)).heap.size≤w2.heap.size:=q2;omega) (by simp only [nblk_alloc]) _ rfl
   |exact ml_end HA.out.1 HA.out.2 (((Wr.refl Nil w).alloc _).drew) HR.out.1 HR.out.2.1 HR.out.2.2 ((Wr.refl Nil w2).alloc _) (blk_alloc_new w2 _) ((blk_alloc_lt w2 _ _ (Nat.lt_of_lt_of_le ((by have e:(w.alloc (.cells A 3)).heap.size=w.heap.size+1:=nblk_alloc _ _;show w.heap.size<(w.alloc (.cells A 3)).heap.size;omega)) HR.out.2.2.size)).trans ((HR.out.2.2.block w.heap.size ((by have e:(w.alloc (.cells A 3)).heap.size=w.heap.size+1:=nblk_alloc _ _;show w.heap.size<(w.alloc (.cells A 3)).heap.size;omega)) id).trans (blk_alloc_new w (.cells A 3)))) (by exact .inr (Nat.le_refl _)) (by exact .inl ⟨Nat.le_refl _,(by have e:(w.alloc (.cells A 3)).heap.size=w.heap.size+1:=nblk_alloc _ _;show w.heap.size<(w.alloc (.cells A 3)).heap.size;omega)⟩) (by have q1:w.heap.size<(w.alloc (.cells A 3)).heap.size:=(by have e:(w.alloc (.cells A 3)).heap.size=w.heap.size+1:=nblk_alloc _ _;show w.heap.size<(w.alloc (.cells A 3)).heap.size;omega);have q2:=HR.out.2.2.size;have q3:(w.alloc (.cells A 3)).heap.size≤w2.heap.size:=q2;omega) (by simp only [nblk_alloc]) _ rfl
   |exact ml_end HA.out.1 HA.out.2 (((Wr.refl Nil w).drew).alloc _) HR.out.1 HR.out.2.1 HR.out.2.2 ((Wr.refl Nil w2).alloc _) (blk_alloc_new w2 _) ((blk_alloc_lt w2 _ _ (Nat.lt_of_lt_of_le ((by have e:(w.alloc (.cells A 3)).heap.size=w.heap.size+1:=nblk_alloc _ _;show w.heap.size<(w.alloc (.cells A 3)).heap.size;omega)) HR.out.2.2.size)).trans ((HR.out.2.2.block w.heap.size ((by have e:(w.alloc (.cells A 3)).heap.size=w.heap.size+1:=nblk_alloc _ _;show w.heap.size<(w.alloc (.cells A 3)).heap.size;omega)) id).trans (blk_alloc_new w (.cells A 3)))) (by exact .inr (Nat.le_refl _)) (by exact .inl ⟨Nat.le_refl _,(by have e:(w.alloc (.cells A 3)).heap.size=w.heap.size+1:=nblk_alloc _ _;show w.heap.size<(w.alloc (.cells A 3)).heap.size;omega)⟩) (by have q1:w.heap.size<(w.alloc (.cells A 3)).heap.size:=(by have e:(w.alloc (.cells A 3)).heap.size=w.heap.size+1:=nblk_alloc _ _;show w.heap.size<(w.alloc (.cells A 3)).heap.size;omega);have q2:=HR.out.2.2.size;have q3:(w.alloc (.cells A 3)).heap.size≤w2.heap.size:=q2;omega) (by simp only [nblk_alloc]) _ rfl
   |exact ml_end HA.out.1 HA.out.2 ((((Wr.refl Nil w).alloc _).alloc _).drew) HR.out.1 HR.out.2.1 HR.out.2.2 (Wr.refl Nil w2) ((HR.out.2.2.block w.heap.size ((by have e:((w.alloc (.cells A 3)).alloc (.cells A 3)).heap.size=w.heap.size+1+1:=(by rw [nblk_alloc,nblk_alloc]);show w.heap.size<((w.alloc (.cells A 3)).alloc (.cells A 3)).heap.size;omega)) id).trans (two_0 w (.cells A 3) (.cells A 3))) ((HR.out.2.2.block (w.heap.size+1) ((by have e:((w.alloc (.cells A 3)).alloc (.cells A 3)).heap.size=w.heap.size+1+1:=(by rw [nblk_alloc,nblk_alloc]);show w.heap.size+1<((w.alloc (.cells A 3)).alloc (.cells A 3)).heap.size;omega)) id).trans (two_1 w (.cells A 3) (.cells A 3))) (by exact .inl ⟨Nat.le_refl _,(by have e:((w.alloc (.cells A 3)).alloc (.cells A 3)).heap.size=w.heap.size+1+1:=(by rw [nblk_alloc,nblk_alloc]);show w.heap.size<((w.alloc (.cells A 3)).alloc (.cells A 3)).heap.size;omega)⟩) (by exact .inl ⟨Nat.le_succ _,(by have e:((w.alloc (.cells A 3)).alloc (.cells A 3)).heap.size=w.heap.size+1+1:=(by rw [nblk_alloc,nblk_alloc]);show w.heap.size+1<((w.alloc (.cells A 3)).alloc (.cells A 3)).heap.size;omega)⟩) (by omega) rfl _ rfl
   |exact ml_end HA.out.1 HA.out.2 ((((Wr.refl Nil w).drew).alloc _).alloc _) HR.out.1 HR.out.2.1 HR.out.2.2 (Wr.refl Nil w2) ((HR.out.2.2.block w.heap.size ((by have e:((w.alloc (.cells A 3)).alloc (.cells A 3)).heap.size=w.heap.size+1+1:=(by rw [nblk_alloc,nblk_alloc]);show w.heap.size<((w.alloc (.cells A 3)).alloc (.cells A 3)).heap.size;omega)) id).trans (two_0 w (.cells A 3) (.cells A 3))) ((HR.out.2.2.block (w.heap.size+1) ((by have e:((w.alloc (.cells A 3)).alloc (.cells A 3)).heap.size=w.heap.size+1+1:=(by rw [nblk_alloc,nblk_alloc]);show w.heap.size+1<((w.alloc (.cells A 3)).alloc (.cells A 3)).heap.size;omega)) id).trans (two_1 w (.cells A 3) (.cells A 3))) (by exact .inl ⟨Nat.le_refl _,(by have e:((w.alloc (.cells A 3)).alloc (.cells A 3)).heap.size=w.heap.size+1+1:=(by rw [nblk_alloc,nblk_alloc]);show w.heap.size<((w.alloc (.cells A 3)).alloc (.cells A 3)).heap.size;omega)⟩) (by exact .inl ⟨Nat.le_succ _,(by have e:((w.alloc (.cells A 3)).alloc (.cells A 3)).heap.size=w.heap.size+1+1:=(by rw [nblk_alloc,nblk_alloc]);show w.heap.size+1<((w.alloc (.cells A 3)).alloc (.cells A 3)).heap.size;omega)⟩) (by omega) rfl _ rfl
   |exact ml_end HA.out.1 HA.out.2 ((((Wr.refl Nil w).alloc _).alloc _).drew) HR.out.1 HR.out.2.1 HR.out.2.2 (Wr.refl Nil w2) ((HR.out.2.2.block (w.heap.size+1) ((by have e:((w.alloc (.cells A 3)).alloc (.cells A 3)).heap.size=w.heap.size+1+1:=(by rw [nblk_alloc,nblk_alloc]);show w.heap.size+1<((w.alloc (.cells A 3)).alloc (.cells A 3)).heap.size;omega)) id).trans (two_1 w (.cells A 3) (.cells A 3))) ((HR.out.2.2.block w.heap.size ((by have e:((w.alloc (.cells A 3)).alloc (.cells A 3)).heap.size=w.heap.size+1+1:=(by rw [nblk_alloc,nblk_alloc]);show w.heap.size<((w.alloc (.cells A 3)).alloc (.cells A 3)).heap.size;omega)) id).trans (two_0 w (.cells A 3) (.cells A 3))) (by exact .inl ⟨Nat.le_succ _,(by have e:((w.alloc (.cells A 3)).alloc (.cells A 3)).heap.size=w.heap.size+1+1:=(by rw [nblk_alloc,nblk_alloc]);show w.heap.size+1<((w.alloc (.cells A 3)).alloc (.cells A 3)).heap.size;omega)⟩) (by exact .inl ⟨Nat.le_refl _,(by have e:((w.alloc (.cells A 3)).alloc (.cells A 3)).heap.size=w.heap.size+1+1:=(by rw [nblk_alloc,nblk_alloc]);show w.heap.size<((w.alloc (.cells A 3)).alloc (.cells A 3)).heap.size;omega)⟩) (by omega) rfl _ rfl
   |exact ml_end HA.out.1 HA.out.2 ((((Wr.refl Nil w).drew).alloc _).alloc _) HR.out.1 HR.out.2.1 HR.out.2.2 (Wr.refl Nil w2) ((HR.out.2.2.block (w.heap.size+1) ((by have e:((w.alloc (.cells A 3)).alloc (.cells A 3)).heap.size=w.heap.size+1+1:=(by rw [nblk_alloc,nblk_alloc]);show w.heap.size+1<((w.alloc (.cells A 3)).alloc (.cells A 3)).heap.size;omega)) id).trans (two_1 w (.cells A 3) (.cells A 3))) ((HR.out.2.2.block w.heap.size ((by have e:((w.alloc (.cells A 3)).alloc (.cells A 3)).heap.size=w.heap.size+1+1:=(by rw [nblk_alloc,nblk_alloc]);show w.heap.size<((w.alloc (.cells A 3)).alloc (.cells A 3)).heap.size;omega)) id).trans (two_0 w (.cells A 3) (.cells A 3))) (by exact .inl ⟨Nat.le_succ _,(by have e:((w.alloc (.cells A 3)).alloc (.cells A 3)).heap.size=w.heap.size+1+1:=(by rw [nblk_alloc,nblk_alloc]);show w.heap.size+1<((w.alloc (.cells A 3)).alloc (.cells A 3)).heap.size;omega)⟩) (by exact .inl ⟨Nat.le_refl _,(by have e:((w.alloc (.cells A 3)).alloc (.cells A 3)).heap.size=w.heap.size+1+1:=(by rw [nblk_alloc,nblk_alloc]);show w.heap.size<((w.alloc (.cells A 3)).alloc (.cells A 3)).heap.size;omega)⟩) (by omega) rfl _ rfl
theorem lit_one (w:World) (e:TypeId) (x:Value):Grow e 1 w w.heap.size (w.alloc (.cells #[x] e)) 1 [x] (.slice (some ⟨w.heap.size,0,none⟩) 1 1):=
 ⟨World.ownsRow_lit w #[x] 1 (Nat.le_refl _) (by decide) rfl,(Wr.refl _ w).alloc _,by rw [nblk_alloc];omega,Nat.le_refl _⟩
def HomesNewPost (w:World) (zs:List Int) (n:Nat) (e:Ending) (w':World):Prop:=∃ g cap,e= .returned (.slice (some ⟨g,0,none⟩) (2*n+1) cap)∧RowAt .i64 w' (some ⟨g,0,none⟩) (2*n+1) ([zs.getD 0 0]++dbl zs)∧Wr Nil w w'
theorem ml_homes {w:World} {b o n cp:Nat} {zs:List Int} (hr:RowAt .i64 w (some ⟨b,o,none⟩) n zs) (n1:1≤n) (n64:n≤64):Calls prog 54 #[.slice (some ⟨b,o,none⟩) n cp] w (HomesNewPost w zs n):=by
 obtain ⟨i0,hi,hz0,hz1,hz2⟩:=info_parts info_int
 have hc:=hr.cell ⟨b,o,none⟩ rfl 0 (by omega)
 have hc:w.cell? ⟨b,o,none⟩=some (.int .i64 (zs.getD 0 0)):=hc
 obtain ⟨x,hx⟩:∃ x,x=zs.getD 0 0:=⟨_,rfl⟩
 have HL:=Lib.hid (lit_one w 3 (.int .i64 x))
 unfold HomesNewPost
 rw [←hx] at hc ⊢
 have hlen:=hr.len
 have HR:=Lib.hid hr
 have n0:(0:Nat)<n:=n1
 clear hr hx
 go_enter func54,ntmps54
 go_wp2
 clear hc
 go_loopw [3,5,12] (λv3 _ v12 wr=>∃ k:Nat,k≤n∧v12= .int .i64 k∧Grow 3 1 w w.heap.size wr (2*k+1) (([x]++dbl (zs.take k)).map (.int .i64)) v3) (λ_ _ v12 _=>n-(intOf v12).toNat)
 case atStart=>exact ⟨0,Nat.zero_le _,rfl,HL.out⟩
 case round=>
  clear HL
  obtain ⟨k,hk,rfl,hG⟩:=hrel
  by_cases hlt:k<n
  ·have hsz:=hG.size
   have hmore:=dbl_more zs (k:=k) (by omega)
   have yc:wr.cell? ⟨b,o+k,none⟩=some (.int .i64 (zs.getD k 0)):=by
    rcases (HR.out.after hG.wrote).at with h0|⟨b',o',e,hc⟩
    ·omega
    ·cases e;exact hc _ hlt
   generalize zs.getD k 0=y at*
   have HG:=Lib.hid hG
   have hown:=hG.own
   clear hG
   have key:∀ (w1:World) (v':Value),w1.ownsRow w.heap.size 3 1 v' (2*k+1+2) (([x]++dbl (zs.take k)).map (.int .i64)++[.int .i64 y,.int .i64 y])→(wr.alloc (.cells #[.int .i64 y,.int .i64 y] 3)).grownBy w1 (u3).ownBlock→Grow 3 1 w w.heap.size w1 (2*(k+1)+1) (([x]++dbl (zs.take (k+1))).map (.int .i64)) v':=λw1 v' ho hg=>by
    have h2:=(HG.out.after ((Wr.refl Nil wr).alloc (.cells #[.int .i64 y,.int .i64 y] 3))).more (m:=2) (news:=[.int .i64 y,.int .i64 y]) ho hg
    rw [hmore,show 2*(k+1)+1=2*k+1+2 by omega]
    simpa using h2
   have HK:=Lib.hid key
   clear key hmore
   go_wp2_with (at_builtin;refine wpList_append_own _ rfl _ _ 22 rfl w.heap.size 3 i0 (.int .i64 0) 1 8 underlying22 hi hz0 hz1 hz2 rfl (by decide) _ _ _ rfl (hown.alloc _) ⟨wr.heap.size,0,none⟩ 2 2 [.int .i64 y,.int .i64 y] rfl rfl ?c1 ?c2 ?c3 ?c4 ?c5 ?_)
   case c1=>
    intro j u hj
    match j,hj with
    |0,hj=>simp at hj;subst hj;simp [Addr.add]
    |1,hj=>simp at hj;subst hj;simp [Addr.add]
   case c2=>intro u hu;simp at hu;subst hu;rfl
   case c3=>unfold maxLen;omega
   case c4=>omega
   case c5=>simp;omega
   ·intro v' w1 hown' hgrow _
    have HN:=Lib.hid (HK.out _ _ hown' hgrow)
    clear hown' hgrow
    go_wp2
    go_roundw
    case rel=>exact ⟨k+1,by omega,by go_num,HN.out⟩
    case measure=>simp [intOf];omega
  ·obtain rfl:k=n:=by omega
   obtain ⟨g,cap,rfl,hrow⟩:=own_row hG.own (Nat.succ_pos _)
   have HG:=Lib.hid (And.intro hrow hG.wrote)
   clear hG hrow
   go_wp2
   go_ret
   have e:=HG.out.1.2.2.2.1
   rw [List.take_of_length_le (by omega)] at e
   exact ⟨g,cap,rfl,e,HG.out.2⟩
end Go.Proofs.YtkmikkjjnbikdaaGreat.Km
