
import Derived.Test.YtmnephejhkfchaaGreatMcsEnd
import Derived.Test.YtmnephejhkfchaaGreatFlatOrd
namespace Go.Proofs.YtmnephejhkfchaaGreat.Km
set_option maxHeartbeats 8000000
open _root_.Go.Proofs.Tryz Go.Deep
open Go.RowKit Go.BigFrame
set_option linter.unusedVariables false
set_option maxRecDepth 100000
def MC (zs:List Int):List Int:=zs.flatMap λz=>[z,z]
theorem Ii (zs:List Int):(MC zs).length=2*zs.length:=by
 unfold MC;induction zs with
 |nil=>rfl
 |cons z r ih=>rw [List.flatMap_cons,List.length_append,ih];simp;omega
theorem MD (zs:List Int) {k:Nat} (hk:k<zs.length):MC (zs.take (k+1))=MC (zs.take k)++List.replicate 2 (zs.getD k 0):=by
 unfold MC;rw [List.take_add_one,List.getElem?_eq_getElem hk,List.getD_eq_getElem?_getD,List.getElem?_eq_getElem hk,List.flatMap_append];rfl
theorem CT (k:Nat) (x:Int):List.replicate (2*(k+1)) x=List.replicate (2*k) x++List.replicate 2 x:=by
 rw [List.replicate_append_replicate,show 2*(k+1)=2*k+2 by omega]
abbrev FC (p:Nat) (x:Int) (tb n:Nat):Array Value:= #[.pointer (some ⟨p,0,none⟩),.pointer none,.int .i64 x,.slice (some ⟨tb,0,none⟩) n n]
abbrev YE (lb p sb tb:Nat) (x:Int):Lp:=⟨lb,p,sb,tb,x,x+1,⟨0,0,0,0,0,0,0,0,0,0,0,0,.pointer none⟩,[]⟩
structure LaySt (w:World) (q:Pl) (t:Int) (lb p sb tb b o n:Nat) (zs:List Int) (x:Int) (hs vs:List Int) (wr:World):Prop where
 plan:∃ q':Pl,q'.p=q.p/\PlanAt wr q' t hs vs/\Came w q.F q'.F/\¬ q'.F lb/\¬ q'.F p/\¬ q'.F sb/\¬ q'.F tb/\¬ q'.F b
 kp:Wr q.F w wr
 raw:FlRaw wr (YE lb p sb tb x) (.pointer none) (AQ n false true) (λ_=>0) (λ_=>0)
 row:Ad .i64 wr (some ⟨b,o,none⟩) n zs
 low:w.heap.size<=lb/\w.heap.size<=p/\w.heap.size<=sb/\w.heap.size<=tb
namespace LaySt
variable {w wr w':World} {q:Pl} {t:Int} {lb p sb tb b o n:Nat} {zs:List Int} {x:Int} {hs vs:List Int}
theorem home (h:LaySt w q t lb p sb tb b o n zs x hs vs wr) {j:Nat} (hj:j<n):wr.cell? ⟨b,o+j,none⟩=some (.int .i64 (zs.getD j 0)):=zz2m
end LaySt
def Ax (w:World) (q:Pl) (t:Int) (lb p sb tb b o n:Nat) (zs:List Int) (x:Int) (hs vs:List Int) (r:Value) (e:Ending) (w':World):Prop:=e= .returned r/\LaySt w q t lb p sb tb b o n zs x hs vs w'
section
variable {w wr:World} {q:Pl} {t:Int} {lb p sb tb b o n:Nat} {zs:List Int} {x:Int} {hs vs:List Int}
theorem JK (h:LaySt w q t lb p sb tb b o n zs x hs vs wr) (hb:b<w.heap.size) (y:Int) (hL:hs.length<=900000):
  Calls prog 55 #[.pointer (some ⟨q.p,0,none⟩),.int .i64 2,.int .i64 y,.int .u32 0] wr (Ax w q t lb p sb tb b o n zs x (hs++List.replicate 2 y) (vs++List.replicate 2 0) (.int .i64 (hs.length:Nat))):=by
 obtain ⟨q',hq,hP,hC,f1,f2,f3,f4,f5⟩:=h.plan;have c:=KJ hP 2 y 0 hL;rw [hq,show O2 2=2 from rfl] at c;refine c.mono ?_;intro e w2 hp;unfold C4 at hp;obtain ⟨rfl,q2,D7,Fk,hW,Gj⟩:=hp;have s1:=h.kp.size;have l1:=A2 h.raw.obj;have l2:=A2 h.raw.seat.obj;have l3:=A2 h.raw.seat.ctx;have l4:=A2 h.raw.tick;have hn:∀ k,k<wr.heap.size->¬ q'.F k->¬ q2.F k:=λk hk h0 e=>by
  rcases Gj k e with e|e
  ·exact h0 e
  ·omega
 refine ⟨rfl,⟨q2,D7.trans hq,Fk,hC.trans Gj s1,hn _ l1 f1,hn _ l2 f2,hn _ l3 f3,hn _ l4 f4,hn _ (by omega) f5⟩,h.kp.trans hW λj hj e=> ?_,h.raw.wrote hW f1 f2 f3 f4,h.row.wrote hW λa ha e=> ?_,h.low⟩
 ·rcases hC j e with e|e
  ·exact e
  ·omega
 ·cases ha
  exact f5 e
end
def J3 (W:World) (q:Pl) (t:Int) (b o n:Nat) (zs:List Int) (hs vs:List Int) (r:Value) (e:Ending) (w':World):Prop:=e= .returned r/\∃ q':Pl,q'.p=q.p/\PlanAt w' q' t hs vs/\Wr q.F W w'/\Came W q.F q'.F/\Ad .i64 w' (some ⟨b,o,none⟩) n zs
theorem Lt {w W:World} {q:Pl} {t:Int} {hs vs:List Int} {b o n:Nat} {zs:List Int} (h:PlanAt w q t hs vs) (hr:Ad .i64 w (some ⟨b,o,none⟩) n zs) (hb:¬ q.F b) (hL:hs.length<=900000) (k:Wr Nil w W) (x:Int):
  Calls prog 50 #[.pointer (some ⟨q.p,0,none⟩),.int .i64 x,.int .u32 0] W (J3 W q t b o n zs (hs++[x]) (vs++[0]) (.int .i64 (hs.length:Nat))):=zz3i
theorem LP:(prog.info? 245).map (λi=>(i.zero,i.size,i.bytes))=some (some (.agg #[.int .i64 0,.int .u32 0]),2,16):=by kernel_rfl
theorem bI:G3 (λ_=>0) (λ_=>0)=λ_=>0:=by funext j;unfold G3;exact Qj (show (0:Int)<=1 by decide)
theorem DZ (n:Nat):madeCells (Value.agg #[.int .i64 0,.int .u32 0]).cells (n*2)=(BS n (λ_=>0) (λ_=>0)).toArray:=by
 apply Array.ext';show (madeCells (#[.int .i64 0,.int .u32 0]:Array Value) (n*2)).toList=BS n (λ_=>0) (λ_=>0);exact zz1d
def FG (w:World) (q:Pl) (t:Int) (hs vs:List Int) (n:Nat) (zs:List Int) (e:Ending) (w':World):Prop:=
 ∃ (L:Lp) (q':Pl),e= .returned (.tuple #[.pointer (some ⟨L.lb,0,none⟩),.int .i64 0])/\FlRaw w' L (.pointer none) (AQ n false true) (λ_=>0) (λ_=>0)/\
  (w.heap.size<=L.lb/\w.heap.size<=L.p/\w.heap.size<=L.b/\w.heap.size<=L.tb)/\L.a1=hs.length/\L.a2=hs.length+1/\q'.p=q.p/\PlanAt w' q' t (hs++[zs.getD 0 0]++MC zs) (vs++[0]++List.replicate (2*n) 0)/\Wr q.F w w'/\Came w q.F q'.F
theorem CG {w wq w1 w2 W:World} {q q2:Pl} {t:Int} {hs vs hs2 vs2:List Int} {b o n p sb lb tb:Nat} {zs:List Int} {A:Array Value} {x:Int} (h:PlanAt w q t hs vs) (QH:b<w.heap.size) (hb:¬ q.F b) (kq:Wr Nil w wq) (hS:SeatAt wq p sb (AQ n false true)) (hp:w.heap.size<=p) (Eg:w.heap.size<=sb) (hA:(BS n (λ_=>0) (λ_=>0)).toArray=A)
  (k1:Wr Nil wq w1) (D7:q2.p=q.p) (Fk:PlanAt w2 q2 t hs2 vs2) (hW:Wr q.F w1 w2) (hC:Came w1 q.F q2.F) (hr2:Ad .i64 w2 (some ⟨b,o,none⟩) n zs) (k3:Wr Nil w2 W)
  (hT:W.heap[tb]? =some (.cells A 245 (0,0))) (ht:wq.heap.size<=tb) (ht2:tb<w1.heap.size\/w2.heap.size<=tb) (hO:W.heap[lb]? =some (.cells (FC p x tb n) 127 (0,0))) (hl:w2.heap.size<=lb) (hlt:lb≠tb) (hx:0<=x/\x<=2000000):
  LaySt w q t lb p sb tb b o n zs x hs2 vs2 W:=by
 have s1:=kq.size;have s2:=k1.size;have s3:=hW.size;have l1:=A2 hS.obj;have l2:=A2 hS.ctx;have hF:∀ k,w.heap.size<=k->¬ q.F k:=λk hk e=>by have:=h.lt e;omega
 have hF2:∀ k,k<w1.heap.size->¬ q.F k->¬ q2.F k:=λk hk h0 e=>by
  rcases hC k e with e|e
  ·exact h0 e
  ·omega
 have Em:∀ k,w2.heap.size<=k->¬ q2.F k:=λk hk e=>by have:=Fk.lt e;omega
 have Xh:=(hS.wrote k1 id id).wrote hW (hF p hp) (hF sb Eg);have fY:=Xh.wrote k3 id id;have hne:=hS.ne;have kw:Wr q.F w W:=(((kq.nil k1).mono λ_ _ e=>e.elim:Wr q.F w w1).trans hW λ_ _ e=>e).trans k3 λ_ _ e=>e.elim;refine ⟨⟨q2,D7,Fk.after k3,λj hj=> ?_,Em _ hl,hF2 _ (by omega) (hF p hp),hF2 _ (by omega) (hF sb Eg),?_,hF2 _ (by omega) hb⟩,kw,⟨hO,fY,?_,⟨by dsimp only;omega,by dsimp only;omega,?_,?_,by dsimp only;omega⟩,λ_=>by decide,λ_ _=>by decide,⟨hx.1,hx.2,rfl⟩⟩,hr2.after k3,by omega,by omega,by omega,by omega⟩
 ·exact zz39
 ·exact zz6u
 ·rw [bI];exact hT.trans (by rw [<-hA];rfl)
 ·show p≠tb;omega
 ·show sb≠tb;omega
theorem DA {w wr:World} {q:Pl} {t:Int} {hs vs:List Int} {b o n p sb lb tb:Nat} {zs:List Int} {x:Int} (h:PlanAt w q t hs vs) (hl:LaySt w q t lb p sb tb b o n zs ((hs.length:Nat):Int) (hs++[x]++MC (zs.take n)) (vs++[0]++List.replicate (2*n) 0) wr) (hn:zs.length=n) (hx:x=zs.getD 0 0):
  FG w q t hs vs n zs (.returned (.tuple #[.pointer (some ⟨lb,0,none⟩),.int .i64 0])) wr:=by
 obtain ⟨q',hq,hP,hC,_⟩:=hl.plan;rw [List.take_of_length_le (by omega),hx] at hP;exact ⟨_,q',rfl,hl.raw,hl.low,rfl,rfl,hq,hP,hl.kp,hC⟩
theorem Cv {w:World} {q:Pl} {t:Int} {hs vs:List Int} (h:PlanAt w q t hs vs) {b o n cap:Nat} {zs:List Int} (hr:Ad .i64 w (some ⟨b,o,none⟩) n zs) (ho:A8 zs=true) (n1:1<=n) (n2:n<=64) (hL:hs.length<=800000) (hb:¬ q.F b):
  Calls prog 37 #[.pointer (some ⟨q.p,0,none⟩),.slice (some ⟨b,o,none⟩) n cap] w (FG w q t hs vs n zs):=by
 obtain ⟨i0,hi,hz0,hz1,hz2⟩:=info_parts LP;have hmk:∀ w:World,(Instr.makeSlice 125 (.int .i64 (n:Int)) (.int .i64 (n:Int))).run prog w= .ok (.slice (some ⟨w.heap.size,0,none⟩) n n) (w.alloc (.cells (BS n (λ_=>0) (λ_=>0)).toArray 245)):=by
  intro w;have h:=Go.run_make (P:=prog) w 125 245 i0 _ underlying125 hi hz0 .i64 .i64 n n (by omega) (by omega) (by rw [hz2];omega) (by omega);exact zz2o
 generalize hA:(BS n (λ_=>0) (λ_=>0)).toArray=A at hmk;have cS:=EY (cap:=cap) hr ho false true n1 n2;obtain ⟨x,hx⟩:∃ x,x=zs.getD 0 0:=⟨_,rfl⟩
 have hc:=hr.cell ⟨b,o,none⟩ rfl 0 (by omega);have hc:w.cell? ⟨b,o,none⟩=some (.int .i64 x):=by rw [hx];exact hc
 have Fy:b<w.heap.size:=World.block_lt_of_cell? w _ hc;have hlen:=hr.len;have HX:=Qw (Qz h (Qz hr (Qz hA (Qz Fy (Qz hb hx)))));have HC:=Qw hc;clear h hr ho hA hb Fy hx hc;have n0:(0:Nat)<n:=n1
 go_in
 go_wp2_with (first
  |((with_reducible refine cS.mono ?_);intro e wq hq;unfold Br at hq;obtain ⟨p,sb,rfl,hS,hp,Eg,hW⟩:=hq;have b1:=hW.old HC.out;have HS:=Qw (Qz hS (Qz hp (Qz Eg hW)));clear hS hp Eg hW cS))
 have cW:=λW (k:Wr Nil w W)=>Lt HX.out.1 HX.out.2.1 HX.out.2.2.2.2.1 (by omega) k x
 go_region_held3 (λw'=>w'.cell? ⟨b,o,none⟩=some (.int .i64 x)) (first|exact b1|exact i1|go_keep) (first
  |((with_reducible refine (cW _ (by first|exact (HS.out.2.2.2).drew|exact ((HS.out.2.2.2).drew).alloc _|exact ((HS.out.2.2.2).alloc _).drew)).mono ?_);intro e w2 hq;unfold J3 at hq;obtain ⟨rfl,q1,NA,QE,FW,J9,hr1⟩:=hq;clear cW;have i1:w2.cell? ⟨b,o,none⟩=some (.int .i64 x):=(hr1.cell ⟨b,o,none⟩ rfl 0 n0).trans (by rw [HX.out.2.2.2.2.2]);have HM:=Qw (Qz NA (Qz QE (Qz FW (Qz J9 hr1))));clear NA QE FW J9 hr1))
 ·have HL:=Qw (show LaySt w q t (w2.heap.size+1) p sb (w2.heap.size) b o n zs ((hs.length:Nat):Int) (hs++[x]) (vs++[0]) ((w2.alloc (.cells A 245)).alloc (.cells (FC p ((hs.length:Nat):Int) w2.heap.size n) 127)) from by
    obtain ⟨h,hr,hA,Fy,hb,hx⟩:=HX.out;obtain ⟨hS,hp,Eg,dx⟩:=HS.out;obtain ⟨NA,QE,FW,J9,hr1⟩:=HM.out;have e1:(w2.alloc (.cells A 245)).heap.size=w2.heap.size+1:=nblk_alloc _ _;exact CG h Fy hb dx hS hp Eg hA ((Wr.refl _ _).drew) NA QE FW J9 hr1 (((Wr.refl _ _).alloc _).alloc _) ((blk_alloc_lt _ _ _ (by rw [e1];omega)).trans (blk_alloc_new _ _)) (FW.size) (.inr (Nat.le_refl _)) (by rw [<-e1];exact blk_alloc_new _ _) (by omega) (by omega) ⟨by omega,by omega⟩)
  obtain ⟨W,hW⟩:∃ W,W=(w2.alloc (.cells A 245)).alloc (.cells (FC p ((hs.length:Nat):Int) w2.heap.size n) 127):=⟨_,rfl⟩
  rw [<-hW] at HL ⊢;clear hW HM i1 b1;generalize (w2.heap.size+1)=lb at*;generalize (w2.heap.size)=tb at*;exact zzj
 ·have HL:=Qw (show LaySt w q t (w2.heap.size) p sb (wq.heap.size) b o n zs ((hs.length:Nat):Int) (hs++[x]) (vs++[0]) (w2.alloc (.cells (FC p ((hs.length:Nat):Int) wq.heap.size n) 127)) from by
    obtain ⟨h,hr,hA,Fy,hb,hx⟩:=HX.out;obtain ⟨hS,hp,Eg,dx⟩:=HS.out;obtain ⟨NA,QE,FW,J9,hr1⟩:=HM.out;have e1:(wq.alloc (.cells A 245)).drew.heap.size=wq.heap.size+1:=nblk_alloc wq _;have s1:=FW.size;have s2:=dx.size;have hk:=FW.block wq.heap.size (by rw [e1];omega) (λe=>by have:=h.lt e;omega);exact CG h Fy hb dx hS hp Eg hA (((Wr.refl _ _).alloc _).drew) NA QE FW J9 hr1 ((Wr.refl _ _).alloc _) ((blk_alloc_lt _ _ _ (by omega)).trans (hk.trans (blk_alloc_new wq _))) (Nat.le_refl _) (.inl (by rw [e1];omega)) (blk_alloc_new _ _) (Nat.le_refl _) (by omega) ⟨by omega,by omega⟩)
  obtain ⟨W,hW⟩:∃ W,W=w2.alloc (.cells (FC p ((hs.length:Nat):Int) wq.heap.size n) 127):=⟨_,rfl⟩
  rw [<-hW] at HL ⊢;clear hW HM i1 b1;generalize (w2.heap.size)=lb at*;generalize (wq.heap.size)=tb at*;exact zzj
open _root_.Go.Proofs.Tryz
def Low (L:Lp) (k:Nat):Prop:=k<L.q.k3
theorem LkAt.low {w w':World} {L:Lp} {f:FL} (h:LkAt w L f) (k:Wr (LF L) w w'):Wr (Low L) w w':=k.mono λb _ e=>zz1h
structure LkS (w0 w:World) (L:Lp) (f:FL):Prop where
 lk:LkAt w L f
 low:w0.heap.size<=L.lb/\w0.heap.size<=L.p/\w0.heap.size<=L.b/\w0.heap.size<=L.tb/\w0.heap.size<=L.q.k0
 wr:Wr Nil w0 w
namespace LkS
variable {w0 w w':World} {L:Lp} {f f':FL}
theorem after (h:LkS w0 w L f) (k:Wr Nil w w'):LkS w0 w' L f:=⟨h.lk.after k,h.low,h.wr.nil k⟩
theorem apart {S:Nat->Prop} (h:LkS w0 w L f) (k:Wr S w w') (hS:∀ b,S b->L.q.k3<=b):LkS w0 w' L f:=zzn
theorem Hy (h:LkS w0 w L f) {k:Nat} (hk:LF L k):w0.heap.size<=k:=zz23
theorem call (h:LkS w0 w L f) (hl:LkAt w' L f') (k:Wr (LF L) w w'):LkS w0 w' L f':=⟨hl,h.low,h.wr.trans k λb hb e=>by have:=h.Hy e;unfold Nil;omega⟩
theorem cell0 (h:LkS w0 w L f):w.cell? ⟨L.lb,0,none⟩=some (.pointer (some ⟨L.p,0,none⟩)):=h.lk.raw.cell0
end LkS
def Bf (w0 w:World) (L:Lp) (f:FL) (v:Value) (e:Ending) (w':World):Prop:=e= .returned v/\LkS w0 w' L f/\Wr (Low L) w w'
section
variable {w0 w:World} {L:Lp} {f:FL}
theorem Cr (h:LkS w0 w L f) (t d:Int):Calls prog 127 #[.pointer (some ⟨L.p,0,none⟩),.int .i64 t,.int .i64 d] w (Bf w0 w L (f.lock t d) (.int .i64 (BZ f.s t d))):=
 (Eo h.lk.raw.seat t d).mono λe w' ⟨he,hS,hW⟩=>⟨he,h.call (h.lk.seats hS (SS.TC _ _ _ _) hW) (CH hW),h.lk.low (CH hW)⟩
theorem Bt (h:LkS w0 w L f) (t:Int):Calls prog 131 #[.pointer (some ⟨L.p,0,none⟩),.int .i64 t] w (Bf w0 w L (f.turn t 3) (.int .i64 (BR f.s t))):=
 (DJ h.lk.raw.seat t).mono λe w' ⟨he,hS,hW⟩=>⟨he,h.call (h.lk.seats hS (SS.OH _ _ _ _) hW) (CH hW),h.lk.low (CH hW)⟩
theorem Cs (h:LkS w0 w L f) (t u x:Int) (hD:f.ps.D.length<4611686018427387904):Calls prog 160 #[.pointer (some ⟨L.lb,0,none⟩),.int .i64 t,.int .i64 u,.int .i64 x] w (Bf w0 w L (f.step L t u) (f.did L t u).val):=
 (CB h.lk t u x hD).mono λe w' ⟨he,hl,hW⟩=>⟨he,h.call hl hW,h.lk.low hW⟩
end
structure G' (w0 w:World) (L:Lp) (f:FL):Prop where
 raw:Ey w L (.pointer none) f
 port:PortAt w L.q L.hs f.ps
 far:L.lb<L.q.k0/\L.p<L.q.k0/\L.b<L.q.k0/\L.tb<L.q.k0
 top:L.q.k3<=w.heap.size
 low:w0.heap.size<=L.lb/\w0.heap.size<=L.p/\w0.heap.size<=L.b/\w0.heap.size<=L.tb/\w0.heap.size<=L.q.k0
 wr:Wr Nil w0 w
theorem Dp {w0 w:World} {L:Lp} {f:FL} (h:G' w0 w L f):
  Calls prog 161 #[.pointer (some ⟨L.lb,0,none⟩),.pointer (some ⟨L.q.p,0,none⟩)] w λe w'=>e= .returned (.tuple #[])/\LkS w0 w' L f/\Wr (Low L) w w':=zz5
theorem DX {w0 w1 w2:World} {L0:Lp} {q:Place} {f:FL} {hs:List Int} (hr:Ey w1 L0 (.pointer none) f) (hl:w0.heap.size<=L0.lb/\w0.heap.size<=L0.p/\w0.heap.size<=L0.b/\w0.heap.size<=L0.tb) (h0:Wr Nil w0 w1)
  (hP:PortAt w2 q hs f.ps) (h1:w1.heap.size<=q.k0) (h2:q.k3<=w2.heap.size) (hW:Wr Nil w1 w2):G' w0 w2 {L0 with q:=q,hs:=hs} f:=zz7g
abbrev Ef (n:Nat):List Int:=[0]++List.replicate (2*n) 0
abbrev Bd (zs:List Int):List Int:=[zs.getD 0 0]++MC zs
def Bl (n t:Nat):FL:=⟨AQ n false true,λ_=>0,λ_=>0,Dq t (Ef n)⟩
theorem Co {zs:List Int} (h:A8 zs=true) (i:Nat):FO (zs.getD i 0)=true:=zzm
theorem Hv {zs:List Int} (h:A8 zs=true):A8 (Bd zs)=true:=by
 have h0:=Co h 0;unfold A8 at h ⊢;unfold Bd MC;rw [List.all_eq_true] at h ⊢;intro x hx;rw [List.mem_append,List.mem_singleton,List.mem_flatMap] at hx;rcases hx with rfl|⟨z,hz,hx⟩
 ·exact h0
 ·have:x=z:=by simpa using hx
  rw [this];exact h z hz
theorem G_ (n j:Nat):(Ef n).getD j 0=0:=by
 match j with
 |0=>rfl
 |j+1=>
  show (List.replicate (2*n) (0:Int)).getD j 0=0;exact zz2t
theorem OQ (n:Nat):(Ef n).length=2*n+1:=by simp [Ef]
theorem FM (zs:List Int):(Bd zs).length=2*zs.length+1:=by unfold Bd;rw [List.length_append,Ii];simp;omega
def EP (w0:World) (n:Nat) (L:Lp) (w':World):Prop:=L.a1=0/\L.a2=1/\G' w0 w' L (Bl n n)
theorem Cn {w0 w w1:World} {q q':Pl} {n:Nat} {zs:List Int} {L0:Lp} (h0:Wr Nil w0 w) (hq:∀ k,q.F k->w0.heap.size<=k) (n1:1<=n) (n2:n<=64) (ho:A8 zs=true) (hn:zs.length=n)
  (hR:FlRaw w1 L0 (.pointer none) (AQ n false true) (λ_=>0) (λ_=>0)) (hl:w.heap.size<=L0.lb/\w.heap.size<=L0.p/\w.heap.size<=L0.b/\w.heap.size<=L0.tb) (h1:L0.a1=0) (h2:L0.a2=1) (Eu:q'.p=q.p) (hP:PlanAt w1 q' n (Bd zs) (Ef n)) (hW:Wr q.F w w1) (hne:q.p<w.heap.size):
  Calls prog 26 #[.pointer (some ⟨q.p,0,none⟩)] w1 λe w'=>∃ L:Lp,e= .returned (.tuple #[.pointer (some ⟨L.q.p,0,none⟩),.int .i64 0])/\EP w0 n L w'/\L.lb=L0.lb/\L.hs=Bd zs/\w'.cell? ⟨q.p,1,none⟩=some (.int .i64 ((2*n+1:Nat):Int))/\¬ LF L q.p/\q.p≠L.lb:=by
 have c:=Ch hP (λj=>by rw [G_];decide) n1 n2 (by rw [FM];omega) (Hv ho);have hp1:=hP.cell1;rw [Eu,FM,hn] at hp1;rw [Eu] at c;refine c.mono ?_;rintro e w' ⟨qq,rfl,hA,Ly,Gn,Ba⟩;have s0:=h0.size;have s1:=hW.size;refine ⟨{L0 with q:=qq,hs:=Bd zs},rfl,⟨h1,h2,?_⟩,rfl,rfl,Ba.old hp1,λe=> ?_,by dsimp only;omega⟩
 ·exact zz5f
 ·unfold LF Bk at e
  dsimp only at e;omega
end Go.Proofs.YtmnephejhkfchaaGreat.Km
