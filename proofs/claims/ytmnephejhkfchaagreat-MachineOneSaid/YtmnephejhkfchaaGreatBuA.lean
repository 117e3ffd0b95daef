
import Derived.Test.YtmnephejhkfchaaGreatAbortEnd
namespace Go.Proofs.YtmnephejhkfchaaGreat.Ka
set_option maxHeartbeats 8000000
open _root_.Go.Proofs.Tryz Go.Deep
open Go.RowKit Go.BigFrame
set_option linter.unusedVariables false
set_option maxRecDepth 100000
def Ih (e:Nat) (zs:List Int) (k:Nat):List Int:=(List.range k).flatMap λi=>List.replicate 3 (zs.getD (i/e) 0)
theorem IA (e:Nat) (zs:List Int) (k:Nat):Ih e zs (k+1)=Ih e zs k++List.replicate 3 (zs.getD (k/e) 0):=by
 unfold Ih;rw [List.range_succ,List.flatMap_append,List.flatMap_singleton]
theorem Jf (e:Nat) (zs:List Int) (k:Nat):(Ih e zs k).length=3*k:=by
 induction k with
 |zero=>rfl
 |succ k ih=>rw [IA,List.length_append,ih,List.length_replicate];omega
theorem CT (k:Nat) (x:Int):List.replicate (3*(k+1)) x=List.replicate (3*k) x++List.replicate 3 x:=by
 rw [List.replicate_append_replicate,show 3*(k+1)=3*k+3 by omega]
abbrev FC (p P:Nat) (x:Int) (tb n:Nat):Array Value:= #[.pointer (some ⟨p,0,none⟩),.pointer none,.pointer (some ⟨P,0,none⟩),.int .i64 x,.slice (some ⟨tb,0,none⟩) n n]
abbrev YE (lb p sb tb:Nat) (x:Int):Lp:=⟨lb,p,sb,tb,x,x+1,⟨0,0,0,0,0,0,0,0,0,0,0,0,.pointer none⟩,[]⟩
abbrev XJ:Nat->Pc:=λ_=>⟨0,0,0,0⟩
abbrev UT (w:World) (L:Lp) (n ea:Nat):Prop:=FlRaw w L (.pointer none) (AQ n true false) (λ_=>0) ea (λ_=>1) (λ_=>0) (λ_=>0) (λ_=>0)
structure LaySt (w:World) (q:Pl) (t:Int) (lb p sb tb b o n ea:Nat) (Q:Pp) (zs:List Int) (x:Int) (hs vs:List Int) (wr:World):Prop where
 plan:∃ q':Pl,q'.p=q.p/\PlanAt wr q' t hs vs/\Came w q.F q'.F/\¬ q'.F lb/\¬ q'.F p/\¬ q'.F sb/\¬ q'.F tb/\¬ q'.F b/\∀ j,Q.F n j->¬ q'.F j
 kp:Wr q.F w wr
 obj:wr.heap[lb]? =some (.cells (FC p Q.p x tb n) 134 (0,0))
 seat:SeatAt wr p sb (AQ n true false)
 tick:wr.heap[tb]? =some (.cells (BS n XJ).toArray 254 (0,0))
 DC:PoolAt wr Q (E6 n ea)
 row:Ad .i64 wr (some ⟨b,o,none⟩) n zs
 low:w.heap.size<=lb/\w.heap.size<=p/\w.heap.size<=sb/\w.heap.size<=tb
 ne:lb≠sb/\lb≠tb/\p≠tb/\sb≠tb/\lb≠p
 pf:∀ j,Q.F n j->j<lb/\p<j/\j≠sb/\j≠tb
 BP:(1<=ea/\ea<=8)/\0<=x/\x<=2000000
namespace LaySt
variable {w wr w':World} {q:Pl} {t:Int} {lb p sb tb b o n ea:Nat} {Q:Pp} {zs:List Int} {x:Int} {hs vs:List Int}
theorem home (h:LaySt w q t lb p sb tb b o n ea Q zs x hs vs wr) {j:Nat} (hj:j<n):wr.cell? ⟨b,o+j,none⟩=some (.int .i64 (zs.getD j 0)):=zz2m
theorem raw (h:LaySt w q t lb p sb tb b o n ea Q zs x hs vs wr):UT wr (YE lb p sb tb x) n ea:=
 ⟨⟨Q,h.obj,h.DC,h.pf⟩,h.seat,⟨XJ,h.tick,λk=>BJ.X6 (by decide) (by decide) h.BP.1.1⟩,⟨rfl,λk=>by show (0:Int)≠4;decide,λk=> .inr (Int.le_refl 0)⟩,h.ne,h.BP.1,⟨h.BP.2.1,h.BP.2.2,rfl⟩⟩
end LaySt
def Ax (w:World) (q:Pl) (t:Int) (lb p sb tb b o n ea:Nat) (Q:Pp) (zs:List Int) (x:Int) (hs vs:List Int) (r:Value) (e:Ending) (w':World):Prop:=e= .returned r/\LaySt w q t lb p sb tb b o n ea Q zs x hs vs w'
section
variable {w wr:World} {q:Pl} {t:Int} {lb p sb tb b o n ea:Nat} {Q:Pp} {zs:List Int} {x:Int} {hs vs:List Int}
theorem JK (h:LaySt w q t lb p sb tb b o n ea Q zs x hs vs wr) (hb:b<w.heap.size) (y:Int) (hL:hs.length<=900000):
  Calls prog 55 #[.pointer (some ⟨q.p,0,none⟩),.int .i64 3,.int .i64 y,.int .u32 0] wr (Ax w q t lb p sb tb b o n ea Q zs x (hs++List.replicate 3 y) (vs++List.replicate 3 0) (.int .i64 (hs.length:Nat))):=by
 obtain ⟨q',hq,hP,hC,f1,f2,f3,f4,f5,f6⟩:=h.plan;have c:=KJ hP 3 y 0 hL;rw [hq,show O2 3=3 from rfl] at c;refine c.mono ?_;intro e w2 hp;unfold C4 at hp;obtain ⟨rfl,q2,D7,Fk,hW,Gj⟩:=hp;have s1:=h.kp.size;have l1:=A2 h.obj;have l2:=A2 h.seat.obj;have l3:=A2 h.seat.ctx;have l4:=A2 h.tick;have hn:∀ k,k<wr.heap.size->¬ q'.F k->¬ q2.F k:=λk hk h0 e=>by
  rcases Gj k e with e|e
  ·exact h0 e
  ·omega
 refine ⟨rfl,⟨q2,D7.trans hq,Fk,hC.trans Gj s1,hn _ l1 f1,hn _ l2 f2,hn _ l3 f3,hn _ l4 f4,hn _ (by omega) f5,λj hj=>hn _ (h.DC.lt hj) (f6 j hj)⟩,h.kp.trans hW λj hj e=> ?_,(hW.block _ l1 f1).trans h.obj,h.seat.wrote hW f2 f3,(hW.block _ l4 f4).trans h.tick,h.DC.wrote hW f6,h.row.wrote hW λa ha e=> ?_,h.low,h.ne,h.pf,h.BP⟩
 ·rcases hC j e with e|e
  ·exact e
  ·omega
 ·cases ha
  exact f5 e
theorem X9 (h:LaySt w q t lb p sb tb b o n ea Q zs x hs vs wr) (k:Nat) (hk:k<n*ea) (hn:n<=64):
  Calls prog 58 #[.pointer (some ⟨Q.p,0,none⟩),.int .i64 ((k:Int)+1)] wr λe w'=>e= .returned (.int .i64 ((k/ea:Nat):Int))/\wr=w':=by
 have h8:=h.BP.1.2;have hm:n*ea<=64*8:=Nat.mul_le_mul hn h8;have c:=bQ h.DC (show n*ea<=1000000 by omega) ((k:Int)+1);have e:bH (E6 n ea) ((k:Int)+1)=((k/ea:Nat):Int):=by
  unfold bH;rw [Qj (show 1<=(k:Int)+1/\(k:Int)+1<=((E6 n ea).n:Nat) from ⟨by omega,by show (k:Int)+1<=((n*ea:Nat):Int);omega⟩)];show ((((((k:Int)+1).toNat-1)/ea:Nat)):Int)=_;rw [show ((k:Int)+1).toNat-1=k by omega]
 rw [e] at c;exact c
end
def J3 (W:World) (q:Pl) (t:Int) (b o n:Nat) (zs:List Int) (hs vs:List Int) (r:Value) (e:Ending) (w':World):Prop:=e= .returned r/\∃ q':Pl,q'.p=q.p/\PlanAt w' q' t hs vs/\Wr q.F W w'/\Came W q.F q'.F/\Ad .i64 w' (some ⟨b,o,none⟩) n zs
theorem Lt {w W:World} {q:Pl} {t:Int} {hs vs:List Int} {b o n:Nat} {zs:List Int} (h:PlanAt w q t hs vs) (hr:Ad .i64 w (some ⟨b,o,none⟩) n zs) (hb:¬ q.F b) (hL:hs.length<=900000) (k:Wr Nil w W) (x:Int):
  Calls prog 50 #[.pointer (some ⟨q.p,0,none⟩),.int .i64 x,.int .u32 0] W (J3 W q t b o n zs (hs++[x]) (vs++[0]) (.int .i64 (hs.length:Nat))):=zz3i
theorem LP:(prog.info? 254).map (λi=>(i.zero,i.size,i.bytes))=some (some (.agg #[.int .i64 0,.int .i64 0,.int .u32 0,.int .u32 0]),4,24):=by kernel_rfl
theorem DZ (n:Nat):madeCells (Value.agg #[.int .i64 0,.int .i64 0,.int .u32 0,.int .u32 0]).cells (n*4)=(BS n XJ).toArray:=by
 apply Array.ext';show (madeCells (#[.int .i64 0,.int .i64 0,.int .u32 0,.int .u32 0]:Array Value) (n*4)).toList=BS n XJ;apply List.ext_getElem?;intro m;by_cases hm:m<n*4
 ·have ha:m/4<n:=by omega
  have e:m=m/4*4+m%4:=by omega
  have h2:=BB n XJ (k:=m/4) ha (j:=m%4) (Nat.mod_lt _ (by decide));rw [<-e] at h2;rw [h2];unfold madeCells;rw [Array.toList_map,List.getElem?_map,Array.toList_range,List.getElem?_range hm];have:m%4=0\/m%4=1\/m%4=2\/m%4=3:=by omega
  rcases this with h|h|h|h<;>simp [h,Pc.cells]
 ·exact zz4s
def Hn (w:World) (q:Pl) (t:Int) (hs vs:List Int) (n ea:Nat) (zs:List Int) (e:Ending) (w':World):Prop:=
 ∃ (L:Lp) (q':Pl),e= .returned (.tuple #[.pointer (some ⟨L.lb,0,none⟩),.int .i64 0])/\UT w' L n ea/\
  (w.heap.size<=L.lb/\w.heap.size<=L.p/\w.heap.size<=L.b/\w.heap.size<=L.tb)/\L.a1=hs.length/\L.a2=hs.length+1/\q'.p=q.p/\PlanAt w' q' t (hs++[zs.getD 0 0]++Ih ea zs (n*ea)) (vs++[0]++List.replicate (3*(n*ea)) 0)/\Wr q.F w w'/\Came w q.F q'.F
structure Wm (w wp:World) (n ea:Nat) (p sb:Nat) (Q:Pp):Prop where
 seat:SeatAt wp p sb (AQ n true false)
 DC:PoolAt wp Q (E6 n ea)
 low:w.heap.size<=p/\w.heap.size<=sb
 pf:∀ j,Q.F n j->w.heap.size<=j/\p<j/\j≠sb
 wr:Wr Nil w wp
theorem az {w wq wp:World} {n ea p sb:Nat} {Q:Pp} (hS:SeatAt wq p sb (AQ n true false)) (hp:w.heap.size<=p) (Eg:w.heap.size<=sb) (hW:Wr Nil w wq) (hQ:PoolAt wp Q (E6 n ea)) (hF:∀ k,Q.F n k->wq.heap.size<=k) (Ba:Wr Nil wq wp):Wm w wp n ea p sb Q:=by
 have l1:=A2 hS.obj;have l2:=A2 hS.ctx;have s1:=hW.size;exact ⟨hS.after Ba,hQ,⟨hp,Eg⟩,λj hj=>by have:=hF j hj;omega,hW.nil Ba⟩
theorem CG {w wp w1 w2 W:World} {q q2:Pl} {t:Int} {hs vs hs2 vs2:List Int} {b o n ea p sb lb tb:Nat} {Q:Pp} {zs:List Int} {A:Array Value} {x:Int} (h:PlanAt w q t hs vs) (QH:b<w.heap.size) (hb:¬ q.F b) (hM:Wm w wp n ea p sb Q) (he:1<=ea/\ea<=8) (hA:(BS n XJ).toArray=A)
  (k1:Wr Nil wp w1) (D7:q2.p=q.p) (Fk:PlanAt w2 q2 t hs2 vs2) (hW:Wr q.F w1 w2) (hC:Came w1 q.F q2.F) (hr2:Ad .i64 w2 (some ⟨b,o,none⟩) n zs) (k3:Wr Nil w2 W)
  (hT:W.heap[tb]? =some (.cells A 254 (0,0))) (ht:wp.heap.size<=tb) (ht2:tb<w1.heap.size\/w2.heap.size<=tb) (hO:W.heap[lb]? =some (.cells (FC p Q.p x tb n) 134 (0,0))) (hl:w2.heap.size<=lb) (hlt:lb≠tb) (hx:0<=x/\x<=2000000):
  LaySt w q t lb p sb tb b o n ea Q zs x hs2 vs2 W:=by
 have s1:=hM.wr.size;have s2:=k1.size;have s3:=hW.size;have l1:=A2 hM.seat.obj;have l2:=A2 hM.seat.ctx;have lw:=hM.low;have hF:∀ k,w.heap.size<=k->¬ q.F k:=λk hk e=>by have:=h.lt e;omega
 have hF2:∀ k,k<w1.heap.size->¬ q.F k->¬ q2.F k:=λk hk h0 e=>by
  rcases hC k e with e|e
  ·exact h0 e
  ·omega
 have Em:∀ k,w2.heap.size<=k->¬ q2.F k:=λk hk e=>by have:=Fk.lt e;omega
 have Xh:=(hM.seat.wrote k1 id id).wrote hW (hF p lw.1) (hF sb lw.2);have fY:=Xh.wrote k3 id id;have lf:=((hM.DC.after k1).wrote hW λj hj=>hF j (hM.pf j hj).1).after k3;have hne:=hM.seat.ne;have kw:Wr q.F w W:=(((hM.wr.nil k1).mono λ_ _ e=>e.elim:Wr q.F w w1).trans hW λ_ _ e=>e).trans k3 λ_ _ e=>e.elim;refine ⟨⟨q2,D7,Fk.after k3,λj hj=> ?_,Em _ hl,hF2 _ (by omega) (hF p lw.1),hF2 _ (by omega) (hF sb lw.2),?_,hF2 _ (by omega) hb,λj hj=>hF2 _ (by have:=hM.DC.lt hj;omega) (hF j (hM.pf j hj).1)⟩,kw,hO,fY,hT.trans (by rw [<-hA]),lf,hr2.after k3,⟨by omega,by omega,by omega,by omega⟩,⟨by omega,by omega,by omega,by omega,by omega⟩,λj hj=> ?_,he,hx⟩
 ·exact zz39
 ·exact zz6u
 ·have a:=hM.DC.lt hj
  have b:=hM.pf j hj;exact ⟨by omega,b.2.1,b.2.2,by omega⟩
theorem DA {w wr:World} {q:Pl} {t:Int} {hs vs:List Int} {b o n ea p sb lb tb:Nat} {Q:Pp} {zs:List Int} {x:Int} (hl:LaySt w q t lb p sb tb b o n ea Q zs ((hs.length:Nat):Int) (hs++[x]++Ih ea zs (n*ea)) (vs++[0]++List.replicate (3*(n*ea)) 0) wr) (hx:x=zs.getD 0 0):
  Hn w q t hs vs n ea zs (.returned (.tuple #[.pointer (some ⟨lb,0,none⟩),.int .i64 0])) wr:=by
 obtain ⟨q',hq,hP,hC,_⟩:=hl.plan;rw [hx] at hP;exact ⟨_,q',rfl,hl.raw,hl.low,rfl,rfl,hq,hP,hl.kp,hC⟩
theorem Cv {w:World} {q:Pl} {t:Int} {hs vs:List Int} (h:PlanAt w q t hs vs) {b o n cap:Nat} {zs:List Int} (hr:Ad .i64 w (some ⟨b,o,none⟩) n zs) (ho:A8 zs=true) (n1:1<=n) (n2:n<=64) (ea:Nat) (e1:1<=ea) (e2:ea<=8) (hL:hs.length<=800000) (hb:¬ q.F b):
  Calls prog 38 #[.pointer (some ⟨q.p,0,none⟩),.slice (some ⟨b,o,none⟩) n cap,.int .i64 (ea:Int)] w (Hn w q t hs vs n ea zs):=by
 obtain ⟨i0,hi,hz0,hz1,hz2⟩:=info_parts LP;have hmk:∀ w:World,(Instr.makeSlice 132 (.int .i64 (n:Int)) (.int .i64 (n:Int))).run prog w= .ok (.slice (some ⟨w.heap.size,0,none⟩) n n) (w.alloc (.cells (BS n XJ).toArray 254)):=by
  intro w;have h:=Go.run_make (P:=prog) w 132 254 i0 _ underlying132 hi hz0 .i64 .i64 n n (by omega) (by omega) (by rw [hz2];omega) (by omega);exact zz2o
 generalize hA:(BS n XJ).toArray=A at hmk;have cS:=EY (cap:=cap) hr ho true false n1 n2;have cP:=λW=>YG n ea n1 n2 e1 e2 W;obtain ⟨x,hx⟩:∃ x,x=zs.getD 0 0:=⟨_,rfl⟩
 have hc:=hr.cell ⟨b,o,none⟩ rfl 0 (by omega);have hc:w.cell? ⟨b,o,none⟩=some (.int .i64 x):=by rw [hx];exact hc
 have Fy:b<w.heap.size:=World.block_lt_of_cell? w _ hc;have hlen:=hr.len;have HX:=Qw (Qz h (Qz hr (Qz hA (Qz Fy (Qz hb hx)))));have HC:=Qw hc;have jN:=Qw (Qz e1 e2);clear h hr ho hA hb Fy hx hc;have n0:(0:Nat)<n:=n1;have m5:n*ea<=512:=Nat.mul_le_mul n2 e2
 go_in
 go_wp2_with (first
  |((with_reducible refine cS.mono ?_);intro e wq hq;unfold Br at hq;obtain ⟨p,sb,rfl,hS,hp,Eg,hW⟩:=hq;have HS:=Qw (Qz hS (Qz hp (Qz Eg hW)));clear hS hp Eg hW cS)
  |((with_reducible refine (cP _).mono ?_);intro e wp hq;unfold IG at hq;obtain ⟨Q,rfl,hQ,hF,hW⟩:=hq;have hM:=az HS.out.1 HS.out.2.1 HS.out.2.2.1 HS.out.2.2.2 hQ hF hW;have b1:=hM.wr.old HC.out;clear HS;have Rb:=Qw hM;clear hQ hF hW hM cP))
 have cW:=λW (k:Wr Nil w W)=>Lt HX.out.1 HX.out.2.1 HX.out.2.2.2.2.1 (by omega) k x
 go_region_held3 (λw'=>w'.cell? ⟨b,o,none⟩=some (.int .i64 x)) (first|exact b1|exact i1|go_keep) (first
  |((with_reducible refine (cW _ (by first|exact (Rb.out.wr).drew|exact ((Rb.out.wr).drew).alloc _|exact ((Rb.out.wr).alloc _).drew)).mono ?_);intro e w2 hq;unfold J3 at hq;obtain ⟨rfl,q1,NA,QE,FW,J9,hr1⟩:=hq;clear cW;have i1:w2.cell? ⟨b,o,none⟩=some (.int .i64 x):=(hr1.cell ⟨b,o,none⟩ rfl 0 n0).trans (by rw [HX.out.2.2.2.2.2]);have HM:=Qw (Qz NA (Qz QE (Qz FW (Qz J9 hr1))));clear NA QE FW J9 hr1))
 ·have HL:=Qw (show LaySt w q t (w2.heap.size+1) p sb (w2.heap.size) b o n ea Q zs ((hs.length:Nat):Int) (hs++[x]) (vs++[0]) ((w2.alloc (.cells A 254)).alloc (.cells (FC p Q.p ((hs.length:Nat):Int) w2.heap.size n) 134)) from by
    obtain ⟨h,hr,hA,Fy,hb,hx⟩:=HX.out;obtain ⟨NA,QE,FW,J9,hr1⟩:=HM.out;have e1:(w2.alloc (.cells A 254)).heap.size=w2.heap.size+1:=nblk_alloc _ _;exact CG h Fy hb Rb.out jN.out hA ((Wr.refl _ _).drew) NA QE FW J9 hr1 (((Wr.refl _ _).alloc _).alloc _) ((blk_alloc_lt _ _ _ (by rw [e1];omega)).trans (blk_alloc_new _ _)) (FW.size) (.inr (Nat.le_refl _)) (by rw [<-e1];exact blk_alloc_new _ _) (by omega) (by omega) ⟨by omega,by omega⟩)
  obtain ⟨W,hW⟩:∃ W,W=(w2.alloc (.cells A 254)).alloc (.cells (FC p Q.p ((hs.length:Nat):Int) w2.heap.size n) 134):=⟨_,rfl⟩
  rw [<-hW] at HL ⊢;clear hW HM i1 b1;have cN:=Ta HL.out.DC;generalize (w2.heap.size+1)=lb at*;generalize (w2.heap.size)=tb at*;exact zza
 ·have HL:=Qw (show LaySt w q t (w2.heap.size) p sb (wp.heap.size) b o n ea Q zs ((hs.length:Nat):Int) (hs++[x]) (vs++[0]) (w2.alloc (.cells (FC p Q.p ((hs.length:Nat):Int) wp.heap.size n) 134)) from by
    obtain ⟨h,hr,hA,Fy,hb,hx⟩:=HX.out;obtain ⟨NA,QE,FW,J9,hr1⟩:=HM.out;have e1:(wp.alloc (.cells A 254)).drew.heap.size=wp.heap.size+1:=nblk_alloc wp _;have s1:=FW.size;have s2:=Rb.out.wr.size;have hk:=FW.block wp.heap.size (by rw [e1];omega) (λe=>by have:=h.lt e;omega);exact CG h Fy hb Rb.out jN.out hA (((Wr.refl _ _).alloc _).drew) NA QE FW J9 hr1 ((Wr.refl _ _).alloc _) ((blk_alloc_lt _ _ _ (by omega)).trans (hk.trans (blk_alloc_new wp _))) (Nat.le_refl _) (.inl (by rw [e1];omega)) (blk_alloc_new _ _) (Nat.le_refl _) (by omega) ⟨by omega,by omega⟩)
  obtain ⟨W,hW⟩:∃ W,W=w2.alloc (.cells (FC p Q.p ((hs.length:Nat):Int) wp.heap.size n) 134):=⟨_,rfl⟩
  rw [<-hW] at HL ⊢;clear hW HM i1 b1;have cN:=Ta HL.out.DC;generalize (w2.heap.size)=lb at*;generalize (wp.heap.size)=tb at*;exact zza
open _root_.Go.Proofs.Tryz
def Low (L:Lp) (k:Nat):Prop:=k<L.q.k3
theorem LkAt.low {w w':World} {L:Lp} {f:FL} (h:LkAt w L f) (k:Wr (LF L) w w'):Wr (Low L) w w':=k.mono λb _ e=>zz1h
structure LkS (w0 w:World) (L:Lp) (f:FL):Prop where
 lk:LkAt w L f
 low:w0.heap.size<=L.lb/\w0.heap.size<=L.p/\w0.heap.size<=L.b/\w0.heap.size<=L.tb/\w0.heap.size<=L.q.k0
 wr:Wr Nil w0 w
namespace LkS
variable {w0 w w':World} {L:Lp} {f f':FL}
theorem after (h:LkS w0 w L f) (k:Wr Nil w w'):LkS w0 w' L f:=⟨h.lk.after k,h.low,h.wr.nil k⟩
theorem apart {S:Nat->Prop} (h:LkS w0 w L f) (k:Wr S w w') (hS:∀ b,S b->L.q.k3<=b):LkS w0 w' L f:=zz30
theorem Hy (h:LkS w0 w L f) {k:Nat} (hk:LF L k):w0.heap.size<=k:=zz23
theorem call (h:LkS w0 w L f) (hl:LkAt w' L f') (k:Wr (LF L) w w'):LkS w0 w' L f':=⟨hl,h.low,h.wr.trans k λb hb e=>by have:=h.Hy e;unfold Nil;omega⟩
theorem cell0 (h:LkS w0 w L f):w.cell? ⟨L.lb,0,none⟩=some (.pointer (some ⟨L.p,0,none⟩)):=h.lk.raw.cell0
end LkS
def Bf (w0 w:World) (L:Lp) (f:FL) (v:Value) (e:Ending) (w':World):Prop:=e= .returned v/\LkS w0 w' L f/\Wr (Low L) w w'
section
variable {w0 w:World} {L:Lp} {f:FL}
theorem Cr (h:LkS w0 w L f) (t d:Int):Calls prog 127 #[.pointer (some ⟨L.p,0,none⟩),.int .i64 t,.int .i64 d] w (Bf w0 w L (f.lock t d) (.int .i64 (BZ f.s t d))):=
 (Eo h.lk.raw.seat t d).mono λe w' ⟨he,hS,hW⟩=>⟨he,h.call (h.lk.seats hS (SS.Vg _ _ _) hW) (CH hW),h.lk.low (CH hW)⟩
theorem Bt (h:LkS w0 w L f) (t:Int):Calls prog 131 #[.pointer (some ⟨L.p,0,none⟩),.int .i64 t] w (Bf w0 w L (f.turn t 3) (.int .i64 (BR f.s t))):=
 (DJ h.lk.raw.seat t).mono λe w' ⟨he,hS,hW⟩=>⟨he,h.call (h.lk.seats hS (SS.Wc _ _ _ rfl) hW) (CH hW),h.lk.low (CH hW)⟩
theorem Cs (h:LkS w0 w L f) (t u x:Int) (hD:f.ps.D.length<4611686018427387904):Calls prog 175 #[.pointer (some ⟨L.lb,0,none⟩),.int .i64 t,.int .i64 u,.int .i64 x] w (Bf w0 w L (f.step L t u x) (f.did L t u x).val):=
 (CB h.lk t u x hD).mono λe w' ⟨he,hl,hW⟩=>⟨he,h.call hl hW,h.lk.low hW⟩
end
structure G' (w0 w:World) (L:Lp) (f:FL):Prop where
 raw:Ey w L (.pointer none) f
 port:PortAt w L.q L.hs f.ps
 far:L.lb<L.q.k0/\L.p<L.q.k0/\L.b<L.q.k0/\L.tb<L.q.k0
 top:L.q.k3<=w.heap.size
 low:w0.heap.size<=L.lb/\w0.heap.size<=L.p/\w0.heap.size<=L.b/\w0.heap.size<=L.tb/\w0.heap.size<=L.q.k0
 wr:Wr Nil w0 w
theorem Dp {w0 w:World} {L:Lp} {f:FL} (h:G' w0 w L f):
  Calls prog 176 #[.pointer (some ⟨L.lb,0,none⟩),.pointer (some ⟨L.q.p,0,none⟩)] w λe w'=>e= .returned (.tuple #[])/\LkS w0 w' L f/\Wr (Low L) w w':=zz5
theorem DX {w0 w1 w2:World} {L0:Lp} {q:Place} {f:FL} {hs:List Int} (hr:Ey w1 L0 (.pointer none) f) (hl:w0.heap.size<=L0.lb/\w0.heap.size<=L0.p/\w0.heap.size<=L0.b/\w0.heap.size<=L0.tb) (h0:Wr Nil w0 w1)
  (hP:PortAt w2 q hs f.ps) (h1:w1.heap.size<=q.k0) (h2:q.k3<=w2.heap.size) (hW:Wr Nil w1 w2):G' w0 w2 {L0 with q:=q,hs:=hs} f:=zz7x
abbrev IC (m:Nat):List Int:=[0]++List.replicate (3*m) 0
abbrev Et (ea:Nat) (zs:List Int):List Int:=[zs.getD 0 0]++Ih ea zs (zs.length*ea)
def Bl (n ea t:Nat):FL:=⟨AQ n true false,ea,λ_=>1,λ_=>0,λ_=>0,λ_=>0,Dq t (IC (n*ea))⟩
theorem Co {zs:List Int} (h:A8 zs=true) (i:Nat):FO (zs.getD i 0)=true:=zzm
theorem QM {ea:Nat} {zs:List Int} (h:A8 zs=true):A8 (Et ea zs)=true:=by
 have h0:=Co h;unfold A8;unfold Et Ih;rw [List.all_eq_true];intro x hx;rw [List.mem_append,List.mem_singleton,List.mem_flatMap] at hx;rcases hx with rfl|⟨z,hz,hx⟩
 ·exact h0 0
 ·obtain ⟨_,rfl⟩:=List.mem_replicate.1 hx
  exact h0 _
theorem KZ (m j:Nat):(IC m).getD j 0=0:=by
 match j with
 |0=>rfl
 |j+1=>
  show (List.replicate (3*m) (0:Int)).getD j 0=0;exact zz2t
theorem OP (m:Nat):(IC m).length=3*m+1:=by simp [IC]
theorem Na (ea:Nat) (zs:List Int):(Et ea zs).length=3*(zs.length*ea)+1:=by unfold Et;rw [List.length_append,Jf];simp;omega
def Iz (w0:World) (n ea:Nat) (zs:List Int) (lb:Nat) (e:Ending) (w':World):Prop:=∃ L:Lp,e= .returned (.tuple #[.pointer (some ⟨L.q.p,0,none⟩),.int .i64 0])/\(L.a1=0/\L.a2=1/\G' w0 w' L (Bl n ea n))/\L.lb=lb/\L.hs=Et ea zs
theorem Cn {w0 w w1:World} {q q':Pl} {n ea:Nat} {zs:List Int} {L0:Lp} (h0:Wr Nil w0 w) (hq:∀ k,q.F k->w0.heap.size<=k) (n1:1<=n) (n2:n<=64) (he:ea<=8) (ho:A8 zs=true) (hn:zs.length=n)
  (hR:UT w1 L0 n ea) (hl:w.heap.size<=L0.lb/\w.heap.size<=L0.p/\w.heap.size<=L0.b/\w.heap.size<=L0.tb) (h1:L0.a1=0) (h2:L0.a2=1) (Eu:q'.p=q.p) (hP:PlanAt w1 q' n (Et ea zs) (IC (n*ea))) (hW:Wr q.F w w1):
  Calls prog 26 #[.pointer (some ⟨q.p,0,none⟩)] w1 (Iz w0 n ea zs L0.lb):=by
 have hm:n*ea<=64*8:=Nat.mul_le_mul n2 he;have c:=Ch hP (λj=>by rw [KZ];decide) n1 n2 (by rw [Na,hn];omega) (QM ho);rw [Eu] at c;refine c.mono ?_;rintro e w' ⟨qq,rfl,hA,Ly,Gn,Ba⟩;have s0:=h0.size;exact ⟨{L0 with q:=qq,hs:=Et ea zs},rfl,⟨h1,h2,DX (f:=Bl n ea n) hR (by omega) (h0.trans hW λk hk e=>by have:=hq k e;unfold Nil;omega) hA Ly Gn Ba⟩,rfl,rfl⟩
end Go.Proofs.YtmnephejhkfchaaGreat.Ka
