
import Derived.Test.YtmnephejhkfchaaGreatAbortEnd
namespace Go.Proofs.YtmnephejhkfchaaGreat.Ka
set_option maxHeartbeats 8000000
open _root_.Go.Proofs.Tryz Go.Deep
open Go.RowKit Go.BigFrame
set_option linter.unusedVariables false
set_option maxRecDepth 100000
def triH (e:Nat) (zs:List Int) (k:Nat):List Int:=(List.range k).flatMap λi=>List.replicate 3 (zs.getD (i/e) 0)
theorem triH_more (e:Nat) (zs:List Int) (k:Nat):triH e zs (k+1)=triH e zs k++List.replicate 3 (zs.getD (k/e) 0):=by
 unfold triH
 rw [List.range_succ,List.flatMap_append,List.flatMap_singleton]
theorem triH_len (e:Nat) (zs:List Int) (k:Nat):(triH e zs k).length=3*k:=by
 induction k with
 |zero=>rfl
 |succ k ih=>rw [triH_more,List.length_append,ih,List.length_replicate];omega
theorem repz_more (k:Nat) (x:Int):List.replicate (3*(k+1)) x=List.replicate (3*k) x++List.replicate 3 x:=by
 rw [List.replicate_append_replicate,show 3*(k+1)=3*k+3 by omega]
abbrev lkO (p P:Nat) (x:Int) (tb n:Nat):Array Value:= #[.pointer (some ⟨p,0,none⟩),.pointer none,.pointer (some ⟨P,0,none⟩),.int .i64 x,.slice (some ⟨tb,0,none⟩) n n]
abbrev plac (lb p sb tb:Nat) (x:Int):Lp:=⟨lb,p,sb,tb,x,x+1,⟨0,0,0,0,0,0,0,0,0,0,0,0,.pointer none⟩,[]⟩
abbrev pc0:Nat→Pc:=λ_=>⟨0,0,0,0⟩
abbrev RawN (w:World) (L:Lp) (n ea:Nat):Prop:=FlRaw w L (.pointer none) (newSeat n true false) (λ_=>0) ea (λ_=>1) (λ_=>0) (λ_=>0) (λ_=>0)
structure LaySt (w:World) (q:Pl) (t:Int) (lb p sb tb b o n ea:Nat) (Q:Pp) (zs:List Int) (x:Int) (hs vs:List Int) (wr:World):Prop where
 plan:∃ q':Pl,q'.p=q.p∧PlanAt wr q' t hs vs∧Came w q.F q'.F∧¬ q'.F lb∧¬ q'.F p∧¬ q'.F sb∧¬ q'.F tb∧¬ q'.F b∧∀ j,Q.F n j→¬ q'.F j
 kp:Wr q.F w wr
 obj:wr.heap[lb]? =some (.cells (lkO p Q.p x tb n) 134 (0,0))
 seat:SeatAt wr p sb (newSeat n true false)
 tick:wr.heap[tb]? =some (.cells (tks n pc0).toArray 254 (0,0))
 pool:PoolAt wr Q (newPl n ea)
 row:RowAt .i64 wr (some ⟨b,o,none⟩) n zs
 low:w.heap.size≤lb∧w.heap.size≤p∧w.heap.size≤sb∧w.heap.size≤tb
 ne:lb≠sb∧lb≠tb∧p≠tb∧sb≠tb∧lb≠p
 pf:∀ j,Q.F n j→j<lb∧p<j∧j≠sb∧j≠tb
 rng:(1≤ea∧ea≤8)∧0≤x∧x≤2000000
namespace LaySt
variable {w wr w':World} {q:Pl} {t:Int} {lb p sb tb b o n ea:Nat} {Q:Pp} {zs:List Int} {x:Int} {hs vs:List Int}
theorem home (h:LaySt w q t lb p sb tb b o n ea Q zs x hs vs wr) {j:Nat} (hj:j<n):wr.cell? ⟨b,o+j,none⟩=some (.int .i64 (zs.getD j 0)):=by
 rcases h.row.at with h0|⟨b',o',e,hc⟩
 ·omega
 ·cases e
  exact hc j hj
theorem raw (h:LaySt w q t lb p sb tb b o n ea Q zs x hs vs wr):RawN wr (plac lb p sb tb x) n ea:=
 ⟨⟨Q,h.obj,h.pool,h.pf⟩,h.seat,⟨pc0,h.tick,λk=>PlI.idleP (by decide) (by decide) h.rng.1.1⟩,⟨rfl,λk=>by show (0:Int)≠4;decide,λk=> .inr (Int.le_refl 0)⟩,h.ne,h.rng.1,⟨h.rng.2.1,h.rng.2.2,rfl⟩⟩
end LaySt
def LayPost (w:World) (q:Pl) (t:Int) (lb p sb tb b o n ea:Nat) (Q:Pp) (zs:List Int) (x:Int) (hs vs:List Int) (r:Value) (e:Ending) (w':World):Prop:=e= .returned r∧LaySt w q t lb p sb tb b o n ea Q zs x hs vs w'
section
variable {w wr:World} {q:Pl} {t:Int} {lb p sb tb b o n ea:Nat} {Q:Pp} {zs:List Int} {x:Int} {hs vs:List Int}
theorem ly_row (h:LaySt w q t lb p sb tb b o n ea Q zs x hs vs wr) (hb:b<w.heap.size) (y:Int) (hL:hs.length≤900000):
  Calls prog 55 #[.pointer (some ⟨q.p,0,none⟩),.int .i64 3,.int .i64 y,.int .u32 0] wr (LayPost w q t lb p sb tb b o n ea Q zs x (hs++List.replicate 3 y) (vs++List.replicate 3 0) (.int .i64 (hs.length:Nat))):=by
 obtain ⟨q',hq,hP,hC,f1,f2,f3,f4,f5,f6⟩:=h.plan
 have c:=plrow_any hP 3 y 0 hL
 rw [hq,show rowN 3=3 from rfl] at c
 refine c.mono ?_
 intro e w2 hp
 unfold PlanPost at hp
 obtain ⟨rfl,q2,hq2,hP2,hW,hC2⟩:=hp
 have s1:=h.kp.size
 have l1:=blk_lt h.obj
 have l2:=blk_lt h.seat.obj
 have l3:=blk_lt h.seat.ctx
 have l4:=blk_lt h.tick
 have hn:∀ k,k<wr.heap.size→¬ q'.F k→¬ q2.F k:=λk hk h0 e=>by
  rcases hC2 k e with e|e
  ·exact h0 e
  ·omega
 refine ⟨rfl,⟨q2,hq2.trans hq,hP2,hC.trans hC2 s1,hn _ l1 f1,hn _ l2 f2,hn _ l3 f3,hn _ l4 f4,hn _ (by omega) f5,λj hj=>hn _ (h.pool.lt hj) (f6 j hj)⟩,h.kp.trans hW λj hj e=> ?_,(hW.block _ l1 f1).trans h.obj,h.seat.wrote hW f2 f3,(hW.block _ l4 f4).trans h.tick,h.pool.wrote hW f6,h.row.wrote hW λa ha e=> ?_,h.low,h.ne,h.pf,h.rng⟩
 ·rcases hC j e with e|e
  ·exact e
  ·omega
 ·cases ha
  exact f5 e
theorem ly_of (h:LaySt w q t lb p sb tb b o n ea Q zs x hs vs wr) (k:Nat) (hk:k<n*ea) (hn:n≤64):
  Calls prog 58 #[.pointer (some ⟨Q.p,0,none⟩),.int .i64 ((k:Int)+1)] wr λe w'=>e= .returned (.int .i64 ((k/ea:Nat):Int))∧wr=w':=by
 have h8:=h.rng.1.2
 have hm:n*ea≤64*8:=Nat.mul_le_mul hn h8
 have c:=po_of h.pool (show n*ea≤1000000 by omega) ((k:Int)+1)
 have e:ofI (newPl n ea) ((k:Int)+1)=((k/ea:Nat):Int):=by
  unfold ofI
  rw [if_pos (show 1≤(k:Int)+1∧(k:Int)+1≤((newPl n ea).n:Nat) from ⟨by omega,by show (k:Int)+1≤((n*ea:Nat):Int);omega⟩)]
  show ((((((k:Int)+1).toNat-1)/ea:Nat)):Int)=_
  rw [show ((k:Int)+1).toNat-1=k by omega]
 rw [e] at c
 exact c
end
def WdPost (W:World) (q:Pl) (t:Int) (b o n:Nat) (zs:List Int) (hs vs:List Int) (r:Value) (e:Ending) (w':World):Prop:=e= .returned r∧∃ q':Pl,q'.p=q.p∧PlanAt w' q' t hs vs∧Wr q.F W w'∧Came W q.F q'.F∧RowAt .i64 w' (some ⟨b,o,none⟩) n zs
theorem wd_word {w W:World} {q:Pl} {t:Int} {hs vs:List Int} {b o n:Nat} {zs:List Int} (h:PlanAt w q t hs vs) (hr:RowAt .i64 w (some ⟨b,o,none⟩) n zs) (hb:¬ q.F b) (hL:hs.length≤900000) (k:Wr Nil w W) (x:Int):
  Calls prog 50 #[.pointer (some ⟨q.p,0,none⟩),.int .i64 x,.int .u32 0] W (WdPost W q t b o n zs (hs++[x]) (vs++[0]) (.int .i64 (hs.length:Nat))):=by
 refine (plword_any (h.after k) x 0 (by omega)).mono ?_
 intro e w2 hp
 unfold PlanPost at hp
 obtain ⟨rfl,q2,hq2,hP2,hW,hC2⟩:=hp
 exact ⟨rfl,q2,hq2,hP2,hW,hC2,(hr.after k).wrote hW λa ha e=>by cases ha;exact hb e⟩
theorem i_pl:(prog.info? 254).map (λi=>(i.zero,i.size,i.bytes))=some (some (.agg #[.int .i64 0,.int .i64 0,.int .u32 0,.int .u32 0]),4,24):=by kernel_rfl
theorem made_tk (n:Nat):madeCells (Value.agg #[.int .i64 0,.int .i64 0,.int .u32 0,.int .u32 0]).cells (n*4)=(tks n pc0).toArray:=by
 apply Array.ext'
 show (madeCells (#[.int .i64 0,.int .i64 0,.int .u32 0,.int .u32 0]:Array Value) (n*4)).toList=tks n pc0
 apply List.ext_getElem?
 intro m
 by_cases hm:m<n*4
 ·have ha:m/4<n:=by omega
  have e:m=m/4*4+m%4:=by omega
  have h2:=tks_at n pc0 (k:=m/4) ha (j:=m%4) (Nat.mod_lt _ (by decide))
  rw [←e] at h2
  rw [h2]
  unfold madeCells
  rw [Array.toList_map,List.getElem?_map,Array.toList_range,List.getElem?_range hm]
  have:m%4=0∨m%4=1∨m%4=2∨m%4=3:=by omega
  rcases this with h|h|h|h<;>simp [h,Pc.cells]
 ·rw [List.getElem?_eq_none (by simp [madeCells];omega),List.getElem?_eq_none (by unfold tks;rw [flat_len (tkC_len _),List.length_range];omega)]
def NewAbPost (w:World) (q:Pl) (t:Int) (hs vs:List Int) (n ea:Nat) (zs:List Int) (e:Ending) (w':World):Prop:=
 ∃ (L:Lp) (q':Pl),e= .returned (.tuple #[.pointer (some ⟨L.lb,0,none⟩),.int .i64 0])∧RawN w' L n ea∧
  (w.heap.size≤L.lb∧w.heap.size≤L.p∧w.heap.size≤L.b∧w.heap.size≤L.tb)∧L.a1=hs.length∧L.a2=hs.length+1∧q'.p=q.p∧PlanAt w' q' t (hs++[zs.getD 0 0]++triH ea zs (n*ea)) (vs++[0]++List.replicate (3*(n*ea)) 0)∧Wr q.F w w'∧Came w q.F q'.F
structure Made2 (w wp:World) (n ea:Nat) (p sb:Nat) (Q:Pp):Prop where
 seat:SeatAt wp p sb (newSeat n true false)
 pool:PoolAt wp Q (newPl n ea)
 low:w.heap.size≤p∧w.heap.size≤sb
 pf:∀ j,Q.F n j→w.heap.size≤j∧p<j∧j≠sb
 wr:Wr Nil w wp
theorem made2 {w wq wp:World} {n ea p sb:Nat} {Q:Pp} (hS:SeatAt wq p sb (newSeat n true false)) (hp:w.heap.size≤p) (hsb:w.heap.size≤sb) (hW:Wr Nil w wq) (hQ:PoolAt wp Q (newPl n ea)) (hF:∀ k,Q.F n k→wq.heap.size≤k) (hW2:Wr Nil wq wp):Made2 w wp n ea p sb Q:=by
 have l1:=blk_lt hS.obj
 have l2:=blk_lt hS.ctx
 have s1:=hW.size
 exact ⟨hS.after hW2,hQ,⟨hp,hsb⟩,λj hj=>by have:=hF j hj;omega,hW.nil hW2⟩
theorem lay_start {w wp w1 w2 W:World} {q q2:Pl} {t:Int} {hs vs hs2 vs2:List Int} {b o n ea p sb lb tb:Nat} {Q:Pp} {zs:List Int} {A:Array Value} {x:Int} (h:PlanAt w q t hs vs) (hbl:b<w.heap.size) (hb:¬ q.F b) (hM:Made2 w wp n ea p sb Q) (he:1≤ea∧ea≤8) (hA:(tks n pc0).toArray=A)
  (k1:Wr Nil wp w1) (hq2:q2.p=q.p) (hP2:PlanAt w2 q2 t hs2 vs2) (hW:Wr q.F w1 w2) (hC:Came w1 q.F q2.F) (hr2:RowAt .i64 w2 (some ⟨b,o,none⟩) n zs) (k3:Wr Nil w2 W)
  (hT:W.heap[tb]? =some (.cells A 254 (0,0))) (ht:wp.heap.size≤tb) (ht2:tb<w1.heap.size∨w2.heap.size≤tb) (hO:W.heap[lb]? =some (.cells (lkO p Q.p x tb n) 134 (0,0))) (hl:w2.heap.size≤lb) (hlt:lb≠tb) (hx:0≤x∧x≤2000000):
  LaySt w q t lb p sb tb b o n ea Q zs x hs2 vs2 W:=by
 have s1:=hM.wr.size
 have s2:=k1.size
 have s3:=hW.size
 have l1:=blk_lt hM.seat.obj
 have l2:=blk_lt hM.seat.ctx
 have lw:=hM.low
 have hF:∀ k,w.heap.size≤k→¬ q.F k:=λk hk e=>by have:=h.lt e;omega
 have hF2:∀ k,k<w1.heap.size→¬ q.F k→¬ q2.F k:=λk hk h0 e=>by
  rcases hC k e with e|e
  ·exact h0 e
  ·omega
 have hF3:∀ k,w2.heap.size≤k→¬ q2.F k:=λk hk e=>by have:=hP2.lt e;omega
 have hS2:=(hM.seat.wrote k1 id id).wrote hW (hF p lw.1) (hF sb lw.2)
 have hS3:=hS2.wrote k3 id id
 have hQ3:=((hM.pool.after k1).wrote hW λj hj=>hF j (hM.pf j hj).1).after k3
 have hne:=hM.seat.ne
 have kw:Wr q.F w W:=(((hM.wr.nil k1).mono λ_ _ e=>e.elim:Wr q.F w w1).trans hW λ_ _ e=>e).trans k3 λ_ _ e=>e.elim
 refine ⟨⟨q2,hq2,hP2.after k3,λj hj=> ?_,hF3 _ hl,hF2 _ (by omega) (hF p lw.1),hF2 _ (by omega) (hF sb lw.2),?_,hF2 _ (by omega) hb,λj hj=>hF2 _ (by have:=hM.pool.lt hj;omega) (hF j (hM.pf j hj).1)⟩,kw,hO,hS3,hT.trans (by rw [←hA]),hQ3,hr2.after k3,⟨by omega,by omega,by omega,by omega⟩,⟨by omega,by omega,by omega,by omega,by omega⟩,λj hj=> ?_,he,hx⟩
 ·rcases hC j hj with e|e
  ·exact .inl e
  ·exact .inr (by omega)
 ·rcases ht2 with e|e
  ·exact hF2 _ e (hF _ (by omega))
  ·exact hF3 _ e
 ·have a:=hM.pool.lt hj
  have b:=hM.pf j hj
  exact ⟨by omega,b.2.1,b.2.2,by omega⟩
theorem fn_end {w wr:World} {q:Pl} {t:Int} {hs vs:List Int} {b o n ea p sb lb tb:Nat} {Q:Pp} {zs:List Int} {x:Int} (hl:LaySt w q t lb p sb tb b o n ea Q zs ((hs.length:Nat):Int) (hs++[x]++triH ea zs (n*ea)) (vs++[0]++List.replicate (3*(n*ea)) 0) wr) (hx:x=zs.getD 0 0):
  NewAbPost w q t hs vs n ea zs (.returned (.tuple #[.pointer (some ⟨lb,0,none⟩),.int .i64 0])) wr:=by
 obtain ⟨q',hq,hP,hC,_⟩:=hl.plan
 rw [hx] at hP
 exact ⟨_,q',rfl,hl.raw,hl.low,rfl,rfl,hq,hP,hl.kp,hC⟩
theorem fn_new {w:World} {q:Pl} {t:Int} {hs vs:List Int} (h:PlanAt w q t hs vs) {b o n cap:Nat} {zs:List Int} (hr:RowAt .i64 w (some ⟨b,o,none⟩) n zs) (ho:homesOK zs=true) (n1:1≤n) (n2:n≤64) (ea:Nat) (e1:1≤ea) (e2:ea≤8) (hL:hs.length≤800000) (hb:¬ q.F b):
  Calls prog 38 #[.pointer (some ⟨q.p,0,none⟩),.slice (some ⟨b,o,none⟩) n cap,.int .i64 (ea:Int)] w (NewAbPost w q t hs vs n ea zs):=by
 obtain ⟨i0,hi,hz0,hz1,hz2⟩:=info_parts i_pl
 have hmk:∀ w:World,(Instr.makeSlice 132 (.int .i64 (n:Int)) (.int .i64 (n:Int))).run prog w= .ok (.slice (some ⟨w.heap.size,0,none⟩) n n) (w.alloc (.cells (tks n pc0).toArray 254)):=by
  intro w
  have h:=Go.run_make (P:=prog) w 132 254 i0 _ underlying132 hi hz0 .i64 .i64 n n (by omega) (by omega) (by rw [hz2];omega) (by omega)
  rw [hz1] at h
  simp only [Int.toNat_natCast] at h
  rw [made_tk n] at h
  exact h
 generalize hA:(tks n pc0).toArray=A at hmk
 have cS:=hm_seats (cap:=cap) hr ho true false n1 n2
 have cP:=λW=>po_new n ea n1 n2 e1 e2 W
 obtain ⟨x,hx⟩:∃ x,x=zs.getD 0 0:=⟨_,rfl⟩
 have hc:=hr.cell ⟨b,o,none⟩ rfl 0 (by omega)
 have hc:w.cell? ⟨b,o,none⟩=some (.int .i64 x):=by rw [hx];exact hc
 have hbx:b<w.heap.size:=World.block_lt_of_cell? w _ hc
 have hlen:=hr.len
 have HX:=Lib.hid (And.intro h (And.intro hr (And.intro hA (And.intro hbx (And.intro hb hx)))))
 have HC:=Lib.hid hc
 have HE8:=Lib.hid (And.intro e1 e2)
 clear h hr ho hA hb hbx hx hc
 have n0:(0:Nat)<n:=n1
 have m5:n*ea≤512:=Nat.mul_le_mul n2 e2
 go_enter func38,ntmps38
 go_wp2_with (first
  |(go_at_call 48;(with_reducible refine cS.mono ?_);intro e wq hq;unfold NewSeatPost at hq;obtain ⟨p,sb,rfl,hS,hp,hsb,hW⟩:=hq;have HS:=Lib.hid (And.intro hS (And.intro hp (And.intro hsb hW)));clear hS hp hsb hW cS)
  |(go_at_call 56;(with_reducible refine (cP _).mono ?_);intro e wp hq;unfold NewPoolPost at hq;obtain ⟨Q,rfl,hQ,hF,hW⟩:=hq;have hM:=made2 HS.out.1 HS.out.2.1 HS.out.2.2.1 HS.out.2.2.2 hQ hF hW;have b1:=hM.wr.old HC.out;clear HS;have HM2:=Lib.hid hM;clear hQ hF hW hM cP))
 have cW:=λW (k:Wr Nil w W)=>wd_word HX.out.1 HX.out.2.1 HX.out.2.2.2.2.1 (by omega) k x
 go_region_held3 (λw'=>w'.cell? ⟨b,o,none⟩=some (.int .i64 x)) (first|exact b1|exact i1|go_keep) (first
  |(go_at_call 50;(with_reducible refine (cW _ (by first|exact (HM2.out.wr).drew|exact ((HM2.out.wr).drew).alloc _|exact ((HM2.out.wr).alloc _).drew)).mono ?_);intro e w2 hq;unfold WdPost at hq;obtain ⟨rfl,q1,hq1,hP1,hF1,hC1,hr1⟩:=hq;clear cW;have i1:w2.cell? ⟨b,o,none⟩=some (.int .i64 x):=(hr1.cell ⟨b,o,none⟩ rfl 0 n0).trans (by rw [HX.out.2.2.2.2.2]);have HM:=Lib.hid (And.intro hq1 (And.intro hP1 (And.intro hF1 (And.intro hC1 hr1))));clear hq1 hP1 hF1 hC1 hr1))
 ·have HL:=Lib.hid (show LaySt w q t (w2.heap.size+1) p sb (w2.heap.size) b o n ea Q zs ((hs.length:Nat):Int) (hs++[x]) (vs++[0]) ((w2.alloc (.cells A 254)).alloc (.cells (lkO p Q.p ((hs.length:Nat):Int) w2.heap.size n) 134)) from by
    obtain ⟨h,hr,hA,hbx,hb,hx⟩:=HX.out
    obtain ⟨hq1,hP1,hF1,hC1,hr1⟩:=HM.out
    have e1:(w2.alloc (.cells A 254)).heap.size=w2.heap.size+1:=nblk_alloc _ _
    exact lay_start h hbx hb HM2.out HE8.out hA ((Wr.refl _ _).drew) hq1 hP1 hF1 hC1 hr1 (((Wr.refl _ _).alloc _).alloc _) ((blk_alloc_lt _ _ _ (by rw [e1];omega)).trans (blk_alloc_new _ _)) (hF1.size) (.inr (Nat.le_refl _)) (by rw [←e1];exact blk_alloc_new _ _) (by omega) (by omega) ⟨by omega,by omega⟩)
  obtain ⟨W,hW⟩:∃ W,W=(w2.alloc (.cells A 254)).alloc (.cells (lkO p Q.p ((hs.length:Nat):Int) w2.heap.size n) 134):=⟨_,rfl⟩
  rw [←hW] at HL ⊢
  clear hW HM i1 b1
  have cN:=po_len HL.out.pool
  generalize (w2.heap.size+1)=lb at*
  generalize (w2.heap.size)=tb at*
  rw [show (newPl n ea).n=n*ea from rfl] at cN
  generalize hm:n*ea=m at*
  go_wp2_with (first
   |(go_at_call 57;(with_reducible refine cN.mono ?_);rintro e w' ⟨rfl,rfl⟩))
  go_loopw [12,44] (λ_ i wr=>∃ k:Nat,k≤m∧i= .int .i64 k∧LaySt w q t lb p sb tb b o n ea Q zs ((hs.length:Nat):Int) (hs++[x]++triH ea zs k) (vs++[0]++List.replicate (3*k) 0) wr) (λ_ i _=>m-(intOf i).toNat)
  case atStart=>exact ⟨0,Nat.zero_le _,rfl,by simpa [triH] using HL.out⟩
  case round=>
   clear HL
   obtain ⟨k,hk,rfl,hl⟩:=hrel
   by_cases hlt:k<m
   ·have hdiv:k/ea<n:=Nat.div_lt_of_lt_mul (by rw [Nat.mul_comm,hm];exact hlt)
    have yc:=hl.home hdiv
    have rk0:(0:Int)≤((k/ea:Nat):Int):=Int.natCast_nonneg _
    have rk1:((k/ea:Nat):Int)<(n:Int):=by omega
    have hmore:=triH_more ea zs k
    have rmore:=repz_more k 0
    have cO:=ly_of hl k (by rw [hm];exact hlt) n2
    have cR:=ly_row hl HX.out.2.2.2.1 (zs.getD (k/ea) 0) (by simp only [List.length_append,List.length_singleton,triH_len];omega)
    rw [List.append_assoc (hs++[x]),←hmore,List.append_assoc (vs++[0]),←rmore] at cR
    generalize zs.getD (k/ea) 0=y at*
    generalize k/ea=d at*
    have wk:IntKind.i64.wrap ((k:Int)+1)=(k:Int)+1:=by rw [IntKind.wrap_i64];omega
    clear hl hmore rmore hm hdiv
    go_wp2_with (first
     |(go_at_call 58;(with_reducible refine cO.mono ?_);rintro e w' ⟨rfl,rfl⟩)
     |(go_at_call 55;(with_reducible refine cR.mono ?_);intro e w4 hq;unfold LayPost at hq;obtain ⟨rfl,hA⟩:=hq;have HA:=Lib.hid hA;clear hA))
    go_roundw
    case rel=>exact ⟨k+1,by omega,by go_num,HA.out⟩
    case measure=>simp [intOf];omega
   ·obtain rfl:k=m:=by omega
    have HL:=Lib.hid hl
    have HM:=Lib.hid hm
    clear hl hm
    go_wp2
    go_ret2
    rw [←HM.out] at HL
    exact fn_end HL.out HX.out.2.2.2.2.2
 ·have HL:=Lib.hid (show LaySt w q t (w2.heap.size) p sb (wp.heap.size) b o n ea Q zs ((hs.length:Nat):Int) (hs++[x]) (vs++[0]) (w2.alloc (.cells (lkO p Q.p ((hs.length:Nat):Int) wp.heap.size n) 134)) from by
    obtain ⟨h,hr,hA,hbx,hb,hx⟩:=HX.out
    obtain ⟨hq1,hP1,hF1,hC1,hr1⟩:=HM.out
    have e1:(wp.alloc (.cells A 254)).drew.heap.size=wp.heap.size+1:=nblk_alloc wp _
    have s1:=hF1.size
    have s2:=HM2.out.wr.size
    have hk:=hF1.block wp.heap.size (by rw [e1];omega) (λe=>by have:=h.lt e;omega)
    exact lay_start h hbx hb HM2.out HE8.out hA (((Wr.refl _ _).alloc _).drew) hq1 hP1 hF1 hC1 hr1 ((Wr.refl _ _).alloc _) ((blk_alloc_lt _ _ _ (by omega)).trans (hk.trans (blk_alloc_new wp _))) (Nat.le_refl _) (.inl (by rw [e1];omega)) (blk_alloc_new _ _) (Nat.le_refl _) (by omega) ⟨by omega,by omega⟩)
  obtain ⟨W,hW⟩:∃ W,W=w2.alloc (.cells (lkO p Q.p ((hs.length:Nat):Int) wp.heap.size n) 134):=⟨_,rfl⟩
  rw [←hW] at HL ⊢
  clear hW HM i1 b1
  have cN:=po_len HL.out.pool
  generalize (w2.heap.size)=lb at*
  generalize (wp.heap.size)=tb at*
  rw [show (newPl n ea).n=n*ea from rfl] at cN
  generalize hm:n*ea=m at*
  go_wp2_with (first
   |(go_at_call 57;(with_reducible refine cN.mono ?_);rintro e w' ⟨rfl,rfl⟩))
  go_loopw [12,44] (λ_ i wr=>∃ k:Nat,k≤m∧i= .int .i64 k∧LaySt w q t lb p sb tb b o n ea Q zs ((hs.length:Nat):Int) (hs++[x]++triH ea zs k) (vs++[0]++List.replicate (3*k) 0) wr) (λ_ i _=>m-(intOf i).toNat)
  case atStart=>exact ⟨0,Nat.zero_le _,rfl,by simpa [triH] using HL.out⟩
  case round=>
   clear HL
   obtain ⟨k,hk,rfl,hl⟩:=hrel
   by_cases hlt:k<m
   ·have hdiv:k/ea<n:=Nat.div_lt_of_lt_mul (by rw [Nat.mul_comm,hm];exact hlt)
    have yc:=hl.home hdiv
    have rk0:(0:Int)≤((k/ea:Nat):Int):=Int.natCast_nonneg _
    have rk1:((k/ea:Nat):Int)<(n:Int):=by omega
    have hmore:=triH_more ea zs k
    have rmore:=repz_more k 0
    have cO:=ly_of hl k (by rw [hm];exact hlt) n2
    have cR:=ly_row hl HX.out.2.2.2.1 (zs.getD (k/ea) 0) (by simp only [List.length_append,List.length_singleton,triH_len];omega)
    rw [List.append_assoc (hs++[x]),←hmore,List.append_assoc (vs++[0]),←rmore] at cR
    generalize zs.getD (k/ea) 0=y at*
    generalize k/ea=d at*
    have wk:IntKind.i64.wrap ((k:Int)+1)=(k:Int)+1:=by rw [IntKind.wrap_i64];omega
    clear hl hmore rmore hm hdiv
    go_wp2_with (first
     |(go_at_call 58;(with_reducible refine cO.mono ?_);rintro e w' ⟨rfl,rfl⟩)
     |(go_at_call 55;(with_reducible refine cR.mono ?_);intro e w4 hq;unfold LayPost at hq;obtain ⟨rfl,hA⟩:=hq;have HA:=Lib.hid hA;clear hA))
    go_roundw
    case rel=>exact ⟨k+1,by omega,by go_num,HA.out⟩
    case measure=>simp [intOf];omega
   ·obtain rfl:k=m:=by omega
    have HL:=Lib.hid hl
    have HM:=Lib.hid hm
    clear hl hm
    go_wp2
    go_ret2
    rw [←HM.out] at HL
    exact fn_end HL.out HX.out.2.2.2.2.2
open _root_.Go.Proofs.Tryz
def Low (L:Lp) (k:Nat):Prop:=k<L.q.k3
theorem LkAt.low {w w':World} {L:Lp} {f:FL} (h:LkAt w L f) (k:Wr (LF L) w w'):Wr (Low L) w w':=k.mono λb _ e=>by
 have h1:=h.far
 have h2:=h.port.place.le
 unfold Low
 rcases e with rfl|rfl|e
 ·omega
 ·omega
 ·exact e.2
structure LkS (w0 w:World) (L:Lp) (f:FL):Prop where
 lk:LkAt w L f
 low:w0.heap.size≤L.lb∧w0.heap.size≤L.p∧w0.heap.size≤L.b∧w0.heap.size≤L.tb∧w0.heap.size≤L.q.k0
 wr:Wr Nil w0 w
namespace LkS
variable {w0 w w':World} {L:Lp} {f f':FL}
theorem after (h:LkS w0 w L f) (k:Wr Nil w w'):LkS w0 w' L f:=⟨h.lk.after k,h.low,h.wr.nil k⟩
theorem apart {S:Nat→Prop} (h:LkS w0 w L f) (k:Wr S w w') (hS:∀ b,S b→L.q.k3≤b):LkS w0 w' L f:=by
 have h1:=h.lk.far
 have h2:=h.lk.port.place.le
 have h3:=h.low
 have n:∀ b,b<L.q.k3→¬ S b:=λb hb e=>by have:=hS b e;omega
 have ht:=h.lk.top
 refine ⟨h.lk.wrote k n,h.low,h.wr.trans k λb hb e=> ?_⟩
 exact n b (by omega) e
theorem lnew (h:LkS w0 w L f) {k:Nat} (hk:LF L k):w0.heap.size≤k:=by
 have:=h.low
 rcases hk with rfl|rfl|hk
 ·omega
 ·omega
 ·have:=hk.1;omega
theorem call (h:LkS w0 w L f) (hl:LkAt w' L f') (k:Wr (LF L) w w'):LkS w0 w' L f':=⟨hl,h.low,h.wr.trans k λb hb e=>by have:=h.lnew e;unfold Nil;omega⟩
theorem cell0 (h:LkS w0 w L f):w.cell? ⟨L.lb,0,none⟩=some (.pointer (some ⟨L.p,0,none⟩)):=h.lk.raw.cell0
end LkS
def LsPost (w0 w:World) (L:Lp) (f:FL) (v:Value) (e:Ending) (w':World):Prop:=e= .returned v∧LkS w0 w' L f∧Wr (Low L) w w'
section
variable {w0 w:World} {L:Lp} {f:FL}
theorem ls_lock (h:LkS w0 w L f) (t d:Int):Calls prog 127 #[.pointer (some ⟨L.p,0,none⟩),.int .i64 t,.int .i64 d] w (LsPost w0 w L (f.lock t d) (.int .i64 (lockE f.s t d))):=
 (se_lock h.lk.raw.seat t d).mono λe w' ⟨he,hS,hW⟩=>⟨he,h.call (h.lk.seats hS (SS.lock_kA _ _ _) hW) (lf_b hW),h.lk.low (lf_b hW)⟩
theorem ls_unlock (h:LkS w0 w L f) (t:Int):Calls prog 131 #[.pointer (some ⟨L.p,0,none⟩),.int .i64 t] w (LsPost w0 w L (f.turn t 3) (.int .i64 (turnE f.s t))):=
 (se_unlock h.lk.raw.seat t).mono λe w' ⟨he,hS,hW⟩=>⟨he,h.call (h.lk.seats hS (SS.turn_kA _ _ _ rfl) hW) (lf_b hW),h.lk.low (lf_b hW)⟩
theorem ls_step (h:LkS w0 w L f) (t u x:Int) (hD:f.ps.D.length<4611686018427387904):Calls prog 175 #[.pointer (some ⟨L.lb,0,none⟩),.int .i64 t,.int .i64 u,.int .i64 x] w (LsPost w0 w L (f.step L t u x) (f.did L t u x).val):=
 (fl_step h.lk t u x hD).mono λe w' ⟨he,hl,hW⟩=>⟨he,h.call hl hW,h.lk.low hW⟩
end
structure LkP (w0 w:World) (L:Lp) (f:FL):Prop where
 raw:RawF w L (.pointer none) f
 port:PortAt w L.q L.hs f.ps
 far:L.lb<L.q.k0∧L.p<L.q.k0∧L.b<L.q.k0∧L.tb<L.q.k0
 top:L.q.k3≤w.heap.size
 low:w0.heap.size≤L.lb∧w0.heap.size≤L.p∧w0.heap.size≤L.b∧w0.heap.size≤L.tb∧w0.heap.size≤L.q.k0
 wr:Wr Nil w0 w
theorem lp_use {w0 w:World} {L:Lp} {f:FL} (h:LkP w0 w L f):
  Calls prog 176 #[.pointer (some ⟨L.lb,0,none⟩),.pointer (some ⟨L.q.p,0,none⟩)] w λe w'=>e= .returned (.tuple #[])∧LkS w0 w' L f∧Wr (Low L) w w':=by
 refine (fl_use h.raw ⟨L.q.p,0,none⟩).mono ?_
 rintro e w' ⟨rfl,rfl⟩
 have hW:Wr (One L.lb) w (w.setCell ⟨L.lb,1,none⟩ (.pointer (some ⟨L.q.p,0,none⟩))):=(Wr.refl _ w).setCell _ _ λ_=>rfl
 have hr:=h.raw
 have h1:=h.far
 have h2:=h.port.place.le
 have h3:=h.low
 exact ⟨rfl,⟨⟨hr.use _,h.port.wrote hW λb b1 _ e=>by unfold One at e;omega,h.far,Nat.le_trans h.top hW.size⟩,h.low,h.wr.trans hW λb hb e=>by unfold One at e;unfold Nil;omega⟩,hW.mono λb _ e=>by unfold One at e;unfold Low;omega⟩
theorem lp_made {w0 w1 w2:World} {L0:Lp} {q:Place} {f:FL} {hs:List Int} (hr:RawF w1 L0 (.pointer none) f) (hl:w0.heap.size≤L0.lb∧w0.heap.size≤L0.p∧w0.heap.size≤L0.b∧w0.heap.size≤L0.tb) (h0:Wr Nil w0 w1)
  (hP:PortAt w2 q hs f.ps) (h1:w1.heap.size≤q.k0) (h2:q.k3≤w2.heap.size) (hW:Wr Nil w1 w2):LkP w0 w2 {L0 with q:=q,hs:=hs} f:=by
 have l1:=hr.lto
 have l2:=blk_lt hr.seat.obj
 have l3:=blk_lt hr.seat.ctx
 have l4:=hr.ltt
 have s0:=h0.size
 exact ⟨(hr.after hW).place q hs,hP,⟨by dsimp only;omega,by dsimp only;omega,by dsimp only;omega,by dsimp only;omega⟩,h2,⟨by dsimp only;omega,by dsimp only;omega,by dsimp only;omega,by dsimp only;omega,by dsimp only;omega⟩,h0.nil hW⟩
abbrev zerosA (m:Nat):List Int:=[0]++List.replicate (3*m) 0
abbrev homesA (ea:Nat) (zs:List Int):List Int:=[zs.getD 0 0]++triH ea zs (zs.length*ea)
def newF (n ea t:Nat):FL:=⟨newSeat n true false,ea,λ_=>1,λ_=>0,λ_=>0,λ_=>0,newS t (zerosA (n*ea))⟩
theorem getD_ok {zs:List Int} (h:homesOK zs=true) (i:Nat):okH (zs.getD i 0)=true:=by
 unfold homesOK at h
 rw [List.all_eq_true] at h
 by_cases hi:i<zs.length
 ·exact h _ (by rw [List.getD_eq_getElem?_getD,List.getElem?_eq_getElem hi];exact List.getElem_mem hi)
 ·rw [List.getD_eq_getElem?_getD,List.getElem?_eq_none (by omega)];rfl
theorem homesA_ok {ea:Nat} {zs:List Int} (h:homesOK zs=true):homesOK (homesA ea zs)=true:=by
 have h0:=getD_ok h
 unfold homesOK
 unfold homesA triH
 rw [List.all_eq_true]
 intro x hx
 rw [List.mem_append,List.mem_singleton,List.mem_flatMap] at hx
 rcases hx with rfl|⟨z,hz,hx⟩
 ·exact h0 0
 ·obtain ⟨_,rfl⟩:=List.mem_replicate.1 hx
  exact h0 _
theorem zerosA_at (m j:Nat):(zerosA m).getD j 0=0:=by
 match j with
 |0=>rfl
 |j+1=>
  show (List.replicate (3*m) (0:Int)).getD j 0=0
  rw [List.getD_eq_getElem?_getD,List.getElem?_replicate]
  split<;>rfl
theorem zerosA_len (m:Nat):(zerosA m).length=3*m+1:=by simp [zerosA]
theorem homesA_len (ea:Nat) (zs:List Int):(homesA ea zs).length=3*(zs.length*ea)+1:=by unfold homesA;rw [List.length_append,triH_len];simp;omega
def PtPost (w0:World) (n ea:Nat) (zs:List Int) (lb:Nat) (e:Ending) (w':World):Prop:=∃ L:Lp,e= .returned (.tuple #[.pointer (some ⟨L.q.p,0,none⟩),.int .i64 0])∧(L.a1=0∧L.a2=1∧LkP w0 w' L (newF n ea n))∧L.lb=lb∧L.hs=homesA ea zs
theorem fl_port {w0 w w1:World} {q q':Pl} {n ea:Nat} {zs:List Int} {L0:Lp} (h0:Wr Nil w0 w) (hq:∀ k,q.F k→w0.heap.size≤k) (n1:1≤n) (n2:n≤64) (he:ea≤8) (ho:homesOK zs=true) (hn:zs.length=n)
  (hR:RawN w1 L0 n ea) (hl:w.heap.size≤L0.lb∧w.heap.size≤L0.p∧w.heap.size≤L0.b∧w.heap.size≤L0.tb) (h1:L0.a1=0) (h2:L0.a2=1) (hqq:q'.p=q.p) (hP:PlanAt w1 q' n (homesA ea zs) (zerosA (n*ea))) (hW:Wr q.F w w1):
  Calls prog 26 #[.pointer (some ⟨q.p,0,none⟩)] w1 (PtPost w0 n ea zs L0.lb):=by
 have hm:n*ea≤64*8:=Nat.mul_le_mul n2 he
 have c:=plport_good hP (λj=>by rw [zerosA_at];decide) n1 n2 (by rw [homesA_len,hn];omega) (homesA_ok ho)
 rw [hqq] at c
 refine c.mono ?_
 rintro e w' ⟨qq,rfl,hA,hk0,hk3,hW2⟩
 have s0:=h0.size
 exact ⟨{L0 with q:=qq,hs:=homesA ea zs},rfl,⟨h1,h2,lp_made (f:=newF n ea n) hR (by omega) (h0.trans hW λk hk e=>by have:=hq k e;unfold Nil;omega) hA hk0 hk3 hW2⟩,rfl,rfl⟩
end Go.Proofs.YtmnephejhkfchaaGreat.Ka
