
import Derived.Test.YtkmikkjjnbikdaaGreatHomed
import Derived.Deep.RegionHeld3
namespace Go.Proofs.YtkmikkjjnbikdaaGreat.Kf
open _root_.Go.Proofs.Tryz
open Go.RowKit Go.BigFrame
set_option linter.unusedVariables false
set_option maxRecDepth 100000
theorem fl_use {w:World} {L:Lp} {pv:Value} {s:SS} {num:Nat→Int} {dr:Nat→Bool} (h:FlRaw w L pv s num dr) (a:Addr):
  Calls prog 148 #[.pointer (some ⟨L.lb,0,none⟩),.pointer (some a)] w λe w'=>e= .returned (.tuple #[])∧w'=w.setCell ⟨L.lb,1,none⟩ (.pointer (some a)):=by
 have c1:=h.cell1
 have f1:=h.frozen 1
 clear h
 go_enter func148,ntmps148
 go_wp2
 go_end0
 exact ⟨rfl,rfl⟩
theorem fl_acq0 {w:World} {L:Lp} {f:FL} (h:LkAt w L f) (k:Nat) (hk:k<f.s.n) (u:Int) (hd:f.dr k=false) (hD:f.ps.D.length<4611686018427387904):
  Calls prog 149 #[.pointer (some ⟨L.lb,0,none⟩),.int .i64 (k:Int),.int .i64 u] w (LkPost w L (f.acq L k u) (f.acqD L k u).val):=by
 have e1:f.acq L k u={f with num:=upd f.num k (tellS f.ps u 5 L.a1),dr:=upd f.dr k true,ps:=doS f.ps u 5 L.a1 0 1}:=by unfold FL.acq;rw [hd];rfl
 have e2:f.acqD L k u=⟨0,true,false,false⟩:=by unfold FL.acqD;rw [hd];rfl
 rw [e1,e2]
 clear e1 e2
 have hF:=Fr.start h
 obtain ⟨Z,hZ⟩:∃ Z,Z=w.alloc (.cells #[.int .i64 0,.bool false,.bool false,.bool false] 71):=⟨_,rfl⟩
 rw [←hZ] at hF
 have c1:=hF.lk.raw.cell1
 have c4:=hF.lk.raw.cell4
 have hkI:(k:Int)<f.s.n:=by omega
 have hn64:=h.raw.seat.n2
 have c2:=hF.lk.raw.cell2
 have t0:=hF.lk.raw.tk0 hk
 have t1:=hF.lk.raw.tk1 hk
 have z0:=hF.lk.raw.tkz (k*2)
 have z1:=hF.lk.raw.tkz (k*2+1)
 rw [hd] at t1
 have cA:=padd_any hF.drew.lk.port u L.a1 1 (by omega) (by omega) hD
 have HE:=Lib.hid (And.intro h (And.intro hk (And.intro hF (h.tell u 5 L.a1))))
 clear h hF
 rw [hZ] at t1 c4
 go_enter func149,ntmps149
 go_wp2
 rw [←hZ]
 clear hZ t1 c4
 go_region_held3 (λw'=>w'.cell? ⟨L.lb,1,none⟩=some (.pointer (some ⟨L.q.p,0,none⟩))∧w'.cell? ⟨L.lb,2,none⟩=some (.int .i64 L.a1)) (first|exact ⟨c1,c2⟩|exact ⟨d1,d2⟩|exact ⟨g1,g2⟩) (first|(go_at_call 152;(with_reducible refine cA.mono ?_);intro e w2 hq;unfold AccPost at hq;obtain ⟨rfl,hP,hW⟩:=hq;have hA:=HE.out.2.2.1.drew.lk.ports hP hW;have hA2:=Fr.call HE.out.1 HE.out.2.2.1.drew hA (lf_q hW);have d1:=hA.raw.cell1;have d2:=hA.raw.cell2;have y0:=hA.raw.tk0 HE.out.2.1;have y1:=hA.raw.tk1 HE.out.2.1;have y2:=hA.raw.tkz (k*2);have y3:=hA.raw.tkz (k*2+1);have hT:=hA.ticks HE.out.2.1 (tellS f.ps u 5 L.a1) true HE.out.2.2.2;have g1:=hT.1.raw.cell1;have g2:=hT.1.raw.cell2;have hA3:=Fr.call HE.out.1 hA2 hT.1 (lf_t hT.2);obtain ⟨v0,v1,v2,v3⟩:=hA3.cell;obtain ⟨x0,x1,x2,x3⟩:=hA3.frz;have HT:=Lib.hid hA3;clear hA hA2 hA3 hT hP hW))
 go_wp2
 refine bodyPost_ret (v:=Dd.val ⟨0,true,false,false⟩) (results_cell_row rfl _ _ w.heap.size 71 _ (0,0) _ rfl (set4 HT.out.res rfl _ _ _ _) underlying71 rfl i_did) rfl (HT.out.told HE.out.1 ⟨0,true,false,false⟩)
theorem fl_acq1 {w:World} {L:Lp} {f:FL} (h:LkAt w L f) (k:Nat) (hk:k<f.s.n) (u:Int) (hd:f.dr k=true) (hD:f.ps.D.length<4611686018427387904):
  Calls prog 149 #[.pointer (some ⟨L.lb,0,none⟩),.int .i64 (k:Int),.int .i64 u] w (LkPost w L (f.acq L k u) (f.acqD L k u).val):=by
 have e1:f.acq L k u={f with ps:=doS f.ps u 1 L.a2 0 0}:=by unfold FL.acq;rw [hd];rfl
 have e2:f.acqD L k u=if tellS f.ps u 1 L.a2=f.num k then ⟨1,false,false,false⟩ else Dd.no:=by unfold FL.acqD;rw [hd];rfl
 rw [e1,e2]
 clear e1 e2
 have hF:=Fr.start h
 obtain ⟨Z,hZ⟩:∃ Z,Z=w.alloc (.cells #[.int .i64 0,.bool false,.bool false,.bool false] 71):=⟨_,rfl⟩
 rw [←hZ] at hF
 have c1:=hF.lk.raw.cell1
 have c4:=hF.lk.raw.cell4
 have hkI:(k:Int)<f.s.n:=by omega
 have hn64:=h.raw.seat.n2
 have c3:=hF.lk.raw.cell3
 have t0:=hF.lk.raw.tk0 hk
 have t1:=hF.lk.raw.tk1 hk
 rw [hd] at t1
 have cA:=pload_any hF.drew.lk.port u L.a2 hD
 have HE:=Lib.hid (And.intro h (And.intro hk hF))
 clear h hF
 rw [hZ] at t1 c4
 by_cases hx:tellS f.ps u 1 L.a2=f.num k
 all_goals
  first|rw [if_pos hx]|rw [if_neg hx]
  have b1:(tellS f.ps u 1 L.a2 != f.num k)=decide (¬ tellS f.ps u 1 L.a2=f.num k):=by simp [bne,BEq.beq]
  first|rw [decide_eq_true hx] at b1|rw [decide_eq_false (not_not_intro hx)] at b1
  go_enter func149,ntmps149
  go_wp2
  rw [←hZ]
  clear hZ t1 c4
  go_region_held3 (λw'=>w'.cell? ⟨L.lb,1,none⟩=some (.pointer (some ⟨L.q.p,0,none⟩))∧w'.cell? ⟨L.lb,3,none⟩=some (.int .i64 L.a2)∧w'.cell? ⟨L.tb,k*2,none⟩=some (.int .u32 (f.num k))) (first|exact ⟨c1,c3,t0⟩|exact ⟨d1,d3,y0⟩) (first|(go_at_call 89;(with_reducible refine cA.mono ?_);intro e w2 hq;unfold AccPost at hq;obtain ⟨rfl,hP,hW⟩:=hq;have hA:=HE.out.2.2.drew.lk.ports hP hW;have d1:=hA.raw.cell1;have d3:=hA.raw.cell3;have y0:=hA.raw.tk0 HE.out.2.1;have hA3:=Fr.call HE.out.1 HE.out.2.2.drew hA (lf_q hW);obtain ⟨v0,v1,v2,v3⟩:=hA3.cell;obtain ⟨x0,x1,x2,x3⟩:=hA3.frz;have HT:=Lib.hid hA3;clear hA hA3 hP hW))
  all_goals
   go_wp2
   first
    |refine bodyPost_ret (v:=Dd.val ⟨1,false,false,false⟩) (results_cell_row rfl _ _ w.heap.size 71 _ (0,0) _ rfl (set4 HT.out.res rfl _ _ _ _) underlying71 rfl i_did) rfl (HT.out.told HE.out.1 ⟨1,false,false,false⟩)
    |refine bodyPost_ret (v:=Dd.val ⟨0,false,false,false⟩) (results_cell_row rfl _ _ w.heap.size 71 _ (0,0) _ rfl (set4 HT.out.res rfl _ _ _ _) underlying71 rfl i_did) rfl (HT.out.told HE.out.1 ⟨0,false,false,false⟩)
theorem fl_acq {w:World} {L:Lp} {f:FL} (h:LkAt w L f) (k:Nat) (hk:k<f.s.n) (u:Int) (hD:f.ps.D.length<4611686018427387904):
  Calls prog 149 #[.pointer (some ⟨L.lb,0,none⟩),.int .i64 (k:Int),.int .i64 u] w (LkPost w L (f.acq L k u) (f.acqD L k u).val):=by
 cases hd:f.dr k
 ·exact fl_acq0 h k hk u hd hD
 ·exact fl_acq1 h k hk u hd hD
theorem fl_rel {w:World} {L:Lp} {f:FL} (h:LkAt w L f) (k:Nat) (hk:k<f.s.n) (u:Int) (hD:f.ps.D.length<4611686018427387904):
  Calls prog 150 #[.pointer (some ⟨L.lb,0,none⟩),.int .i64 (k:Int),.int .i64 u] w (LkPost w L (f.rel L k u) (Dd.val ⟨3,false,false,false⟩)):=by
 unfold FL.rel
 obtain ⟨m,hm⟩:∃ m,m=(f.num k+1)%4294967296:=⟨_,rfl⟩
 have ew:IntKind.u32.wrap (f.num k+1)=m:=by rw [hm];rfl
 have hm1:0≤m∧m<4294967296:=by omega
 rw [←hm]
 have hF:=Fr.start h
 obtain ⟨Z,hZ⟩:∃ Z,Z=w.alloc (.cells #[.int .i64 0,.bool false,.bool false,.bool false] 71):=⟨_,rfl⟩
 rw [←hZ] at hF
 have c1:=hF.lk.raw.cell1
 have c4:=hF.lk.raw.cell4
 have hkI:(k:Int)<f.s.n:=by omega
 have hn64:=h.raw.seat.n2
 have c3:=hF.lk.raw.cell3
 have t0:=hF.lk.raw.tk0 hk
 have cA:=pstore_any hF.drew.lk.port u L.a2 m hm1.1 hm1.2 hD
 have HE:=Lib.hid (And.intro h (And.intro hk hF))
 clear h hF hm hm1
 rw [hZ] at c4
 go_enter func150,ntmps150
 go_wp2
 rw [←hZ]
 clear hZ c4
 go_region_held3 (λw'=>w'.cell? ⟨L.lb,1,none⟩=some (.pointer (some ⟨L.q.p,0,none⟩))∧w'.cell? ⟨L.lb,3,none⟩=some (.int .i64 L.a2)∧w'.cell? ⟨L.tb,k*2,none⟩=some (.int .u32 (f.num k))) (first|exact ⟨c1,c3,t0⟩|exact ⟨d1,d3,y0⟩) (first|(go_at_call 100;(with_reducible refine cA.mono ?_);intro e w2 hq;unfold AccPost at hq;obtain ⟨rfl,hP,hW⟩:=hq;have hA:=HE.out.2.2.drew.lk.ports hP hW;have d1:=hA.raw.cell1;have d3:=hA.raw.cell3;have y0:=hA.raw.tk0 HE.out.2.1;have y1:=hA.raw.tk1 HE.out.2.1;have y2:=hA.raw.tkz (k*2);have y3:=hA.raw.tkz (k*2+1);have hA3:=Fr.call HE.out.1 HE.out.2.2.drew hA (lf_q hW);have hT:=hA.ticks HE.out.2.1 0 false (by omega);have hA4:=Fr.call HE.out.1 hA3 hT.1 (lf_t hT.2);obtain ⟨v0,v1,v2,v3⟩:=hA4.cell;obtain ⟨x0,x1,x2,x3⟩:=hA4.frz;have HT:=Lib.hid hA4;clear hA hA3 hA4 hT hP hW))
 go_wp2
 refine bodyPost_ret (v:=Dd.val ⟨3,false,false,false⟩) (results_cell_row rfl _ _ w.heap.size 71 _ (0,0) _ rfl (set4 HT.out.res rfl _ _ _ _) underlying71 rfl i_did) rfl (HT.out.told HE.out.1 ⟨3,false,false,false⟩)
theorem fl_ask {w:World} {L:Lp} {f:FL} (h:LkAt w L f) (k:Nat) (hk:k<f.s.n) (u:Int) (hD:f.ps.D.length<4611686018427387904):
  Calls prog 151 #[.pointer (some ⟨L.lb,0,none⟩),.int .i64 (k:Int),.int .i64 u] w (LkPost w L (f.ask L k u) (f.askD L k u).val):=by
 unfold FL.ask FL.askD
 obtain ⟨m,hm⟩:∃ m,m=(f.num k+1)%4294967296:=⟨_,rfl⟩
 have ew:IntKind.u32.wrap (f.num k+1)=m:=by rw [hm];rfl
 rw [←hm]
 have hF:=Fr.start h
 obtain ⟨Z,hZ⟩:∃ Z,Z=w.alloc (.cells #[.int .i64 0,.bool false,.bool false,.bool false] 71):=⟨_,rfl⟩
 rw [←hZ] at hF
 have c1:=hF.lk.raw.cell1
 have c4:=hF.lk.raw.cell4
 have hkI:(k:Int)<f.s.n:=by omega
 have hn64:=h.raw.seat.n2
 have c2:=hF.lk.raw.cell2
 have t0:=hF.lk.raw.tk0 hk
 have cA:=pload_any hF.drew.lk.port u L.a1 hD
 have HE:=Lib.hid (And.intro h (And.intro hk hF))
 clear h hF hm
 by_cases hx:tellS f.ps u 1 L.a1=m
 all_goals
  first|rw [if_pos hx]|rw [if_neg hx]
  have b1:(tellS f.ps u 1 L.a1 != m)=decide (¬ tellS f.ps u 1 L.a1=m):=by simp [bne,BEq.beq]
  first|rw [decide_eq_true hx] at b1|rw [decide_eq_false (not_not_intro hx)] at b1
  go_enter func151,ntmps151
  go_wp2
  rw [←hZ]
  clear hZ
  go_region_held3 (λw'=>w'.cell? ⟨L.lb,1,none⟩=some (.pointer (some ⟨L.q.p,0,none⟩))∧w'.cell? ⟨L.lb,2,none⟩=some (.int .i64 L.a1)∧w'.cell? ⟨L.lb,4,none⟩=some (.slice (some ⟨L.tb,0,none⟩) f.s.n f.s.n)∧w'.cell? ⟨L.tb,k*2,none⟩=some (.int .u32 (f.num k))) (first|exact ⟨c1,c2,c4,t0⟩|exact ⟨d1,d3,d4,y0⟩) (first|(go_at_call 89;(with_reducible refine cA.mono ?_);intro e w2 hq;unfold AccPost at hq;obtain ⟨rfl,hP,hW⟩:=hq;have hA:=HE.out.2.2.drew.lk.ports hP hW;have d1:=hA.raw.cell1;have d3:=hA.raw.cell2;have d4:=hA.raw.cell4;have y0:=hA.raw.tk0 HE.out.2.1;have hA3:=Fr.call HE.out.1 HE.out.2.2.drew hA (lf_q hW);obtain ⟨v0,v1,v2,v3⟩:=hA3.cell;obtain ⟨x0,x1,x2,x3⟩:=hA3.frz;have HT:=Lib.hid hA3;clear hA hA3 hP hW))
  all_goals
   go_wp2
   first
    |refine bodyPost_ret (v:=Dd.val ⟨4,false,false,false⟩) (results_cell_row rfl _ _ w.heap.size 71 _ (0,0) _ rfl (set4 HT.out.res rfl _ _ _ _) underlying71 rfl i_did) rfl (HT.out.told HE.out.1 ⟨4,false,false,false⟩)
    |refine bodyPost_ret (v:=Dd.val ⟨5,false,false,false⟩) (results_cell_row rfl _ _ w.heap.size 71 _ (0,0) _ rfl (set4 HT.out.res rfl _ _ _ _) underlying71 rfl i_did) rfl (HT.out.told HE.out.1 ⟨5,false,false,false⟩)
set_option maxHeartbeats 8000000
open _root_.Go.Proofs.Tryz Go.Deep
structure Fd (w:World) (B:Nat) (X:World) (L:Lp) (f:FL) (C:Nat) (d:Dd):Prop where
 fr:Fr w B X L f
 did:X.heap[C]? =some (.cells (didC d) 71 (0,0))
 far:w.heap.size≤C
 ne:C≠B
theorem Fd.cell {w X:World} {B C:Nat} {L:Lp} {f:FL} {d:Dd} (h:Fd w B X L f C d):X.cell? ⟨C,0,none⟩=some (.int .i64 d.ev)∧X.cell? ⟨C,1,none⟩=some (.bool d.enq)∧X.cell? ⟨C,2,none⟩=some (.bool d.arr)∧X.cell? ⟨C,3,none⟩=some (.bool d.lead):=by
 rw [blk_cell h.did,blk_cell h.did,blk_cell h.did,blk_cell h.did];exact ⟨rfl,rfl,rfl,rfl⟩
theorem Fd.frz {w X:World} {B C:Nat} {L:Lp} {f:FL} {d:Dd} (h:Fd w B X L f C d):X.frozen? ⟨C,0,none⟩=false∧X.frozen? ⟨C,1,none⟩=false∧X.frozen? ⟨C,2,none⟩=false∧X.frozen? ⟨C,3,none⟩=false:=
 ⟨blk_frozen h.did 0,blk_frozen h.did 1,blk_frozen h.did 2,blk_frozen h.did 3⟩
theorem Fd.call {w X Y:World} {B C:Nat} {L:Lp} {f g f0:FL} {d:Dd} (h0:LkAt w L f0) (h:Fd w B X L f C d) (hl:LkAt Y L g) (k:Wr (LF L) X Y):Fd w B Y L g C d:=
 ⟨Fr.call h0 h.fr hl k,(k.block C (blk_lt h.did) (λe=>by have:=h0.lf_lt e;have:=h.far;omega)).trans h.did,h.far,h.ne⟩
theorem Fd.keep {w X:World} {B C:Nat} {L:Lp} {f f0:FL} {d:Dd} (h0:LkAt w L f0) (h:Fd w B X L f C d) (d':Dd):
  Fd w B ((((X.setCell ⟨C,0,none⟩ (.int .i64 d'.ev)).setCell ⟨C,1,none⟩ (.bool d'.enq)).setCell ⟨C,2,none⟩ (.bool d'.arr)).setCell ⟨C,3,none⟩ (.bool d'.lead)) L f C d':=by
 have k:=wrote4 X C (.int .i64 d'.ev) (.bool d'.enq) (.bool d'.arr) (.bool d'.lead)
 have hf:=h.far
 have hC:∀ j,j<w.heap.size→¬ One C j:=λj hj e=>by cases e;omega
 refine ⟨⟨h.fr.lk.wrote k (hC _ (blk_lt h0.raw.obj)) (hC _ (blk_lt h0.raw.seat.obj)) (hC _ (blk_lt h0.raw.seat.ctx)) (hC _ (blk_lt h0.raw.tick)) (λb _ b2=>hC b (Nat.lt_of_lt_of_le b2 h0.top)),h.fr.wr.trans k λb hb e=>(hC b hb e).elim,(k.block B (blk_lt h.fr.res) λe=>h.ne e.symm).trans h.fr.res,h.fr.new⟩,set4 h.did rfl _ _ _ _,h.far,h.ne⟩
theorem Fd.ends {w X Y:World} {B C:Nat} {L:Lp} {f g:FL} {d:Dd} (h0:LkAt w L f) (h:Fd w B X L g C d) {s':SS} (hS:SeatAt Y L.p L.b s') (hn:s'.n=g.s.n) (k:Wr (One L.b) X Y):Fd w B Y L {g with s:=s'} C d:=
 h.call h0 (h.fr.lk.seats hS hn k) (lf_b k)
theorem hs_start {w:World} {L:Lp} {f:FL} (h:LkAt w L f) (cs:Array Value):
  Fd w (w.heap.size+1) (((w.alloc (.cells cs 113)).alloc (.cells #[.int .i64 0,.bool false,.bool false,.bool false] 71)).alloc (.cells #[.int .i64 0,.bool false,.bool false,.bool false] 71)) L f (w.heap.size+1+1) Dd.no∧
  (((w.alloc (.cells cs 113)).alloc (.cells #[.int .i64 0,.bool false,.bool false,.bool false] 71)).alloc (.cells #[.int .i64 0,.bool false,.bool false,.bool false] 71)).heap[w.heap.size]? =some (.cells cs 113 (0,0)):=by
 have e1:(w.alloc (.cells cs 113)).heap.size=w.heap.size+1:=nblk_alloc _ _
 have e2:((w.alloc (.cells cs 113)).alloc (.cells #[.int .i64 0,.bool false,.bool false,.bool false] 71)).heap.size=w.heap.size+1+1:=by rw [nblk_alloc,e1]
 have k:Wr Nil w (((w.alloc (.cells cs 113)).alloc (.cells #[.int .i64 0,.bool false,.bool false,.bool false] 71)).alloc (.cells #[.int .i64 0,.bool false,.bool false,.bool false] 71)):=(((Wr.refl _ w).alloc _).alloc _).alloc _
 refine ⟨⟨⟨h.after k,k.mono λ_ _ e=>e.elim,?_,Nat.le_succ _⟩,?_,by omega,by omega⟩,?_⟩
 ·rw [blk_alloc_lt _ _ _ (by rw [e2];omega),←e1,blk_alloc_new];rfl
 ·rw [←e2,blk_alloc_new];rfl
 ·rw [blk_alloc_lt _ _ _ (by rw [e2];omega),blk_alloc_lt _ _ _ (by rw [e1];omega),blk_alloc_new]
theorem hs_step {w:World} {L:Lp} {f:FL} (h:LkAt w L f) (t u:Int) (hD:f.ps.D.length<4611686018427387904):
  Calls prog 42 #[.pointer (some ⟨L.p,0,none⟩),.int .i64 t,.int .i64 u,.agg #[Value.func (.func 149) #[.pointer (some ⟨L.lb,0,none⟩)] #[],Value.func (.func 150) #[.pointer (some ⟨L.lb,0,none⟩)] #[],Value.func (.func 151) #[.pointer (some ⟨L.lb,0,none⟩)] #[]]] w (LkPost w L (f.step L t u) (f.did L t u).val):=by
 obtain ⟨hF,hB⟩:=hs_start h #[Value.func (.func 149) #[.pointer (some ⟨L.lb,0,none⟩)] #[],Value.func (.func 150) #[.pointer (some ⟨L.lb,0,none⟩)] #[],Value.func (.func 151) #[.pointer (some ⟨L.lb,0,none⟩)] #[]]
 obtain ⟨Z,hZ⟩:∃ Z,Z=((w.alloc (.cells #[Value.func (.func 149) #[.pointer (some ⟨L.lb,0,none⟩)] #[],Value.func (.func 150) #[.pointer (some ⟨L.lb,0,none⟩)] #[],Value.func (.func 151) #[.pointer (some ⟨L.lb,0,none⟩)] #[]] 113)).alloc (.cells #[.int .i64 0,.bool false,.bool false,.bool false] 71)).alloc (.cells #[.int .i64 0,.bool false,.bool false,.bool false] 71):=⟨_,rfl⟩
 rw [←hZ] at hF hB
 have b0:Z.cell? ⟨w.heap.size,0,none⟩=some (Value.func (.func 149) #[.pointer (some ⟨L.lb,0,none⟩)] #[]):=(blk_cell hB 0).trans rfl
 have b1:Z.cell? ⟨w.heap.size,1,none⟩=some (Value.func (.func 150) #[.pointer (some ⟨L.lb,0,none⟩)] #[]):=(blk_cell hB 1).trans rfl
 have b2:Z.cell? ⟨w.heap.size,2,none⟩=some (Value.func (.func 151) #[.pointer (some ⟨L.lb,0,none⟩)] #[]):=(blk_cell hB 2).trans rfl
 have cS:=se_state hF.fr.lk.raw.seat t
 obtain ⟨v0,v1,v2,v3⟩:=hF.fr.cell
 obtain ⟨x0,x1,x2,x3⟩:=hF.fr.frz
 obtain ⟨p0,p1,p2,p3⟩:=hF.cell
 have hn:=h.raw.seat.n2
 by_cases ht:0≤t∧t<f.s.n
 ·obtain ⟨k,rfl⟩:=Int.eq_ofNat_of_zero_le ht.1
  have hk:k<f.s.n:=by omega
  have eS:f.s.stI (k:Int)=f.s.st k:=by unfold SS.stI;rw [if_pos ht,Int.toNat_natCast]
  rw [eS] at cS
  by_cases h1:f.s.st k=1
  ·have e1:f.mid L k u=f.acq L k u:=by unfold FL.mid;rw [if_pos ht,Int.toNat_natCast,if_pos h1]
   have e2:f.did L k u=f.acqD L k u:=by unfold FL.did;rw [if_pos ht,Int.toNat_natCast,if_pos h1]
   have es:=f.mid_s L k u
   unfold FL.step
   rw [e1] at es
   rw [e1,e2]
   rw [h1] at cS
   have cA:=fl_acq hF.fr.lk k hk u hD
   generalize f.acq L k u=g at*
   generalize f.acqD L k u=d at*
   have HE:=Lib.hid (And.intro h (And.intro hF es))
   have HZ:=Lib.hid hZ
   clear h hF eS e1 e2 hB es hZ h1
   generalize f.s.n=n at*
   go_enter func42,ntmps42
   go_wp2_with (first
    |(go_at_call 21;rw [←HZ.out];(with_reducible refine cS.mono ?_);rintro e w' ⟨rfl,rfl⟩)
    |(go_at_call 149;(with_reducible refine cA.mono ?_);intro e w2 hq;unfold LkPost at hq;obtain ⟨rfl,hA,hW⟩:=hq;dsimp only [Dd.val];have hA3:=HE.out.2.1.call HE.out.1 hA hW;obtain ⟨p0,p1,p2,p3⟩:=hA3.cell;obtain ⟨y0,y1,y2,y3⟩:=hA3.frz;have hK:=hA3.keep HE.out.1 d;have cE:=se_end hK.fr.lk.raw.seat (k:Int) d.ev;have HK:=Lib.hid hK;clear hA hA3 hK hW)
    |(go_at_call 62;(with_reducible refine cE.mono ?_);intro e w3 hq;unfold SeatPost at hq;obtain ⟨rfl,hS,hW⟩:=hq;have hY:=HK.out.ends HE.out.1 hS (SS.fin_n _ _ _) hW;obtain ⟨e0,e1,e2,e3⟩:=hY.cell;obtain ⟨v0,v1,v2,v3⟩:=hY.fr.cell;obtain ⟨x0,x1,x2,x3⟩:=hY.fr.frz;have HT:=Lib.hid hY;clear hY hS hW))
   rw [←HE.out.2.2]
   refine bodyPost_ret (v:=Dd.val d) (results_cell_row rfl _ _ (w.heap.size+1) 71 _ (0,0) _ rfl (set4 HT.out.fr.res rfl _ _ _ _) underlying71 rfl i_did) rfl (HT.out.fr.told HE.out.1 d)
  by_cases h3:f.s.st k=3
  ·have e1:f.mid L k u=f.rel L k u:=by unfold FL.mid;rw [if_pos ht,Int.toNat_natCast,if_neg h1,if_pos h3]
   have e2:f.did L k u=⟨3,false,false,false⟩:=by unfold FL.did;rw [if_pos ht,Int.toNat_natCast,if_neg h1,if_pos h3]
   have es:=f.mid_s L k u
   unfold FL.step
   rw [e1] at es
   rw [e1,e2]
   rw [h3] at cS
   have cA:=fl_rel hF.fr.lk k hk u hD
   generalize f.rel L k u=g at*
   have HE:=Lib.hid (And.intro h (And.intro hF es))
   have HZ:=Lib.hid hZ
   clear h hF eS e1 e2 hB es hZ h1 h3
   generalize f.s.n=n at*
   go_enter func42,ntmps42
   go_wp2_with (first
    |(go_at_call 21;rw [←HZ.out];(with_reducible refine cS.mono ?_);rintro e w' ⟨rfl,rfl⟩)
    |(go_at_call 150;(with_reducible refine cA.mono ?_);intro e w2 hq;unfold LkPost at hq;obtain ⟨rfl,hA,hW⟩:=hq;dsimp only [Dd.val];have hA3:=HE.out.2.1.call HE.out.1 hA hW;obtain ⟨p0,p1,p2,p3⟩:=hA3.cell;obtain ⟨y0,y1,y2,y3⟩:=hA3.frz;have hK:=hA3.keep HE.out.1 ⟨3,false,false,false⟩;have cE:=se_end hK.fr.lk.raw.seat (k:Int) 3;have HK:=Lib.hid hK;clear hA hA3 hK hW)
    |(go_at_call 62;(with_reducible refine cE.mono ?_);intro e w3 hq;unfold SeatPost at hq;obtain ⟨rfl,hS,hW⟩:=hq;have hY:=HK.out.ends HE.out.1 hS (SS.fin_n _ _ _) hW;obtain ⟨e0,e1,e2,e3⟩:=hY.cell;obtain ⟨v0,v1,v2,v3⟩:=hY.fr.cell;obtain ⟨x0,x1,x2,x3⟩:=hY.fr.frz;have HT:=Lib.hid hY;clear hY hS hW))
   rw [←HE.out.2.2]
   refine bodyPost_ret (v:=Dd.val ⟨3,false,false,false⟩) (results_cell_row rfl _ _ (w.heap.size+1) 71 _ (0,0) _ rfl (set4 HT.out.fr.res rfl _ _ _ _) underlying71 rfl i_did) rfl (HT.out.fr.told HE.out.1 ⟨3,false,false,false⟩)
  by_cases h4:f.s.st k=4
  ·have e1:f.mid L k u=f.ask L k u:=by unfold FL.mid;rw [if_pos ht,Int.toNat_natCast,if_neg h1,if_neg h3,if_pos h4]
   have e2:f.did L k u=f.askD L k u:=by unfold FL.did;rw [if_pos ht,Int.toNat_natCast,if_neg h1,if_neg h3,if_pos h4]
   have es:=f.mid_s L k u
   unfold FL.step
   rw [e1] at es
   rw [e1,e2]
   rw [h4] at cS
   have cA:=fl_ask hF.fr.lk k hk u hD
   generalize f.ask L k u=g at*
   generalize f.askD L k u=d at*
   have HE:=Lib.hid (And.intro h (And.intro hF es))
   have HZ:=Lib.hid hZ
   clear h hF eS e1 e2 hB es hZ h1 h3 h4
   generalize f.s.n=n at*
   go_enter func42,ntmps42
   go_wp2_with (first
    |(go_at_call 21;rw [←HZ.out];(with_reducible refine cS.mono ?_);rintro e w' ⟨rfl,rfl⟩)
    |(go_at_call 151;(with_reducible refine cA.mono ?_);intro e w2 hq;unfold LkPost at hq;obtain ⟨rfl,hA,hW⟩:=hq;dsimp only [Dd.val];have hA3:=HE.out.2.1.call HE.out.1 hA hW;obtain ⟨p0,p1,p2,p3⟩:=hA3.cell;obtain ⟨y0,y1,y2,y3⟩:=hA3.frz;have hK:=hA3.keep HE.out.1 d;have cE:=se_end hK.fr.lk.raw.seat (k:Int) d.ev;have HK:=Lib.hid hK;clear hA hA3 hK hW)
    |(go_at_call 62;(with_reducible refine cE.mono ?_);intro e w3 hq;unfold SeatPost at hq;obtain ⟨rfl,hS,hW⟩:=hq;have hY:=HK.out.ends HE.out.1 hS (SS.fin_n _ _ _) hW;obtain ⟨e0,e1,e2,e3⟩:=hY.cell;obtain ⟨v0,v1,v2,v3⟩:=hY.fr.cell;obtain ⟨x0,x1,x2,x3⟩:=hY.fr.frz;have HT:=Lib.hid hY;clear hY hS hW))
   rw [←HE.out.2.2]
   refine bodyPost_ret (v:=Dd.val d) (results_cell_row rfl _ _ (w.heap.size+1) 71 _ (0,0) _ rfl (set4 HT.out.fr.res rfl _ _ _ _) underlying71 rfl i_did) rfl (HT.out.fr.told HE.out.1 d)
  have e1:f.mid L k u=f:=by unfold FL.mid;rw [if_pos ht,Int.toNat_natCast,if_neg h1,if_neg h3,if_neg h4]
  have e2:f.did L k u=Dd.no:=by unfold FL.did;rw [if_pos ht,Int.toNat_natCast,if_neg h1,if_neg h3,if_neg h4]
  have hK:=hF
  have cE:=se_end hK.fr.lk.raw.seat (k:Int) Dd.no.ev
  have HE:=Lib.hid (And.intro h hF)
  have HK:=Lib.hid hK
  have HZ:=Lib.hid hZ
  unfold FL.step
  rw [e1,e2]
  clear h hF hK eS e1 e2 hB hZ b0 b1 b2
  generalize f.s.st k=x at*
  generalize f.s.n=n at*
  go_enter func42,ntmps42
  go_wp2_with (first
   |(go_at_call 21;rw [←HZ.out];(with_reducible refine cS.mono ?_);rintro e w' ⟨rfl,rfl⟩)
   |(go_at_call 62;(with_reducible refine cE.mono ?_);intro e w3 hq;unfold SeatPost at hq;obtain ⟨rfl,hS,hW⟩:=hq;have hY:=HK.out.ends HE.out.1 hS (SS.fin_n _ _ _) hW;obtain ⟨e0,e1,e2,e3⟩:=hY.cell;obtain ⟨v0,v1,v2,v3⟩:=hY.fr.cell;obtain ⟨x0,x1,x2,x3⟩:=hY.fr.frz;have HT:=Lib.hid hY;clear hY hS hW))
  refine bodyPost_ret (v:=Dd.val Dd.no) (results_cell_row rfl _ _ (w.heap.size+1) 71 _ (0,0) _ rfl (set4 HT.out.fr.res rfl _ _ _ _) underlying71 rfl i_did) rfl (HT.out.fr.told HE.out.1 Dd.no)
 ·have eS:f.s.stI t=0:=if_neg ht
  rw [eS] at cS
  have e1:f.mid L t u=f:=by unfold FL.mid;rw [if_neg ht]
  have e2:f.did L t u=Dd.no:=by unfold FL.did;rw [if_neg ht]
  have hK:=hF
  have cE:=se_end hK.fr.lk.raw.seat t Dd.no.ev
  have HE:=Lib.hid (And.intro h hF)
  have HK:=Lib.hid hK
  have HZ:=Lib.hid hZ
  unfold FL.step
  rw [e1,e2]
  clear h hF hK eS e1 e2 hB hZ b0 b1 b2 ht
  go_enter func42,ntmps42
  go_wp2_with (first
   |(go_at_call 21;rw [←HZ.out];(with_reducible refine cS.mono ?_);rintro e w' ⟨rfl,rfl⟩)
   |(go_at_call 62;(with_reducible refine cE.mono ?_);intro e w3 hq;unfold SeatPost at hq;obtain ⟨rfl,hS,hW⟩:=hq;have hY:=HK.out.ends HE.out.1 hS (SS.fin_n _ _ _) hW;obtain ⟨e0,e1,e2,e3⟩:=hY.cell;obtain ⟨v0,v1,v2,v3⟩:=hY.fr.cell;obtain ⟨x0,x1,x2,x3⟩:=hY.fr.frz;have HT:=Lib.hid hY;clear hY hS hW))
  refine bodyPost_ret (v:=Dd.val Dd.no) (results_cell_row rfl _ _ (w.heap.size+1) 71 _ (0,0) _ rfl (set4 HT.out.fr.res rfl _ _ _ _) underlying71 rfl i_did) rfl (HT.out.fr.told HE.out.1 Dd.no)
theorem fl_step {w:World} {L:Lp} {f:FL} (h:LkAt w L f) (t u x:Int) (hD:f.ps.D.length<4611686018427387904):
  Calls prog 147 #[.pointer (some ⟨L.lb,0,none⟩),.int .i64 t,.int .i64 u,.int .i64 x] w (LkPost w L (f.step L t u) (f.did L t u).val):=by
 have hF:=Fr.start h
 obtain ⟨Z,hZ⟩:∃ Z,Z=w.alloc (.cells #[.int .i64 0,.bool false,.bool false,.bool false] 71):=⟨_,rfl⟩
 rw [←hZ] at hF
 have cM:=hs_step hF.lk t u hD
 have c0:=hF.lk.raw.cell0
 rw [hZ] at c0
 generalize f.step L t u=g at*
 generalize f.did L t u=d at*
 have HE:=Lib.hid (And.intro h hF)
 have HZ:=Lib.hid hZ
 clear h hF hZ
 go_enter func147,ntmps147
 go_wp2_with (first
  |(go_at_call 42;rw [←HZ.out];(with_reducible refine cM.mono ?_);intro e w2 hq;unfold LkPost at hq;obtain ⟨rfl,hA,hW⟩:=hq;dsimp only [Dd.val];have hA3:=Fr.call HE.out.1 HE.out.2 hA hW;obtain ⟨v0,v1,v2,v3⟩:=hA3.cell;obtain ⟨x0,x1,x2,x3⟩:=hA3.frz;have HT:=Lib.hid hA3;clear hA hA3 hW))
 refine bodyPost_ret (v:=Dd.val d) (results_cell_row rfl _ _ w.heap.size 71 _ (0,0) _ rfl (set4 HT.out.res rfl _ _ _ _) underlying71 rfl i_did) rfl (HT.out.told HE.out.1 d)
structure Bx (w:World) (P b o n cap:Nat) (pp:Nat) (x v:Int):Prop where
 c0:w.cell? ⟨P,0,none⟩=some (.pointer (some ⟨pp,0,none⟩))
 c1:w.cell? ⟨P+1,0,none⟩=some (.slice (some ⟨b,o,none⟩) n cap)
 c2:w.cell? ⟨P+1+1,0,none⟩=some (.int .u32 v)
 c3:w.cell? ⟨b,o,none⟩=some (.int .i64 x)
theorem Bx.wrote {w w':World} {P b o n cap pp:Nat} {x v:Int} {S:Nat→Prop} (h:Bx w P b o n cap pp x v) (k:Wr S w w') (h0:¬ S P) (h1:¬ S (P+1)) (h2:¬ S (P+1+1)) (h3:¬ S b):Bx w' P b o n cap pp x v:=
 ⟨k.cell h.c0 h0,k.cell h.c1 h1,k.cell h.c2 h2,k.cell h.c3 h3⟩
theorem fn_word {w:World} {q:Pl} {t:Int} {hs vs:List Int} (h:PlanAt w q t hs vs) {P b o n cap:Nat} {x v:Int} (hB:Bx w P b o n cap q.p x v) (n1:1≤n) (n2:n≤64) (hL:hs.length≤1000000)
  (h0:¬ q.F P) (h1:¬ q.F (P+1)) (h2:¬ q.F (P+1+1)) (h3:¬ q.F b):
  Calls prog 83 #[.pointer (some ⟨P,0,none⟩),.pointer (some ⟨P+1,0,none⟩),.pointer (some ⟨P+1+1,0,none⟩)] w (PlanPost w q t (hs++[x]) (vs++[v]) (.int .i64 (hs.length:Nat))):=by
 have cW:=plword_any (h.after ((Wr.refl Nil w).drew)) x v hL
 obtain ⟨c0,c1,c2,c3⟩:=hB
 have k1:(0:Int)<n:=by omega
 have k2:¬ ((n:Int)≤0):=by omega
 have k3:(0:Nat)<n:=n1
 have HE:=Lib.hid (And.intro h0 (And.intro h1 (And.intro h2 h3)))
 clear h h0 h1 h2 h3
 go_enter func83,ntmps83
 go_wp2
 go_region_held3 (λw'=>w'.cell? ⟨P,0,none⟩=some (.pointer (some ⟨q.p,0,none⟩))∧w'.cell? ⟨P+1,0,none⟩=some (.slice (some ⟨b,o,none⟩) n cap)∧w'.cell? ⟨P+1+1,0,none⟩=some (.int .u32 v)∧w'.cell? ⟨b,o,none⟩=some (.int .i64 x)) (first|exact ⟨c0,c1,c2,c3⟩|exact ⟨d0,d1,d2,d3⟩) (first|(go_at_call 44;(with_reducible refine cW.mono ?_);intro e w2 hq;unfold PlanPost at hq;obtain ⟨rfl,q',hq',hP,hW,hC⟩:=hq;have d0:=((Wr.refl q.F w).drew.trans hW λ_ _ e=>e).cell c0 HE.out.1;have d1:=((Wr.refl q.F w).drew.trans hW λ_ _ e=>e).cell c1 HE.out.2.1;have d2:=((Wr.refl q.F w).drew.trans hW λ_ _ e=>e).cell c2 HE.out.2.2.1;have d3:=((Wr.refl q.F w).drew.trans hW λ_ _ e=>e).cell c3 HE.out.2.2.2;have HT:=Lib.hid (And.intro hq' (And.intro hP (And.intro hW hC)));clear hq' hP hW hC))
 go_wp2
 go_ret
 obtain ⟨g1,g2,g3,g4⟩:=HT.out
 exact ⟨rfl,q',g1,g2,(Wr.refl q.F w).drew.trans g3 λ_ _ e=>e,g4⟩
structure Mid (wq:World) (q:Pl) (t:Int) (P b o n cap:Nat) (x v:Int) (W:World) (q':Pl) (hs vs:List Int):Prop where
 plan:PlanAt W q' t hs vs
 bx:Bx W P b o n cap q'.p x v
 pq:q'.p=q.p
 wr:Wr q.F wq W
 came:Came wq q.F q'.F
 far:P+1+1<wq.heap.size∧b<wq.heap.size∧¬ q.F P∧¬ q.F (P+1)∧¬ q.F (P+1+1)∧¬ q.F b
def MidPost (wq:World) (q:Pl) (t:Int) (P b o n cap:Nat) (x v:Int) (hs vs:List Int) (q0:Pl) (W0:World) (r:Value) (e:Ending) (W:World):Prop:=∃ q',e= .returned r∧Mid wq q t P b o n cap x v W q' hs vs∧Wr q0.F W0 W∧Came W0 q0.F q'.F
namespace Mid
variable {wq:World} {q:Pl} {t:Int} {P b o n cap:Nat} {x v:Int} {W W':World} {q':Pl} {hs vs:List Int}
theorem after (h:Mid wq q t P b o n cap x v W q' hs vs) (k:Wr Nil W W'):Mid wq q t P b o n cap x v W' q' hs vs:=
 ⟨h.plan.after k,h.bx.wrote k id id id id,h.pq,h.wr.trans k λ_ _ e=>e.elim,h.came,h.far⟩
theorem off (h:Mid wq q t P b o n cap x v W q' hs vs) {k:Nat} (hk:k<wq.heap.size) (hn:¬ q.F k):¬ q'.F k:=λe=>by
 rcases h.came k e with e|e
 ·exact hn e
 ·omega
theorem word (h:Mid wq q t P b o n cap x v W q' hs vs) (n1:1≤n) (n2:n≤64) (hL:hs.length≤1000000) (k:Wr Nil W W'):
  Calls prog 83 #[.pointer (some ⟨P,0,none⟩),.pointer (some ⟨P+1,0,none⟩),.pointer (some ⟨P+1+1,0,none⟩)] W' (MidPost wq q t P b o n cap x v (hs++[x]) (vs++[v]) q' W' (.int .i64 (hs.length:Nat))):=by
 have h':=h.after k
 obtain ⟨f1,f2,f3,f4,f5,f6⟩:=h.far
 have o1:=h'.off (show P<wq.heap.size by omega) f3
 have o2:=h'.off (show P+1<wq.heap.size by omega) f4
 have o3:=h'.off f1 f5
 have o4:=h'.off f2 f6
 refine (fn_word h'.plan h'.bx n1 n2 hL o1 o2 o3 o4).mono ?_
 rintro e w2 ⟨rfl,q2,e2,hP,hW,hC⟩
 refine ⟨q2,rfl,⟨hP,?_,e2.trans h'.pq,h'.wr.trans hW λk hk e=> ?_,h'.came.trans hC h'.wr.size,h.far⟩,hW,hC⟩
 ·rw [e2];exact h'.bx.wrote hW o1 o2 o3 o4
 ·rcases h'.came k e with e|e
  ·exact e
  ·omega
end Mid
theorem i_tk:(prog.info? 234).map (λi=>(i.zero,i.size,i.bytes))=some (some (.agg #[.int .u32 0,.bool false]),2,8):=by kernel_rfl
theorem made_tk (n:Nat):madeCells (Value.agg #[.int .u32 0,.bool false]).cells (n*2)=(tks n (λ_=>0) (λ_=>false)).toArray:=by
 apply Array.ext'
 show (madeCells (#[.int .u32 0,.bool false]:Array Value) (n*2)).toList=tks n (λ_=>0) (λ_=>false)
 apply List.ext_getElem?
 intro m
 by_cases hm:m<n*2
 ·have ha:m/2<n:=by omega
  have e:m=m/2*2+m%2:=by omega
  have h2:=tks_at n (λ_=>0) (λ_=>false) (k:=m/2) ha (j:=m%2) (Nat.mod_lt _ (by decide))
  rw [←e] at h2
  rw [h2]
  unfold madeCells
  rw [Array.toList_map,List.getElem?_map,Array.toList_range,List.getElem?_range hm]
  have:m%2=0∨m%2=1:=by omega
  rcases this with h|h<;>simp [h,tkC]
 ·rw [List.getElem?_eq_none (by simp [madeCells];omega),List.getElem?_eq_none (by unfold tks;rw [flat_len (tkC_len _ _),List.length_range];omega)]
def NewFlatPost (w:World) (q:Pl) (t:Int) (hs vs:List Int) (n:Nat) (x v:Int) (e:Ending) (w':World):Prop:=
 ∃ (L:Lp) (q':Pl),e= .returned (.tuple #[.pointer (some ⟨L.lb,0,none⟩),.int .i64 0])∧FlRaw w' L (.pointer none) (newSeat n false true) (λ_=>0) (λ_=>false)∧
  (w.heap.size≤L.lb∧w.heap.size≤L.p∧w.heap.size≤L.b∧w.heap.size≤L.tb)∧L.a1=hs.length∧L.a2=hs.length+1∧q'.p=q.p∧PlanAt w' q' t (hs++[x]++[x]) (vs++[v]++[v])∧Wr q.F w w'∧Came w q.F q'.F
theorem fn_end {w X wq W:World} {q q':Pl} {t:Int} {hs vs:List Int} {P b o n cap p sb tb:Nat} {x v:Int} {A:Array Value} (h:PlanAt w q t hs vs) (hWX:Wr Nil w X) (hS:SeatAt wq p sb (newSeat n false true)) (hp:X.heap.size≤p) (hsb:X.heap.size≤sb) (hW:Wr Nil X wq)
  (hM:Mid wq q t P b o n cap x v W q' (hs++[x]++[x]) (vs++[v]++[v])) (hA:(tks n (λ_=>0) (λ_=>false)).toArray=A) (hT:W.heap[tb]? =some (.cells A 234 (0,0))) (ht:wq.heap.size≤tb)
  (Y:World) (hY:Y=W.alloc (.cells #[.pointer (some ⟨p,0,none⟩),.pointer none,.int .i64 (hs.length:Nat),.int .i64 ((hs.length:Nat)+1),.slice (some ⟨tb,0,none⟩) n n] 184)) (lb:Nat) (hlb:lb=W.heap.size) (r:Value) (hr:r= .tuple #[.pointer (some ⟨lb,0,none⟩),.int .i64 0]):
  NewFlatPost w q t hs vs n x v (.returned r) Y:=by
 subst hr hlb hY hA
 have s1:=hWX.size
 have s2:=hW.size
 have hF:∀ k,w.heap.size≤k→¬ q.F k:=λk hk e=>by have:=h.lt e;omega
 have hS2:=hS.wrote hM.wr (hF p (by omega)) (hF sb (by omega))
 have lp:=blk_lt hS2.obj
 have lsb:=blk_lt hS2.ctx
 have ltb:=blk_lt hT
 have lp0:=blk_lt hS.obj
 have lsb0:=blk_lt hS.ctx
 have k:Wr Nil W (W.alloc (.cells #[.pointer (some ⟨p,0,none⟩),.pointer none,.int .i64 (hs.length:Nat),.int .i64 ((hs.length:Nat)+1),.slice (some ⟨tb,0,none⟩) n n] 184)):=(Wr.refl _ W).alloc _
 have s3:=hM.wr.size
 have hne:=hS.ne
 refine ⟨⟨W.heap.size,p,sb,tb,hs.length,(hs.length:Int)+1,⟨0,0,0,0,0,0,0,0,0,0,0,0,.pointer none⟩,[]⟩,q',rfl,⟨blk_alloc_new W _,hS2.after k,(k.block tb ltb id).trans hT,⟨by dsimp only;omega,by dsimp only;omega,by dsimp only;omega,by dsimp only;omega,by dsimp only;omega⟩,λ_=>by decide⟩,⟨by dsimp only;omega,by dsimp only;omega,by dsimp only;omega,by dsimp only;omega⟩,rfl,rfl,hM.pq,hM.plan.after k,?_,?_⟩
 ·exact ((hWX.nil hW).mono λ_ _ e=>e.elim).trans (hM.wr.trans k λ_ _ e=>e.elim) λ_ _ e=>e
 ·exact λj hj=>by
   rcases hM.came j hj with e|e
   ·exact .inl e
   ·exact .inr (by omega)
theorem fn_new {w:World} {q:Pl} {t:Int} {hs vs:List Int} (h:PlanAt w q t hs vs) {b o n cap:Nat} {zs:List Int} {v:Int} (hr:RowAt .i64 w (some ⟨b,o,none⟩) n zs) (ho:homesOK zs=true) (n1:1≤n) (n2:n≤64) (hL:hs.length≤900000) (hb:¬ q.F b) (hv:0≤v∧v<4294967296):
  Calls prog 77 #[.pointer (some ⟨q.p,0,none⟩),.slice (some ⟨b,o,none⟩) n cap,.int .u32 v] w (NewFlatPost w q t hs vs n (zs.getD 0 0) v):=by
 obtain ⟨i0,hi,hz0,hz1,hz2⟩:=info_parts i_tk
 have hmk:∀ w:World,(Instr.makeSlice 182 (.int .i64 (n:Int)) (.int .i64 (n:Int))).run prog w= .ok (.slice (some ⟨w.heap.size,0,none⟩) n n) (w.alloc (.cells (tks n (λ_=>0) (λ_=>false)).toArray 234)):=by
  intro w
  have h:=Go.run_make (P:=prog) w 182 234 i0 _ underlying182 hi hz0 .i64 .i64 n n (by omega) (by omega) (by rw [hz2];omega) (by omega)
  rw [hz1] at h
  simp only [Int.toNat_natCast] at h
  rw [made_tk n] at h
  exact h
 obtain ⟨x,hx⟩:∃ x,x=zs.getD 0 0:=⟨_,rfl⟩
 rw [←hx]
 generalize hA:(tks n (λ_=>0) (λ_=>false)).toArray=A at hmk
 have hc:=hr.cell ⟨b,o,none⟩ rfl 0 (by omega)
 have hc:w.cell? ⟨b,o,none⟩=some (.int .i64 x):=by rw [hx];exact hc
 obtain ⟨X,hX⟩:∃ X,X=((w.alloc (.cells #[.pointer (some ⟨q.p,0,none⟩)] 73)).alloc (.cells #[.slice (some ⟨b,o,none⟩) n cap] 22)).alloc (.cells #[.int .u32 v] 62):=⟨_,rfl⟩
 have hWX:Wr Nil w X:=by rw [hX];exact (((Wr.refl _ _).alloc _).alloc _).alloc _
 have c0:X.cell? ⟨w.heap.size,0,none⟩=some (.pointer (some ⟨q.p,0,none⟩)):=by rw [blk_cell (show X.heap[w.heap.size]? =some (.cells #[.pointer (some ⟨q.p,0,none⟩)] 73 (0,0)) by rw [hX,blk_alloc_lt _ _ _ (by rw [nblk_alloc,nblk_alloc];omega),blk_alloc_lt _ _ _ (by rw [nblk_alloc];omega),blk_alloc_new])];rfl
 have c1:X.cell? ⟨w.heap.size+1,0,none⟩=some (.slice (some ⟨b,o,none⟩) n cap):=by
  have e:(w.alloc (.cells #[.pointer (some ⟨q.p,0,none⟩)] 73)).heap.size=w.heap.size+1:=nblk_alloc _ _
  rw [blk_cell (show X.heap[w.heap.size+1]? =some (.cells #[.slice (some ⟨b,o,none⟩) n cap] 22 (0,0)) by rw [hX,←e,blk_alloc_lt _ _ _ (by rw [nblk_alloc _ (.cells #[.slice (some ⟨b,o,none⟩) n cap] 22)];omega),blk_alloc_new])];rfl
 have c2:X.cell? ⟨w.heap.size+1+1,0,none⟩=some (.int .u32 v):=by
  have e:((w.alloc (.cells #[.pointer (some ⟨q.p,0,none⟩)] 73)).alloc (.cells #[.slice (some ⟨b,o,none⟩) n cap] 22)).heap.size=w.heap.size+1+1:=by rw [nblk_alloc,nblk_alloc]
  rw [blk_cell (show X.heap[w.heap.size+1+1]? =some (.cells #[.int .u32 v] 62 (0,0)) by rw [hX,←e,blk_alloc_new])];rfl
 have hB:Bx X w.heap.size b o n cap q.p x v:=⟨c0,c1,c2,hWX.old hc⟩
 have cS:=hm_seats (cap:=cap) (hr.after hWX) ho false true n1 n2
 have hbx:b<w.heap.size:=World.block_lt_of_cell? w _ hc
 have HX:=Lib.hid (And.intro hX (And.intro hWX (And.intro h (And.intro hB (And.intro hr (And.intro ho (And.intro hA hbx)))))))
 clear hX hWX h hB hr hc ho hA hbx hx
 go_enter func77,ntmps77
 go_wp2_with (first
  |(go_at_call 45;rw [←HX.out.1];(with_reducible refine cS.mono ?_);intro e wq hq;unfold NewSeatPost at hq;obtain ⟨p,sb,rfl,hS,hp,hsb,hW⟩:=hq;have b1:=hW.old c1;have HS:=Lib.hid (And.intro hS (And.intro hp (And.intro hsb hW)));clear hS hp hsb hW))
 have hM:Mid wq q t w.heap.size b o n cap x v wq q hs vs:=by
  obtain ⟨hX,hWX,h,hB,hr,ho,hA,hbx⟩:=HX.out
  have hW:=HS.out.2.2.2
  have hsz:X.heap.size=w.heap.size+1+1+1:=by rw [hX,nblk_alloc,nblk_alloc,nblk_alloc]
  have hs2:=hW.size
  have hn:∀ k,w.heap.size≤k→¬ q.F k:=λk hk e=>by have:=h.lt e;omega
  exact ⟨(h.after hWX).after hW,hB.wrote hW id id id id,rfl,Wr.refl _ _,Came.refl _ _,by omega,by omega,hn _ (Nat.le_refl _),hn _ (by omega),hn _ (by omega),hb⟩
 have cW:=λW (k:Wr Nil wq W)=>hM.word n1 n2 (by omega) k
 clear hM
 go_region_held3 (λw'=>w'.cell? ⟨w.heap.size+1,0,none⟩=some (.slice (some ⟨b,o,none⟩) n cap)) (first|exact b1|exact i1|exact i2|go_keep) (first
  |(go_at_call 83;(with_reducible refine (cW _ (by first|exact (Wr.refl _ _).drew|exact ((Wr.refl _ _).drew).alloc _|exact ((Wr.refl _ _).alloc _).drew)).mono ?_);intro e w2 hq;unfold MidPost at hq;obtain ⟨q1,rfl,hM1,hF1,hC1⟩:=hq;clear cW;have cX:=λW (k:Wr Nil w2 W)=>hM1.word n1 n2 (by simp;omega) k;have i1:=hM1.bx.c1;have HM:=Lib.hid (And.intro hM1 (And.intro hF1 hC1));clear hM1 hF1 hC1)
  |(go_at_call 83;(with_reducible refine (cX _ (by first|exact (Wr.refl _ _)|exact (Wr.refl _ _).drew|exact ((Wr.refl _ _).drew).alloc _|exact (Wr.refl _ _).alloc _)).mono ?_);intro e w3 hq;unfold MidPost at hq;obtain ⟨q2,rfl,hM2,hF2,hC2⟩:=hq;clear cX;have i2:=hM2.bx.c1;have HM2:=Lib.hid (And.intro hM2 hF2);clear hM2 hF2 hC2))
 all_goals
  go_wp2
  go_ret2
  obtain ⟨hX,hWX,h,hB,hr,ho,hA,hbx⟩:=HX.out
  obtain ⟨hS,hp,hsb,hW⟩:=HS.out
  obtain ⟨hM1,hF1,hC1⟩:=HM.out
  obtain ⟨hM2,hF2⟩:=HM2.out
  first
   |exact fn_end h hWX hS hp hsb hW (hM2.after ((Wr.refl Nil w3).alloc (.cells A 234))) hA (blk_alloc_new w3 _) (by have:=hM2.wr.size;omega) _ rfl _ (nblk_alloc w3 _).symm _ rfl
   |exact fn_end h hWX hS hp hsb hW hM2 hA (tb:=w2.heap.size) ((hF2.block w2.heap.size (Nat.lt_of_lt_of_eq (Nat.lt_succ_self _) (nblk_alloc w2 _).symm) (λe=>by have:=hM1.plan.lt e;omega)).trans (blk_alloc_new w2 _)) (by have:=hM1.wr.size;omega) _ rfl _ rfl _ rfl
   |exact fn_end h hWX hS hp hsb hW hM2 hA (tb:=wq.heap.size) ((hF2.block wq.heap.size (Nat.lt_of_lt_of_le (Nat.lt_of_lt_of_eq (Nat.lt_succ_self _) (nblk_alloc wq _).symm) hF1.size) (λe=>by
     have hz:(wq.alloc (.cells A 234)).heap.size=wq.heap.size+1:=nblk_alloc wq _
     rcases hC1 _ e with e|e
     ·have:=h.lt e;have:=hWX.size;have:=hW.size;omega
     ·have e':(wq.alloc (.cells A 234)).heap.size≤wq.heap.size:=e
      omega)).trans ((hF1.block wq.heap.size (Nat.lt_of_lt_of_eq (Nat.lt_succ_self _) (nblk_alloc wq _).symm) (λe=>by have:=h.lt e;have:=hWX.size;have:=hW.size;omega)).trans (blk_alloc_new wq _))) (Nat.le_refl _) _ rfl _ rfl _ rfl
end Go.Proofs.YtkmikkjjnbikdaaGreat.Kf
