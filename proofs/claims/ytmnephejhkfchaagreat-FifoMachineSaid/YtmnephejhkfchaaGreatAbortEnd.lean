
import Derived.Test.YtmnephejhkfchaaGreatAbortPick
import Derived.Test.YtmnephejhkfchaaGreatAbortRel
namespace Go.Proofs.YtmnephejhkfchaaGreat.Ka
set_option maxHeartbeats 8000000
open _root_.Go.Proofs.Tryz Go.Deep
open Go.RowKit Go.BigFrame
set_option linter.unusedVariables false
set_option maxRecDepth 100000
structure Fd (w:World) (B:Nat) (X:World) (L:Lp) (f:FL) (σ:Nat→Int) (C:Nat) (d:Dd):Prop where
 fr:Fr w B X L f σ
 did:X.heap[C]? =some (.cells (didC d) 102 (0,0))
 far:w.heap.size≤C
 ne:C≠B
section
variable {w X Y:World} {B C:Nat} {L:Lp} {f g f0:FL} {σ σ' σ0:Nat→Int} {d:Dd}
theorem Fd.cell (h:Fd w B X L f σ C d):X.cell? ⟨C,0,none⟩=some (.int .i64 d.ev)∧X.cell? ⟨C,1,none⟩=some (.bool d.enq)∧X.cell? ⟨C,2,none⟩=some (.bool d.arr)∧X.cell? ⟨C,3,none⟩=some (.bool d.lead):=by
 rw [blk_cell h.did,blk_cell h.did,blk_cell h.did,blk_cell h.did];exact ⟨rfl,rfl,rfl,rfl⟩
theorem Fd.frz (h:Fd w B X L f σ C d):X.frozen? ⟨C,0,none⟩=false∧X.frozen? ⟨C,1,none⟩=false∧X.frozen? ⟨C,2,none⟩=false∧X.frozen? ⟨C,3,none⟩=false:=
 ⟨blk_frozen h.did 0,blk_frozen h.did 1,blk_frozen h.did 2,blk_frozen h.did 3⟩
theorem Fd.call (h0:LkM w L f0 σ0) (h:Fd w B X L f σ C d) (hl:LkM Y L g σ') (k:Wr (LF L) X Y):Fd w B Y L g σ' C d:=
 ⟨Fr.call h0 h.fr hl k,(k.block C (blk_lt h.did) (λe=>by have:=h0.lf_lt e;have:=h.far;omega)).trans h.did,h.far,h.ne⟩
theorem Fd.keep (h0:LkM w L f0 σ0) (h:Fd w B X L f σ C d) (d':Dd):
  Fd w B ((((X.setCell ⟨C,0,none⟩ (.int .i64 d'.ev)).setCell ⟨C,1,none⟩ (.bool d'.enq)).setCell ⟨C,2,none⟩ (.bool d'.arr)).setCell ⟨C,3,none⟩ (.bool d'.lead)) L f σ C d':=by
 have k:=wrote4 X C (.int .i64 d'.ev) (.bool d'.enq) (.bool d'.arr) (.bool d'.lead)
 have hf:=h.far
 have hC:∀ j,j<w.heap.size→¬ One C j:=λj hj e=>by cases e;omega
 refine ⟨⟨h.fr.lk.wrote k (λb b2=>hC b (Nat.lt_of_lt_of_le b2 h0.top)),h.fr.wr.trans k λb hb e=>(hC b hb e).elim,(k.block B (blk_lt h.fr.res) λe=>h.ne e.symm).trans h.fr.res,h.fr.new⟩,set4 h.did rfl _ _ _ _,h.far,h.ne⟩
theorem Fd.ends {s':SS} (h0:LkM w L f0 σ0) (h:Fd w B X L g σ C d) (hS:SeatAt Y L.p L.b s') (hn:s'.n=g.s.n) (hp:s'.NpA) (hs:σ=s'.st) (k:Wr (One L.b) X Y):Fd w B Y L {g with s:=s'} s'.st C d:=
 h.call h0 (h.fr.lk.ends hS hn hp hs k) (lf_b k)
end
theorem hs_start {w:World} {L:Lp} {f:FL} (h:LkAt w L f) (cs:Array Value):
  Fd w (w.heap.size+1) (((w.alloc (.cells cs 229)).alloc (.cells #[.int .i64 0,.bool false,.bool false,.bool false] 102)).alloc (.cells #[.int .i64 0,.bool false,.bool false,.bool false] 102)) L f f.s.st (w.heap.size+1+1) Dd.no∧
  (((w.alloc (.cells cs 229)).alloc (.cells #[.int .i64 0,.bool false,.bool false,.bool false] 102)).alloc (.cells #[.int .i64 0,.bool false,.bool false,.bool false] 102)).heap[w.heap.size]? =some (.cells cs 229 (0,0))∧
  Wr Nil w (((w.alloc (.cells cs 229)).alloc (.cells #[.int .i64 0,.bool false,.bool false,.bool false] 102)).alloc (.cells #[.int .i64 0,.bool false,.bool false,.bool false] 102)):=by
 have e1:(w.alloc (.cells cs 229)).heap.size=w.heap.size+1:=nblk_alloc _ _
 have e2:((w.alloc (.cells cs 229)).alloc (.cells #[.int .i64 0,.bool false,.bool false,.bool false] 102)).heap.size=w.heap.size+1+1:=by rw [nblk_alloc,e1]
 have k:Wr Nil w (((w.alloc (.cells cs 229)).alloc (.cells #[.int .i64 0,.bool false,.bool false,.bool false] 102)).alloc (.cells #[.int .i64 0,.bool false,.bool false,.bool false] 102)):=(((Wr.refl _ w).alloc _).alloc _).alloc _
 refine ⟨⟨⟨h.after k,k.mono λ_ _ e=>e.elim,?_,Nat.le_succ _⟩,?_,by omega,by omega⟩,?_,k⟩
 ·rw [blk_alloc_lt _ _ _ (by rw [e2];omega),←e1,blk_alloc_new];rfl
 ·rw [←e2,blk_alloc_new];rfl
 ·rw [blk_alloc_lt _ _ _ (by rw [e2];omega),blk_alloc_lt _ _ _ (by rw [e1];omega),blk_alloc_new]
theorem fl_step1 {w:World} {L:Lp} {f:FL} (h:LkAt w L f) (k:Nat) (hk:k<f.s.n) (u x:Int) (hs:f.s.st k=1) (hD:f.ps.D.length<4611686018427387904) {P N:Nat} (hP:w.cell? ⟨P,0,none⟩=some (.pointer (some ⟨L.lb,0,none⟩))) (hN:w.cell? ⟨N,0,none⟩=some (.int .i64 x)):
  Calls prog 177 #[.int .i64 (k:Int),.int .i64 u,.pointer (some ⟨P,0,none⟩),.pointer (some ⟨N,0,none⟩)] w (LmPost w L (f.acq L k u x) (upd f.s.st k (finS (f.s.st k) (f.acqD L k u x).ev)) (f.acqD L k u x).val):=by
 have hF:=Fr.start h
 obtain ⟨Z,hZ⟩:∃ Z,Z=w.alloc (.cells #[.int .i64 0,.bool false,.bool false,.bool false] 102):=⟨_,rfl⟩
 rw [←hZ] at hF
 have cL:=fl_acq hF.lk k hk u x hs hD
 have hWz:Wr Nil w Z:=by rw [hZ];exact (Wr.refl _ w).alloc _
 have q0:=hWz.cell hP id
 have q1:=hWz.cell hN id
 rw [hZ] at q0 q1
 generalize (upd f.s.st k (finS (f.s.st k) (f.acqD L k u x).ev))=σ' at*
 generalize f.acq L k u x=g at*
 generalize f.acqD L k u x=d at*
 have HE:=Lib.hid (And.intro h hF)
 clear h hF hs hWz hP hN
 go_enter func177,ntmps177
 go_wp2_with (first
  |(go_at_call 178;rw [←hZ];(with_reducible refine cL.mono ?_);intro e w2 hq;unfold LmPost at hq;obtain ⟨rfl,hB,hW⟩:=hq;dsimp only [Dd.val];have hB3:=Fr.call HE.out.1 HE.out.2 hB hW;obtain ⟨v0,v1,v2,v3⟩:=hB3.cell;obtain ⟨x0,x1,x2,x3⟩:=hB3.frz;have HT:=Lib.hid hB3;clear hB hB3 hW))
 refine bodyPost_ret (v:=Dd.val d) (results_cell_row rfl _ _ w.heap.size 102 _ (0,0) _ rfl (set4 HT.out.res rfl _ _ _ _) underlying102 rfl i_did) rfl (HT.out.told HE.out.1 d)
theorem hs_step {w:World} {L:Lp} {f:FL} (h:LkAt w L f) (t u x:Int) (hD:f.ps.D.length<4611686018427387904) {P N:Nat} (hP:w.cell? ⟨P,0,none⟩=some (.pointer (some ⟨L.lb,0,none⟩))) (hN:w.cell? ⟨N,0,none⟩=some (.int .i64 x)):
  Calls prog 136 #[.pointer (some ⟨L.p,0,none⟩),.int .i64 t,.int .i64 u,.agg #[Value.func (.func 177) #[] #[.pointer (some ⟨P,0,none⟩),.pointer (some ⟨N,0,none⟩)],Value.func (.func 179) #[.pointer (some ⟨L.lb,0,none⟩)] #[],Value.nilFunc]] w (LkPost w L (f.step L t u x) (f.did L t u x).val):=by
 obtain ⟨hF,hB,hWz⟩:=hs_start h #[Value.func (.func 177) #[] #[.pointer (some ⟨P,0,none⟩),.pointer (some ⟨N,0,none⟩)],Value.func (.func 179) #[.pointer (some ⟨L.lb,0,none⟩)] #[],Value.nilFunc]
 obtain ⟨Z,hZ⟩:∃ Z,Z=((w.alloc (.cells #[Value.func (.func 177) #[] #[.pointer (some ⟨P,0,none⟩),.pointer (some ⟨N,0,none⟩)],Value.func (.func 179) #[.pointer (some ⟨L.lb,0,none⟩)] #[],Value.nilFunc] 229)).alloc (.cells #[.int .i64 0,.bool false,.bool false,.bool false] 102)).alloc (.cells #[.int .i64 0,.bool false,.bool false,.bool false] 102):=⟨_,rfl⟩
 rw [←hZ] at hF hB hWz
 have q0:=hWz.cell hP id
 have q1:=hWz.cell hN id
 have b0:Z.cell? ⟨w.heap.size,0,none⟩=some (Value.func (.func 177) #[] #[.pointer (some ⟨P,0,none⟩),.pointer (some ⟨N,0,none⟩)]):=(blk_cell hB 0).trans rfl
 have b1:Z.cell? ⟨w.heap.size,1,none⟩=some (Value.func (.func 179) #[.pointer (some ⟨L.lb,0,none⟩)] #[]):=(blk_cell hB 1).trans rfl
 have cS:=se_state hF.fr.lk.raw.seat t
 obtain ⟨v0,v1,v2,v3⟩:=hF.fr.cell
 obtain ⟨x0,x1,x2,x3⟩:=hF.fr.frz
 obtain ⟨p0,p1,p2,p3⟩:=hF.cell
 have hn:=h.raw.seat.n2
 have hnp:=h.raw.np
 clear hP hN hWz
 by_cases ht:0≤t∧t<f.s.n
 ·obtain ⟨k,rfl⟩:=Int.eq_ofNat_of_zero_le ht.1
  have hk:k<f.s.n:=by omega
  have eS:f.s.stI (k:Int)=f.s.st k:=by unfold SS.stI;rw [if_pos ht,Int.toNat_natCast]
  rw [eS] at cS
  by_cases h1:f.s.st k=1
  ·have e1:f.mid L k u x=f.acq L k u x:=by unfold FL.mid;rw [if_pos ht,Int.toNat_natCast,if_pos h1]
   have e2:f.did L k u x=f.acqD L k u x:=by unfold FL.did;rw [if_pos ht,Int.toNat_natCast,if_pos h1]
   have es:=f.mid_s L k u x
   have cA:=fl_step1 hF.fr.lk k hk u x h1 hD q0 q1
   unfold FL.step
   rw [e1] at es
   rw [e1,e2]
   have ef:=SS.fin_stA f.s k hk (f.acqD L k u x).ev
   have en:(f.s.fin k (f.acqD L k u x).ev).n=(f.acq L k u x).s.n:=by rw [es];exact f.s.fin_n _ _
   have ep:=SS.fin_npA hnp (k:Int) (f.acqD L k u x).ev
   rw [←ef] at cA
   rw [h1] at cS
   generalize f.acq L k u x=g at*
   generalize f.acqD L k u x=d at*
   have HE:=Lib.hid (And.intro h (And.intro hF (And.intro es (And.intro en ep))))
   have HZ:=Lib.hid hZ
   clear h hF eS e1 e2 hB es hZ h1 ef en ep hnp q0 q1
   generalize f.s.n=n at*
   go_enter func136,ntmps136
   go_wp2_with (first
    |(go_at_call 129;rw [←HZ.out];(with_reducible refine cS.mono ?_);rintro e w' ⟨rfl,rfl⟩)
    |(go_at_call 177;(with_reducible refine cA.mono ?_);intro e w2 hq;unfold LmPost at hq;obtain ⟨rfl,hA,hW⟩:=hq;dsimp only [Dd.val];have hA3:=HE.out.2.1.call HE.out.1 hA hW;obtain ⟨p0,p1,p2,p3⟩:=hA3.cell;obtain ⟨y0,y1,y2,y3⟩:=hA3.frz;have hK:=hA3.keep HE.out.1 d;have cE:=se_end hK.fr.lk.raw.seat (k:Int) d.ev;rw [HE.out.2.2.1] at cE;have HK:=Lib.hid hK;clear hA hA3 hK hW)
    |(go_at_call 140;(with_reducible refine cE.mono ?_);intro e w3 hq;unfold SeatPost at hq;obtain ⟨rfl,hS,hW⟩:=hq;have hY:=HK.out.ends HE.out.1 hS HE.out.2.2.2.1 HE.out.2.2.2.2 rfl hW;obtain ⟨e0,e1,e2,e3⟩:=hY.cell;obtain ⟨v0,v1,v2,v3⟩:=hY.fr.cell;obtain ⟨x0,x1,x2,x3⟩:=hY.fr.frz;have HT:=Lib.hid hY;clear hY hS hW))
   refine bodyPost_ret (v:=Dd.val d) (results_cell_row rfl _ _ (w.heap.size+1) 102 _ (0,0) _ rfl (set4 HT.out.fr.res rfl _ _ _ _) underlying102 rfl i_did) rfl (HT.out.fr.told HE.out.1 d)
  by_cases h3:f.s.st k=3
  ·have e1:f.mid L k u x=f.rel L k u:=by unfold FL.mid;rw [if_pos ht,Int.toNat_natCast,if_neg h1,if_pos h3]
   have e2:f.did L k u x=f.relD k:=by unfold FL.did;rw [if_pos ht,Int.toNat_natCast,if_neg h1,if_pos h3]
   have es:=f.mid_s L k u x
   have cA:=fl_rel hF.fr.lk k hk u h3 hD
   unfold FL.step
   rw [e1] at es
   rw [e1,e2]
   have ef:=SS.fin_stA f.s k hk (f.relD k).ev
   have en:(f.s.fin k (f.relD k).ev).n=(f.rel L k u).s.n:=by rw [es];exact f.s.fin_n _ _
   have ep:=SS.fin_npA hnp (k:Int) (f.relD k).ev
   rw [←ef] at cA
   rw [h3] at cS
   generalize f.rel L k u=g at*
   generalize f.relD k=d at*
   have HE:=Lib.hid (And.intro h (And.intro hF (And.intro es (And.intro en ep))))
   have HZ:=Lib.hid hZ
   clear h hF eS e1 e2 hB es hZ h1 h3 ef en ep hnp q0 q1
   generalize f.s.n=n at*
   go_enter func136,ntmps136
   go_wp2_with (first
    |(go_at_call 129;rw [←HZ.out];(with_reducible refine cS.mono ?_);rintro e w' ⟨rfl,rfl⟩)
    |(go_at_call 179;(with_reducible refine cA.mono ?_);intro e w2 hq;unfold LmPost at hq;obtain ⟨rfl,hA,hW⟩:=hq;dsimp only [Dd.val];have hA3:=HE.out.2.1.call HE.out.1 hA hW;obtain ⟨p0,p1,p2,p3⟩:=hA3.cell;obtain ⟨y0,y1,y2,y3⟩:=hA3.frz;have hK:=hA3.keep HE.out.1 d;have cE:=se_end hK.fr.lk.raw.seat (k:Int) d.ev;rw [HE.out.2.2.1] at cE;have HK:=Lib.hid hK;clear hA hA3 hK hW)
    |(go_at_call 140;(with_reducible refine cE.mono ?_);intro e w3 hq;unfold SeatPost at hq;obtain ⟨rfl,hS,hW⟩:=hq;have hY:=HK.out.ends HE.out.1 hS HE.out.2.2.2.1 HE.out.2.2.2.2 rfl hW;obtain ⟨e0,e1,e2,e3⟩:=hY.cell;obtain ⟨v0,v1,v2,v3⟩:=hY.fr.cell;obtain ⟨x0,x1,x2,x3⟩:=hY.fr.frz;have HT:=Lib.hid hY;clear hY hS hW))
   refine bodyPost_ret (v:=Dd.val d) (results_cell_row rfl _ _ (w.heap.size+1) 102 _ (0,0) _ rfl (set4 HT.out.fr.res rfl _ _ _ _) underlying102 rfl i_did) rfl (HT.out.fr.told HE.out.1 d)
  have h4:¬ f.s.st k=4:=hnp.2.1 k
  have e1:f.mid L k u x=f:=by unfold FL.mid;rw [if_pos ht,Int.toNat_natCast,if_neg h1,if_neg h3]
  have e2:f.did L k u x=Dd.no:=by unfold FL.did;rw [if_pos ht,Int.toNat_natCast,if_neg h1,if_neg h3]
  have cE:=se_end hF.fr.lk.raw.seat (k:Int) Dd.no.ev
  have ef:f.s.st=(f.s.fin k Dd.no.ev).st:=(SS.fin_st0A f.s k).symm
  have en:(f.s.fin k Dd.no.ev).n=f.s.n:=f.s.fin_n _ _
  have ep:=SS.fin_npA hnp (k:Int) Dd.no.ev
  have HE:=Lib.hid (And.intro h (And.intro hF (And.intro ef (And.intro en ep))))
  have HZ:=Lib.hid hZ
  unfold FL.step
  rw [e1,e2]
  clear h hF e1 e2 hB hZ b0 b1 ef en ep q0 q1 eS hnp
  generalize f.s.st k=y at*
  generalize f.s.n=n at*
  go_enter func136,ntmps136
  go_wp2_with (first
   |(go_at_call 129;rw [←HZ.out];(with_reducible refine cS.mono ?_);rintro e w' ⟨rfl,rfl⟩)
   |(go_at_call 140;(with_reducible refine cE.mono ?_);intro e w3 hq;unfold SeatPost at hq;obtain ⟨rfl,hS,hW⟩:=hq;have hY:=HE.out.2.1.ends HE.out.1 hS (f.s.fin_n _ _) HE.out.2.2.2.2 HE.out.2.2.1 hW;obtain ⟨e0,e1,e2,e3⟩:=hY.cell;obtain ⟨v0,v1,v2,v3⟩:=hY.fr.cell;obtain ⟨x0,x1,x2,x3⟩:=hY.fr.frz;have HT:=Lib.hid hY;clear hY hS hW))
  refine bodyPost_ret (v:=Dd.val Dd.no) (results_cell_row rfl _ _ (w.heap.size+1) 102 _ (0,0) _ rfl (set4 HT.out.fr.res rfl _ _ _ _) underlying102 rfl i_did) rfl (HT.out.fr.told HE.out.1 Dd.no)
 ·have eS:f.s.stI t=0:=if_neg ht
  rw [eS] at cS
  have e1:f.mid L t u x=f:=by unfold FL.mid;rw [if_neg ht]
  have e2:f.did L t u x=Dd.no:=by unfold FL.did;rw [if_neg ht]
  have cE:=se_end hF.fr.lk.raw.seat t Dd.no.ev
  have ef:f.s.st=(f.s.fin t Dd.no.ev).st:=(SS.fin_st0A f.s t).symm
  have en:(f.s.fin t Dd.no.ev).n=f.s.n:=f.s.fin_n _ _
  have ep:=SS.fin_npA hnp t Dd.no.ev
  have HE:=Lib.hid (And.intro h (And.intro hF (And.intro ef (And.intro en ep))))
  have HZ:=Lib.hid hZ
  unfold FL.step
  rw [e1,e2]
  clear h hF e1 e2 hB hZ b0 b1 ef en ep q0 q1 hnp ht
  go_enter func136,ntmps136
  go_wp2_with (first
   |(go_at_call 129;rw [←HZ.out];(with_reducible refine cS.mono ?_);rintro e w' ⟨rfl,rfl⟩)
   |(go_at_call 140;(with_reducible refine cE.mono ?_);intro e w3 hq;unfold SeatPost at hq;obtain ⟨rfl,hS,hW⟩:=hq;have hY:=HE.out.2.1.ends HE.out.1 hS (f.s.fin_n _ _) HE.out.2.2.2.2 HE.out.2.2.1 hW;obtain ⟨e0,e1,e2,e3⟩:=hY.cell;obtain ⟨v0,v1,v2,v3⟩:=hY.fr.cell;obtain ⟨x0,x1,x2,x3⟩:=hY.fr.frz;have HT:=Lib.hid hY;clear hY hS hW))
  refine bodyPost_ret (v:=Dd.val Dd.no) (results_cell_row rfl _ _ (w.heap.size+1) 102 _ (0,0) _ rfl (set4 HT.out.fr.res rfl _ _ _ _) underlying102 rfl i_did) rfl (HT.out.fr.told HE.out.1 Dd.no)
theorem fl_step {w:World} {L:Lp} {f:FL} (h:LkAt w L f) (t u x:Int) (hD:f.ps.D.length<4611686018427387904):
  Calls prog 175 #[.pointer (some ⟨L.lb,0,none⟩),.int .i64 t,.int .i64 u,.int .i64 x] w (LkPost w L (f.step L t u x) (f.did L t u x).val):=by
 obtain ⟨V,hV⟩:∃ V,V=(w.alloc (.cells #[.pointer (some ⟨L.lb,0,none⟩)] 90)).alloc (.cells #[.int .i64 x] 3):=⟨_,rfl⟩
 have hWV:Wr Nil w V:=by rw [hV];exact ((Wr.refl _ w).alloc _).alloc _
 have sV:V.heap.size=w.heap.size+1+1:=by rw [hV,nblk_alloc,nblk_alloc]
 have hF:=Fr.start (h.after hWV)
 obtain ⟨Z,hZ⟩:∃ Z,Z=V.alloc (.cells #[.int .i64 0,.bool false,.bool false,.bool false] 102):=⟨_,rfl⟩
 rw [←hZ] at hF
 have hWZ:Wr Nil V Z:=by rw [hZ];exact (Wr.refl _ _).alloc _
 have e1:(w.alloc (.cells #[.pointer (some ⟨L.lb,0,none⟩)] 90)).heap.size=w.heap.size+1:=nblk_alloc _ _
 have bP:V.heap[w.heap.size]? =some (.cells #[.pointer (some ⟨L.lb,0,none⟩)] 90 (0,0)):=by rw [hV,blk_alloc_lt _ _ _ (by rw [e1];omega),blk_alloc_new]
 have bN:V.heap[w.heap.size+1]? =some (.cells #[.int .i64 x] 3 (0,0)):=by rw [hV,←e1,blk_alloc_new]
 have q0:Z.cell? ⟨w.heap.size,0,none⟩=some (.pointer (some ⟨L.lb,0,none⟩)):=hWZ.cell ((blk_cell bP 0).trans rfl) id
 have q1:Z.cell? ⟨w.heap.size+1,0,none⟩=some (.int .i64 x):=hWZ.cell ((blk_cell bN 0).trans rfl) id
 have cM:=hs_step hF.drew.lk t u x hD (P:=w.heap.size) (N:=w.heap.size+1) q0 q1
 have c0:Z.drew.cell? ⟨L.lb,0,none⟩=some (.pointer (some ⟨L.p,0,none⟩)):=hF.lk.raw.cell0
 have Q0:Z.drew.cell? ⟨w.heap.size,0,none⟩=some (.pointer (some ⟨L.lb,0,none⟩)):=q0
 have QP:RowKit.Hid (∀ (X Y:World),Wr (LF L) V Y→Y.cell? ⟨w.heap.size,0,none⟩=some (.pointer (some ⟨L.lb,0,none⟩))):=Lib.hid (λ_ Y k=>k.cell ((blk_cell bP 0).trans rfl) λe=>absurd (h.lf_lt e) (Nat.lt_irrefl _))
 rw [sV] at hF
 generalize f.step L t u x=g at*
 generalize f.did L t u x=d at*
 have HE:=Lib.hid (And.intro h (And.intro hF (And.intro hWV (And.intro bP (And.intro sV hWZ)))))
 clear h hF e1 bP bN hWV q0 q1 sV hWZ
 go_enter func175,ntmps175
 go_wp2
 rw [←hV,←hZ]
 clear hV hZ
 go_region_held3 (λw'=>w'.cell? ⟨L.lb,0,none⟩=some (.pointer (some ⟨L.p,0,none⟩))∧w'.cell? ⟨w.heap.size,0,none⟩=some (.pointer (some ⟨L.lb,0,none⟩))) (first|with_reducible exact ⟨d0,D0⟩|with_reducible exact ⟨r0,R0⟩|exact ⟨c0,Q0⟩) (first
  |(go_at_call 136;(with_reducible refine cM.mono ?_);intro e w2 hq;unfold LmPost at hq;obtain ⟨rfl,hA,hW⟩:=hq;dsimp only [Dd.val];have hA3:=Fr.call (HE.out.1.after HE.out.2.2.1) HE.out.2.1.drew hA hW;obtain ⟨v0,v1,v2,v3⟩:=hA3.cell;obtain ⟨x0,x1,x2,x3⟩:=hA3.frz;have hC:=(hA3.told (HE.out.1.after HE.out.2.2.1) d).2.1;have d0:=hA3.lk.raw.cell0;have r0:=hC.raw.cell0;have D0:=QP.out w2 _ hA3.wr;have R0:=QP.out w2 _ (hA3.told (HE.out.1.after HE.out.2.2.1) d).2.2;have HT:=Lib.hid hA3;clear hA hA3 hW hC))
 go_wp2
 refine bodyPost_ret (v:=Dd.val d) (results_cell_row rfl _ _ (w.heap.size+1+1) 102 _ (0,0) _ rfl (set4 HT.out.res rfl _ _ _ _) underlying102 rfl i_did) rfl ?_
 obtain ⟨e1,e2,e3⟩:=HT.out.told (HE.out.1.after HE.out.2.2.1) d
 exact ⟨e1,e2,(lf_nil HE.out.2.2.1).trans e3 λ_ _ e=>e⟩
end Go.Proofs.YtmnephejhkfchaaGreat.Ka
