import Derived.Test.YtkmikkjjnbikdaaGreatLockDid
namespace Go.Proofs.YtkmikkjjnbikdaaGreat
set_option maxHeartbeats 8000000
open _root_.Go.Proofs.Tryz
open Go.RowKit Go.BigFrame
set_option linter.unusedVariables false
set_option maxRecDepth 100000
def opF (f:FL) (L:Lp) (K t N:Int):FL:=if K=1 then f.lock t N else if K=2 then f.turn t 3 else if K=3 then f.probe t else if K=4 then f.step L t t else f
def TdPost (w0 w:World) (L:Lp) (M:Mp) (g:FL) (e:Ending) (w':World):Prop:=e= .returned (.bool true)∧Duo w0 w' L M g g∧KpO M.base w w'
theorem td_any {w0 w:World} {L:Lp} {M:Mp} {f:FL} (h:Duo w0 w L M f f) (hI:TwIn L M f) (K t N la nw:Int):
  Calls prog 37 #[.iface 29 (.pointer (some ⟨L.lb,0,none⟩)),.iface 33 (.pointer (some ⟨M.r,0,none⟩)),.pointer (some ⟨M.pr,0,none⟩),.agg #[.int .i64 K,.int .i64 t,.int .i64 N,.int .i64 la],.int .i64 nw] w (TdPost w0 w L M (opF f L K t N)):=by
 obtain ⟨Z,hZ⟩:∃ Z,Z=w.alloc (.cells #[.int .i64 K,.int .i64 t,.int .i64 N,.int .i64 la] 58):=⟨_,rfl⟩
 have hW0:Wr Nil w Z:=by rw [hZ];exact (Wr.refl _ w).alloc _
 have hT:=h.after hW0
 have hk0:KpO M.base w Z:=KpO.nil hW0
 have hB:Z.heap[w.heap.size]? =some (.cells #[.int .i64 K,.int .i64 t,.int .i64 N,.int .i64 la] 58 (0,0)):=by rw [hZ];exact Go.Deep.blk_alloc_new w _
 obtain ⟨B,hBe⟩:∃ B,B=w.heap.size:=⟨_,rfl⟩
 have hBb:M.base≤B:=by rw [hBe];exact h.bs.2
 rw [←hBe] at hB
 have n8:=hI.n8
 have n1:=hI.n1
 have x1:Z.drew.cell? ⟨B,1,none⟩=some (.int .i64 t):=(blk_cell hB 1).trans rfl
 have x2:Z.drew.cell? ⟨B,2,none⟩=some (.int .i64 N):=(blk_cell hB 2).trans rfl
 have x0:Z.cell? ⟨B,0,none⟩=some (.int .i64 K):=(blk_cell hB 0).trans rfl
 have cS:=tw_seats hT
 have mS:=via_rseats ⟨M.r,0,none⟩
 have cl:=hT.ls.cell0
 have kd:KpO M.base Z Z.drew:=KpO.nil ((Wr.refl Nil Z).drew)
 have HZ:=Lib.hid (And.intro hZ (And.intro hBe (And.intro hT (And.intro hk0 (And.intro hB (And.intro hBb hI))))))
 have ob:∀ W:World,KpO M.base Z W→W.cell? ⟨B,1,none⟩=some (.int .i64 t)∧W.cell? ⟨B,2,none⟩=some (.int .i64 N):=λW k=>by
  have:=k B _ HZ.out.2.2.2.2.2.1 HZ.out.2.2.2.2.1
  exact ⟨(blk_cell this 1).trans rfl,(blk_cell this 2).trans rfl⟩
 have OB:=Lib.hid ob
 have HKD:=Lib.hid kd
 clear ob hT hk0 hB hBb hI h hW0 hZ hBe kd
 by_cases hK1:K=1
 ·subst hK1
  have e0:opF f L 1 t N=f.lock t N:=rfl
  rw [e0]
  have HC:=Lib.hid (And.intro (tw_rlock (HZ.out.2.2.1.drew) n1 (by omega) t N) (And.intro (tw_lock HZ.out.2.2.1.drew t N) (And.intro (λW (h:Duo w0 W L M f (f.lock t N))=>tw_lock h t N) (λW (h:Duo w0 W L M (f.lock t N) f)=>tw_rlock h n1 (by omega) t N))))
  have mL:=λW h=>via_lock L.lb ⟨L.p,0,none⟩ W h
  have hdr:Z.drew.cell? ⟨L.lb,0,none⟩=some (.pointer (some ⟨L.p,0,none⟩)):=cl
  go_enter func37,ntmps37
  go_wp2_with (go_at_call 124;rw [←HZ.out.1,←HZ.out.2.1];with_reducible refine cS.mono ?_;rintro e w1 ⟨rfl,rfl⟩)
  go_region_held3 (λw'=>w'.cell? ⟨B,1,none⟩=some (.int .i64 t)∧w'.cell? ⟨B,2,none⟩=some (.int .i64 N)∧w'.cell? ⟨L.lb,0,none⟩=some (.pointer (some ⟨L.p,0,none⟩))) (first|exact ⟨x1,x2,hdr⟩|exact ⟨d1,d2,dl⟩|exact ⟨g1,g2,gl⟩)
   (first
     |(go_at_call 56;(with_reducible refine HC.out.1.mono ?_);intro e wA hq;unfold TrPost at hq;obtain ⟨rfl,hA,kA⟩:=hq;obtain ⟨d1,d2⟩:=OB.out _ (HKD.out.trans kA);have dl:=hA.ls.cell0;have HAK:=Lib.hid kA;clear kA)
     |(go_at_call 18;(with_reducible refine HC.out.2.1.mono ?_);intro e wB hq;unfold TmPost at hq;obtain ⟨rfl,hBB,_,kB⟩:=hq;obtain ⟨d1,d2⟩:=OB.out _ (HKD.out.trans kB);have dl:=hBB.ls.cell0;have HBK:=Lib.hid kB;clear kB)
     |(go_at_call 18;(with_reducible refine (HC.out.2.2.1 _ hA).mono ?_);intro e wF hq;unfold TmPost at hq;obtain ⟨rfl,hF,_,kF⟩:=hq;obtain ⟨g1,g2⟩:=OB.out _ ((HKD.out.trans HAK.out).trans kF);have gl:=hF.ls.cell0;have HFK:=Lib.hid (HAK.out.trans kF);clear kF)
     |(go_at_call 56;(with_reducible refine (HC.out.2.2.2 _ hBB).mono ?_);intro e wF hq;unfold TrPost at hq;obtain ⟨rfl,hF,kF⟩:=hq;obtain ⟨g1,g2⟩:=OB.out _ ((HKD.out.trans HBK.out).trans kF);have gl:=hF.ls.cell0;have HFK:=Lib.hid (HBK.out.trans kF);clear kF))
  all_goals
   go_wp2
   go_ret
   exact ⟨by simp,hF,(HZ.out.2.2.2.1.trans HKD.out).trans HFK.out⟩
 have k1:(K==1)=false:=beq_false_of_ne hK1
 by_cases hK2:K=2
 ·subst hK2
  have e0:opF f L 2 t N=f.turn t 3:=rfl
  rw [e0]
  have HC:=Lib.hid (And.intro (tw_runlock (HZ.out.2.2.1.drew) n1 (by omega) t) (And.intro (tw_unlock HZ.out.2.2.1.drew t) (And.intro (λW (h:Duo w0 W L M f (f.turn t 3))=>tw_unlock h t) (λW (h:Duo w0 W L M (f.turn t 3) f)=>tw_runlock h n1 (by omega) t))))
  have mL:=λW h=>via_unlock L.lb ⟨L.p,0,none⟩ W h
  have hdr:Z.drew.cell? ⟨L.lb,0,none⟩=some (.pointer (some ⟨L.p,0,none⟩)):=cl
  go_enter func37,ntmps37
  go_wp2_with (go_at_call 124;rw [←HZ.out.1,←HZ.out.2.1];with_reducible refine cS.mono ?_;rintro e w1 ⟨rfl,rfl⟩)
  go_region_held3 (λw'=>w'.cell? ⟨B,1,none⟩=some (.int .i64 t)∧w'.cell? ⟨L.lb,0,none⟩=some (.pointer (some ⟨L.p,0,none⟩))) (first|exact ⟨x1,hdr⟩|exact ⟨d1,dl⟩|exact ⟨g1,gl⟩)
   (first
     |(go_at_call 57;(with_reducible refine HC.out.1.mono ?_);intro e wA hq;unfold TrPost at hq;obtain ⟨rfl,hA,kA⟩:=hq;obtain ⟨d1,d2⟩:=OB.out _ (HKD.out.trans kA);have dl:=hA.ls.cell0;have HAK:=Lib.hid kA;clear kA)
     |(go_at_call 19;(with_reducible refine HC.out.2.1.mono ?_);intro e wB hq;unfold TmPost at hq;obtain ⟨rfl,hBB,_,kB⟩:=hq;obtain ⟨d1,d2⟩:=OB.out _ (HKD.out.trans kB);have dl:=hBB.ls.cell0;have HBK:=Lib.hid kB;clear kB)
     |(go_at_call 19;(with_reducible refine (HC.out.2.2.1 _ hA).mono ?_);intro e wF hq;unfold TmPost at hq;obtain ⟨rfl,hF,_,kF⟩:=hq;obtain ⟨g1,g2⟩:=OB.out _ ((HKD.out.trans HAK.out).trans kF);have gl:=hF.ls.cell0;have HFK:=Lib.hid (HAK.out.trans kF);clear kF)
     |(go_at_call 57;(with_reducible refine (HC.out.2.2.2 _ hBB).mono ?_);intro e wF hq;unfold TrPost at hq;obtain ⟨rfl,hF,kF⟩:=hq;obtain ⟨g1,g2⟩:=OB.out _ ((HKD.out.trans HBK.out).trans kF);have gl:=hF.ls.cell0;have HFK:=Lib.hid (HBK.out.trans kF);clear kF))
  all_goals
   go_wp2
   go_ret
   exact ⟨by simp,hF,(HZ.out.2.2.2.1.trans HKD.out).trans HFK.out⟩
 have k2:(K==2)=false:=beq_false_of_ne hK2
 by_cases hK3:K=3
 ·subst hK3
  have e0:opF f L 3 t N=f.probe t:=rfl
  rw [e0]
  have HC:=Lib.hid (And.intro (tw_rprobe (HZ.out.2.2.1.drew) n1 (by omega) t) (And.intro (tw_probe HZ.out.2.2.1.drew t) (And.intro (λW (h:Duo w0 W L M f (f.probe t))=>tw_probe h t) (λW (h:Duo w0 W L M (f.probe t) f)=>tw_rprobe h n1 (by omega) t))))
  have mL:=λW h=>via_probe L.lb ⟨L.p,0,none⟩ W h
  have hdr:Z.drew.cell? ⟨L.lb,0,none⟩=some (.pointer (some ⟨L.p,0,none⟩)):=cl
  go_enter func37,ntmps37
  go_wp2_with (go_at_call 124;rw [←HZ.out.1,←HZ.out.2.1];with_reducible refine cS.mono ?_;rintro e w1 ⟨rfl,rfl⟩)
  go_region_held3 (λw'=>w'.cell? ⟨B,1,none⟩=some (.int .i64 t)∧w'.cell? ⟨L.lb,0,none⟩=some (.pointer (some ⟨L.p,0,none⟩))) (first|exact ⟨x1,hdr⟩|exact ⟨d1,dl⟩|exact ⟨g1,gl⟩)
   (first
     |(go_at_call 57;(with_reducible refine HC.out.1.mono ?_);intro e wA hq;unfold TrPost at hq;obtain ⟨rfl,hA,kA⟩:=hq;obtain ⟨d1,d2⟩:=OB.out _ (HKD.out.trans kA);have dl:=hA.ls.cell0;have HAK:=Lib.hid kA;clear kA)
     |(go_at_call 123;(with_reducible refine HC.out.2.1.mono ?_);intro e wB hq;unfold TmPost at hq;obtain ⟨rfl,hBB,_,kB⟩:=hq;obtain ⟨d1,d2⟩:=OB.out _ (HKD.out.trans kB);have dl:=hBB.ls.cell0;have HBK:=Lib.hid kB;clear kB)
     |(go_at_call 123;(with_reducible refine (HC.out.2.2.1 _ hA).mono ?_);intro e wF hq;unfold TmPost at hq;obtain ⟨rfl,hF,_,kF⟩:=hq;obtain ⟨g1,g2⟩:=OB.out _ ((HKD.out.trans HAK.out).trans kF);have gl:=hF.ls.cell0;have HFK:=Lib.hid (HAK.out.trans kF);clear kF)
     |(go_at_call 57;(with_reducible refine (HC.out.2.2.2 _ hBB).mono ?_);intro e wF hq;unfold TrPost at hq;obtain ⟨rfl,hF,kF⟩:=hq;obtain ⟨g1,g2⟩:=OB.out _ ((HKD.out.trans HBK.out).trans kF);have gl:=hF.ls.cell0;have HFK:=Lib.hid (HBK.out.trans kF);clear kF))
  all_goals
   go_wp2
   go_ret
   exact ⟨by simp,hF,(HZ.out.2.2.2.1.trans HKD.out).trans HFK.out⟩
 have k3:(K==3)=false:=beq_false_of_ne hK3
 by_cases hK4:K=4
 ·subst hK4
  have e0:opF f L 4 t N=f.step L t t:=rfl
  rw [e0]
  obtain ⟨⟨ev,enq,arr,lead⟩,hd⟩:∃ d,f.did L t t=d:=⟨_,rfl⟩
  have cR:=tw_rstep HZ.out.2.2.1 HZ.out.2.2.2.2.2.2 t t nw
  have hDl:f.ps.D.length<4611686018427387904:=by have:=HZ.out.2.2.2.2.2.2.hD;omega
  have cM:=λW (h:Duo w0 W L M f (f.step L t t))=>tw_step h t t nw hDl
  rw [hd] at cR
  simp only [hd] at cM
  have HCM:=Lib.hid cM
  clear hd cM hDl
  have mR:=via_rstep ⟨M.r,0,none⟩
  have mM:=via_step ⟨L.lb,0,none⟩
  have y1:Z.cell? ⟨B,1,none⟩=some (.int .i64 t):=(OB.out Z (λC cs hC x=>x)).1
  go_enter func37,ntmps37
  go_wp2_with (first
   |(go_at_call 124;rw [←HZ.out.1,←HZ.out.2.1];(with_reducible refine cS.mono ?_);rintro e w1 ⟨rfl,rfl⟩)
   |(go_at_call 125;(with_reducible refine cR.mono ?_);intro e wA hq;unfold TrPost at hq;obtain ⟨rfl,hA,kA⟩:=hq;dsimp only [Dd.rval];have HAA:=Lib.hid (And.intro hA kA);clear hA kA cR))
  obtain ⟨Y,hY⟩:∃ Y,Y=wA.alloc (.cells #[.int .i64 ev,.int .i64 (b2i enq),.int .i64 (b2i arr),.int .i64 (b2i lead)] 136):=⟨_,rfl⟩
  obtain ⟨C,hC⟩:∃ C,C=wA.heap.size:=⟨_,rfl⟩
  have hYb:Y.heap[C]? =some (.cells #[.int .i64 ev,.int .i64 (b2i enq),.int .i64 (b2i arr),.int .i64 (b2i lead)] 136 (0,0)):=by rw [hY,hC];exact Go.Deep.blk_alloc_new wA _
  have hkY:Wr Nil wA Y:=by rw [hY];exact (Wr.refl _ _).alloc _
  have hDY:Duo w0 Y.drew L M f (f.step L t t):=(HAA.out.1.after hkY).drew
  have kY:KpO M.base Z Y.drew:=HAA.out.2.trans (KpO.nil (hkY.drew))
  have hCk:L.q.k3≤C:=by rw [hC];exact Nat.le_trans HAA.out.1.bs.1 HAA.out.1.bs.2
  rw [←hY,←hC]
  clear hY hC hkY
  have u1:Y.drew.cell? ⟨B,1,none⟩=some (.int .i64 t):=(OB.out _ kY).1
  have c0:Y.drew.cell? ⟨C,0,none⟩=some (.int .i64 ev):=(blk_cell hYb 0).trans rfl
  have c1:Y.drew.cell? ⟨C,1,none⟩=some (.int .i64 (b2i enq)):=(blk_cell hYb 1).trans rfl
  have c2:Y.drew.cell? ⟨C,2,none⟩=some (.int .i64 (b2i arr)):=(blk_cell hYb 2).trans rfl
  have c3:Y.drew.cell? ⟨C,3,none⟩=some (.int .i64 (b2i lead)):=(blk_cell hYb 3).trans rfl
  have HY:=Lib.hid (And.intro hDY (And.intro kY (And.intro hCk hYb)))
  have cM:=HCM.out _ hDY
  clear hDY kY hCk hYb
  go_region_held3 (λw'=>w'.cell? ⟨B,1,none⟩=some (.int .i64 t)∧w'.cell? ⟨C,0,none⟩=some (.int .i64 ev)∧w'.cell? ⟨C,1,none⟩=some (.int .i64 (b2i enq))∧w'.cell? ⟨C,2,none⟩=some (.int .i64 (b2i arr))∧w'.cell? ⟨C,3,none⟩=some (.int .i64 (b2i lead))) (first|exact ⟨u1,c0,c1,c2,c3⟩|exact ⟨d1,q0,q1,q2,q3⟩|exact ⟨g1,r0,r1,r2,r3⟩)
   (first
     |(go_at_call 20;(with_reducible refine cM.mono ?_);intro e w3 hq;unfold TmPost at hq;obtain ⟨rfl,hM3,hW3,k3⟩:=hq;dsimp only [Dd.val];have d1:=(OB.out _ (HY.out.2.1.trans k3)).1;have hCn:¬ Low L C:=(λe=>by have:=HY.out.2.2.1;unfold Low at e;omega);have q0:=hW3.cell c0 hCn;have q1:=hW3.cell c1 hCn;have q2:=hW3.cell c2 hCn;have q3:=hW3.cell c3 hCn;have HM3:=Lib.hid (And.intro hM3 k3);clear hM3 hW3 k3)
     |(go_at_call 58;(with_reducible refine (did_any _ ev enq arr lead).mono ?_);intro e w4 hq;unfold DidPost at hq;obtain ⟨rfl,hW4⟩:=hq;dsimp only [Dd.rval];have g1:=hW4.old d1;have r0:=hW4.old q0;have r1:=hW4.old q1;have r2:=hW4.old q2;have r3:=hW4.old q3;have HW4:=Lib.hid hW4;clear hW4))
  all_goals
   go_wp2
   go_ret
   exact ⟨by simp,HM3.out.1.after HW4.out,((HZ.out.2.2.2.1.trans HY.out.2.1).trans HM3.out.2).trans (KpO.nil HW4.out)⟩
 ·have k4:(K==4)=false:=beq_false_of_ne hK4
  have e0:opF f L K t N=f:=by unfold opF;rw [if_neg hK1,if_neg hK2,if_neg hK3,if_neg hK4]
  rw [e0]
  clear e0 hK1 hK2 hK3 hK4
  go_enter func37,ntmps37
  go_wp2_with (go_at_call 124;rw [←HZ.out.1,←HZ.out.2.1];with_reducible refine cS.mono ?_;rintro e w1 ⟨rfl,rfl⟩)
  go_ret
  exact ⟨rfl,HZ.out.2.2.1,HZ.out.2.2.2.1⟩
end Go.Proofs.YtkmikkjjnbikdaaGreat
