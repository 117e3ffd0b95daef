
import Derived.Test.YtcikfcplagelaaaGreatCohortAcq
namespace Go.Proofs.YtcikfcplagelaaaGreat
set_option maxHeartbeats 8000000
open _root_.Go.Proofs.Tryz
open Go.RowKit Go.BigFrame
set_option linter.unusedVariables false
set_option maxRecDepth 100000
theorem fl_calls {w:World} {L:Lp} {f f1:FL} {nx:Nat→Value} (h:LkM w L f nx) {k:Nat} (hk:k<f.s.n) (u:Int) (hD:f.ps.D.length<4611686018427387904) (hf1:f1={f with Lc:=upd f.Lc (f.nd k) ((f.Lc (f.nd k)).lock (f.own k:Nat) (-1))}):
  Calls prog 123 #[.pointer (some ⟨L.lb,0,none⟩),.pointer (some ⟨L.tb,k*4,none⟩),.int .i64 u] w
   (LmPost w L {f1 with Lc:=upd f1.Lc (f1.nd k) ((f1.lk (f1.nd k)).step (f1.la (f1.nd k):Nat) (f1.own k:Nat) u),ps:=((f1.lk (f1.nd k)).step (f1.la (f1.nd k):Nat) (f1.own k:Nat) u).ps}
     (if ((f1.lk (f1.nd k)).did (f1.la (f1.nd k):Nat) (f1.own k:Nat) u).ev=1 then upd (upd nx k (.func (.func 138) #[] #[])) k (.func (.func 143) #[] #[]) else upd nx k (.func (.func 138) #[] #[]))
     (Dd.val ⟨0,((f1.lk (f1.nd k)).did (f1.la (f1.nd k):Nat) (f1.own k:Nat) u).enq,false,false⟩)):=by
 have hF:=Fr.start h
 obtain ⟨n1,n2⟩:=h.raw.nod k hk
 obtain ⟨Z,hZ⟩:∃ Z,Z=w.alloc (.cells #[.int .i64 0,.bool false,.bool false,.bool false] 228):=⟨_,rfl⟩
 rw [←hZ] at hF
 have r1:=hF.lk.raw.cx1 hk
 have cL:=λW (q:Wr Nil Z W)=>fl_local (hF.lk.after q) hk
 unfold Ip.val at cL
 have cI:=λW (q:Wr Nil Z W)=>in_lock ((hF.lk.after q).raw.loc _ n1 n2) (f.own k:Nat) (-1)
 have vL:=λm=>((hF.lk.after ((Wr.refl _ Z).drewN m)).raw.loc _ n1 n2).via_lock
 have nL:=(hF.lk.raw.loc _ n1 n2).nil_lock
 have hk1:k<f1.s.n:=by rw [hf1];exact hk
 have hD1:f1.ps.D.length<4611686018427387904:=by rw [hf1];exact hD
 have cQ:=λW (q:LkM W L f1 (upd nx k (.func (.func 138) #[] #[])))=>fl_queues q hk1 u hD1
 generalize ((f1.lk (f1.nd k)).step (f1.la (f1.nd k):Nat) (f1.own k:Nat) u)=x' at*
 generalize ((f1.lk (f1.nd k)).did (f1.la (f1.nd k):Nat) (f1.own k:Nat) u)=d at*
 generalize (if d.ev=1 then upd (upd nx k (.func (.func 138) #[] #[])) k (.func (.func 143) #[] #[]) else upd nx k (.func (.func 138) #[] #[]))=nx' at*
 have HK:=Lib.hid hk1
 have HE:=Lib.hid (And.intro h (And.intro hk (And.intro hF (And.intro n1 (And.intro n2 (And.intro hf1 hD1))))))
 have HZ:=Lib.hid hZ
 clear h hF hZ n1 n2 hf1 hD1
 go_enter func123,ntmps123
 go_wp2
 rw [←HZ.out]
 go_region_held3 (λw'=>w'.cell? ⟨L.tb,k*4+1,none⟩=some (.int .i64 (f.own k:Nat))) (first|exact r1|go_keep) (first
  |(go_at_call 137;(first|(with_reducible refine (cL _ ((Wr.refl _ _).drew)).mono ?_)|(with_reducible refine (cL _ (((Wr.refl _ _).alloc _).drew)).mono ?_));rintro e w1 ⟨rfl,n,rfl⟩)
  |(go_at_call 189;(with_reducible refine (cI _ ((Wr.refl _ _).drewN _)).mono ?_);intro e w2 hq;unfold InPost at hq;obtain ⟨rfl,hI,hW⟩:=hq;have hX2:=HE.out.2.2.1.after ((Wr.refl _ Z).drewN (1+n));have hG:=hX2.lk.locl HE.out.2.2.2.1 HE.out.2.2.2.2.1 hI hW;have r1:=hG.raw.cx1 hk;rw [←HE.out.2.2.2.2.2.1] at hG;have HX:=Lib.hid (Fr.call HE.out.1 hX2 hG (lf_l hX2.lk HE.out.2.2.2.1 HE.out.2.2.2.2.1 hW));clear hX2 hG hI hW))
 have cN:=HX.out.lk.raw.cx2 HK.out
 have zN:=HX.out.lk.raw.cxz (k*4+2)
 have hN:=HX.out.lk.setN k (.func (.func 138) #[] #[])
 have h2:=Fr.call HE.out.1 HX.out hN.1 (lf_t HX.out.lk hN.2)
 obtain ⟨v0,v1,v2,v3⟩:=h2.cell
 obtain ⟨x0,x1,x2,x3⟩:=h2.frz
 have HT:=Lib.hid h2
 clear h2 hN
 go_wp2_with (go_at_call 138;(with_reducible refine (cQ _ HT.out.lk).mono ?_);intro e w3 hq;unfold LmPost at hq;obtain ⟨rfl,hA,hW⟩:=hq;dsimp only [Dd.val];have h3:=Fr.call HE.out.1 HT.out hA hW;obtain ⟨v0,v1,v2,v3⟩:=h3.cell;obtain ⟨x0,x1,x2,x3⟩:=h3.frz;have HU:=Lib.hid h3;clear h3 hA hW)
 refine bodyPost_ret (v:=Dd.val ⟨0,d.enq,false,false⟩) (results_cell_row rfl _ _ w.heap.size 228 _ (0,0) _ rfl (set4 HU.out.res rfl _ _ _ _) underlying228 rfl i_did) rfl (HU.out.told HE.out.1 ⟨0,d.enq,false,false⟩)
theorem fl_looks {w:World} {L:Lp} {f:FL} {nx:Nat→Value} (h:LkM w L f nx) {k:Nat} (hk:k<f.s.n) (u:Int) (hD:f.ps.D.length<4611686018427387904):
  Calls prog 143 #[.pointer (some ⟨L.lb,0,none⟩),.pointer (some ⟨L.tb,k*4,none⟩),.int .i64 u] w
   (LmPost w L (if (tellS f.ps u 1 (L.pA (f.nd k)))=0 then {f with G:=f.G.lock (f.nd k:Nat) (-1),ps:=(doS f.ps u 1 (L.pA (f.nd k)) 0 0)} else {f with ps:=(doS f.ps u 1 (L.pA (f.nd k)) 0 0)})
     (if (tellS f.ps u 1 (L.pA (f.nd k)))=0 then upd nx k (.func (.func 149) #[] #[]) else upd nx k (.func (.func 148) #[] #[]))
     (if (tellS f.ps u 1 (L.pA (f.nd k)))=0 then Dd.no else ⟨1,false,false,false⟩:Dd).val):=by
 have hF:=Fr.start h
 obtain ⟨n1,n2⟩:=h.raw.nod k hk
 obtain ⟨Z,hZ⟩:∃ Z,Z=w.alloc (.cells #[.int .i64 0,.bool false,.bool false,.bool false] 228):=⟨_,rfl⟩
 rw [←hZ] at hF
 have c1:=hF.lk.raw.cell1
 have cP:=λW (q:Wr Nil Z W)=>fl_pass (hF.lk.after q) hk
 have cA:=λW (q:Wr Nil Z W)=>pload_any (hF.lk.after q).port u (L.pA (f.nd k)) hD
 have vL:=λm=>(hF.lk.after ((Wr.refl _ Z).drewN m)).raw.glo.via_lock
 have nL:=hF.lk.raw.glo.nil_lock
 generalize tellS f.ps u 1 (L.pA (f.nd k))=v at*
 generalize doS f.ps u 1 (L.pA (f.nd k)) 0 0=ps' at*
 have hk':k<({f with ps:=ps'}:FL).s.n:=hk
 have HK:=Lib.hid hk
 have HE:=Lib.hid (And.intro h (And.intro hk hF))
 have HZ:=Lib.hid hZ
 clear h hF hZ
 by_cases e1:v=0
 ·rw [if_pos e1,if_pos e1,if_pos e1]
  subst e1
  go_enter func143,ntmps143
  go_wp2
  rw [←HZ.out]
  go_region_held3 (λw'=>w'.cell? ⟨L.lb,1,none⟩=some (.pointer (some ⟨L.q.p,0,none⟩))) (first|exact c1|exact d1|go_keep) (first|(go_at_call 147;(with_reducible refine (cP _ ((Wr.refl _ _).drew)).mono ?_);rintro e w1 ⟨rfl,n,rfl⟩)|(go_at_call 146;(with_reducible refine (cA _ ((Wr.refl _ _).drewN _)).mono ?_);intro e w2 hq;unfold AccPost at hq;obtain ⟨rfl,hP,hW⟩:=hq;have hZ2:=HE.out.2.2.after ((Wr.refl _ Z).drewN (1+n));have hA:=hZ2.lk.ports hP hW;have d1:=hA.raw.cell1;have HX:=Lib.hid (Fr.call HE.out.1 hZ2 hA (lf_q hZ2.lk hW));clear hZ2 hA hP hW))
  have q0:=HX.out.lk.raw.cx0 hk
  have q4:=HX.out.lk.raw.cell4
  unfold Ip.val at q4
  have cI:=in_lock (HX.out.after ((Wr.refl _ w2).drew)).lk.raw.glo (f.nd k:Nat) (-1)
  have vL:=(HX.out.after ((Wr.refl _ w2).drew)).lk.raw.glo.via_lock
  go_wp2
  go_still_tail 10,(by kernel_rfl)
  change wpList _ _ _ _ _ w2.drew
  generalize hY:w2.drew=Y at*
  have HY:=Lib.hid hY
  clear hY
  go_wp2_with (go_at_call 189;(with_reducible refine cI.mono ?_);intro e w3 hq;unfold InPost at hq;obtain ⟨rfl,hI,hW⟩:=hq;have hX2:=HX.out.after ((Wr.refl _ w2).drew);rw [HY.out] at hX2;have hG:=hX2.lk.glob hI hW;have HX:=Lib.hid (Fr.call HE.out.1 hX2 hG (lf_g hX2.lk hW));clear hX2 hG hI hW;have cN:=HX.out.lk.raw.cx2 HK.out;have zN:=HX.out.lk.raw.cxz (k*4+2);have hN:=HX.out.lk.setN k (.func (.func 149) #[] #[]);have h2:=Fr.call HE.out.1 HX.out hN.1 (lf_t HX.out.lk hN.2);obtain ⟨v0,v1,v2,v3⟩:=h2.cell;obtain ⟨x0,x1,x2,x3⟩:=h2.frz;have HT:=Lib.hid h2;clear h2 hN)
  refine bodyPost_ret (v:=Dd.val Dd.no) (results_cell_row rfl _ _ w.heap.size 228 _ (0,0) _ rfl (set4 HT.out.res rfl _ _ _ _) underlying228 rfl i_did) rfl (HT.out.told HE.out.1 Dd.no)
 ·rw [if_neg e1,if_neg e1,if_neg e1]
  have b1:(v != 0)=true:=by simpa using e1
  go_enter func143,ntmps143
  go_wp2
  rw [←HZ.out]
  go_region_held3 (λw'=>w'.cell? ⟨L.lb,1,none⟩=some (.pointer (some ⟨L.q.p,0,none⟩))) (first|exact c1|exact d1|go_keep) (first|(go_at_call 147;(with_reducible refine (cP _ ((Wr.refl _ _).drew)).mono ?_);rintro e w1 ⟨rfl,n,rfl⟩)|(go_at_call 146;(with_reducible refine (cA _ ((Wr.refl _ _).drewN _)).mono ?_);intro e w2 hq;unfold AccPost at hq;obtain ⟨rfl,hP,hW⟩:=hq;have hZ2:=HE.out.2.2.after ((Wr.refl _ Z).drewN (1+n));have hA:=hZ2.lk.ports hP hW;have d1:=hA.raw.cell1;have HX:=Lib.hid (Fr.call HE.out.1 hZ2 hA (lf_q hZ2.lk hW));clear hZ2 hA hP hW))
  have cN:=HX.out.lk.raw.cx2 HK.out
  have zN:=HX.out.lk.raw.cxz (k*4+2)
  have hN:=HX.out.lk.setN k (.func (.func 148) #[] #[])
  have h2:=Fr.call HE.out.1 HX.out hN.1 (lf_t HX.out.lk hN.2)
  obtain ⟨v0,v1,v2,v3⟩:=h2.cell
  obtain ⟨x0,x1,x2,x3⟩:=h2.frz
  have HT:=Lib.hid h2
  clear h2 hN
  go_wp2
  refine bodyPost_ret (v:=Dd.val ⟨1,false,false,false⟩) (results_cell_row rfl _ _ w.heap.size 228 _ (0,0) _ rfl (set4 HT.out.res rfl _ _ _ _) underlying228 rfl i_did) rfl (HT.out.told HE.out.1 ⟨1,false,false,false⟩)
theorem lm_gstep {w:World} {L:Lp} {f:FL} {nx:Nat→Value} (h:LkM w L f nx) {k:Nat} (hk:k<f.s.n) (u y:Int) (hD:f.ps.D.length<4611686018427387904):
  Calls prog f.G.stepF #[.pointer (some ⟨L.gi.lb,0,none⟩),.int .i64 (f.nd k:Nat),.int .i64 u,.int .i64 y] w
   (LmPost w L {f with G:=(f.gl.step (f.ga:Nat) (f.nd k:Nat) u),ps:=(f.gl.step (f.ga:Nat) (f.nd k:Nat) u).ps} nx (f.gl.did (f.ga:Nat) (f.nd k:Nat) u).val):=by
 have ha:=h.raw.adr.2.1
 refine (in_step h.raw.glo h.port h.far.1 h.top (f.nd k:Nat) u y hD).mono ?_
 rintro e w' ⟨rfl,h1,h2,h3⟩
 rw [ha] at h1 h2 ⊢
 exact ⟨rfl,h.globS h1 h2 h3,lf_gq h h3⟩
theorem fl_arrives {w:World} {L:Lp} {f:FL} {nx:Nat→Value} (h:LkM w L f nx) {k:Nat} (hk:k<f.s.n) (u:Int) (hD:f.ps.D.length<4611686018427387904):
  Calls prog 149 #[.pointer (some ⟨L.lb,0,none⟩),.pointer (some ⟨L.tb,k*4,none⟩),.int .i64 u] w
   (LmPost w L {f with G:=(f.gl.step (f.ga:Nat) (f.nd k:Nat) u),ps:=(f.gl.step (f.ga:Nat) (f.nd k:Nat) u).ps}
     (if (f.gl.did (f.ga:Nat) (f.nd k:Nat) u).ev=1 then upd nx k (.func (.func 155) #[] #[]) else nx)
     (Dd.val ⟨0,false,(f.gl.did (f.ga:Nat) (f.nd k:Nat) u).enq,false⟩)):=by
 have hF:=Fr.start h
 obtain ⟨n1,n2⟩:=h.raw.nod k hk
 obtain ⟨Z,hZ⟩:∃ Z,Z=w.alloc (.cells #[.int .i64 0,.bool false,.bool false,.bool false] 228):=⟨_,rfl⟩
 rw [←hZ] at hF
 have c4:=hF.lk.raw.cell4
 unfold Ip.val at c4
 have r0:=hF.lk.raw.cx0 hk
 have ne1:¬ Z.heap.size=L.tb:=by have:=blk_lt hF.lk.raw.tick;omega
 have ne2:¬ L.tb=Z.heap.size:=by have:=blk_lt hF.lk.raw.tick;omega
 have ne3:¬ Z.heap.size=L.lb:=by have:=blk_lt hF.lk.raw.obj;omega
 have ne4:¬ L.lb=Z.heap.size:=by have:=blk_lt hF.lk.raw.obj;omega
 have vS:=hF.lk.raw.glo.via_step
 have cI:=λW (q:Wr Nil Z W)=>lm_gstep (hF.lk.after q) hk u 0 hD
 have hF3:=f.G.step_enter
 generalize hx':(f.gl.step (f.ga:Nat) (f.nd k:Nat) u)=x' at*
 generalize (f.gl.did (f.ga:Nat) (f.nd k:Nat) u)=d at*
 generalize f.G.stepF=F at*
 obtain ⟨f',hf'⟩:∃ f',f'=({f with G:=x',ps:=x'.ps}:FL):=⟨_,rfl⟩
 rw [←hf'] at cI
 rw [←hf']
 have hk':k<f'.s.n:=by rw [hf'];exact hk
 have how:f'.nd=f.nd:=by rw [hf']
 clear hf' hx'
 obtain ⟨nx',hnx⟩:∃ nx',nx'=(if d.ev=1 then upd nx k (.func (.func 155) #[] #[]) else nx):=⟨_,rfl⟩
 rw [←hnx]
 have HK:=Lib.hid hk'
 have HH:=Lib.hid (And.intro how hnx)
 clear hk' how hnx
 have HE:=Lib.hid (And.intro h (And.intro hk hF))
 have HZ:=Lib.hid hZ
 clear h hF hZ n1 n2
 go_enter func149,ntmps149
 go_wp2
 rw [←HZ.out]
 go_cut [7] from 8 to 19 (λv7 wx=>∃ C,v7= .pointer (some ⟨C,0,none⟩)∧Fd w w.heap.size wx L f' nx C d)
 case first=>
  go_region_held3 (λw'=>w'.cell? ⟨L.lb,4,none⟩=some (.iface L.gi.ty (.pointer (some ⟨L.gi.lb,0,none⟩)))∧w'.cell? ⟨L.tb,k*4,none⟩=some (.int .i64 (f.nd k:Nat))) (first|exact ⟨c4,r0⟩|go_keep) (first
   |((first|(with_reducible refine (cI _ ((Wr.refl _ _).drew)).mono ?_)|(with_reducible refine (cI _ (((Wr.refl _ _).drew).alloc _)).mono ?_)|(with_reducible refine (cI _ (((Wr.refl _ _).alloc _).drew)).mono ?_));intro e w2 hq;unfold LmPost at hq;obtain ⟨rfl,hA,hW⟩:=hq;dsimp only [Dd.val];have c4:=hA.raw.cell4;unfold Ip.val at c4;have r0:=hA.raw.cx0 HK.out;rw [HH.out.1] at r0;first
    |(have hT:=Fd.call (C:=Z.heap.size) HE.out.1 (Fd.after (Fr.did HE.out.2.2 rfl) ((Wr.refl _ _).drew)) hA hW;obtain ⟨p0,p1,p2,p3⟩:=hT.cell;obtain ⟨y0,y1,y2,y3⟩:=hT.frz;have HT:=Lib.hid hT;clear hT)
    |(have hT:=Fd.call (C:=Z.heap.size) HE.out.1 (Fr.did (HE.out.2.2.after ((Wr.refl _ _).drew)) rfl) hA hW;obtain ⟨p0,p1,p2,p3⟩:=hT.cell;obtain ⟨y0,y1,y2,y3⟩:=hT.frz;have HT:=Lib.hid hT;clear hT)
    |have HT:=Lib.hid (Fr.call HE.out.1 (HE.out.2.2.after ((Wr.refl _ _).drew)) hA hW)))
  all_goals
   go_wp2
   go_meet
   first
    |exact ⟨_,rfl,HT.out.keep HE.out.1 d⟩
    |exact ⟨_,rfl,HT.out.laid d⟩
 case rest=>
  obtain ⟨C,rfl,hK⟩:=hcut
  obtain ⟨p0,p1,p2,p3⟩:=hK.cell
  obtain ⟨v0,v1,v2,v3⟩:=hK.fr.cell
  obtain ⟨x0,x1,x2,x3⟩:=hK.fr.frz
  by_cases e1:d.ev=1
  ·have e2:=HH.out.2
   rw [if_pos e1] at e2
   rw [e1] at p0
   have cN:=hK.fr.lk.raw.cx2 HK.out
   have zN:=hK.fr.lk.raw.cxz (k*4+2)
   obtain ⟨hN,hW⟩:=hK.fr.lk.setN k (.func (.func 155) #[] #[])
   have hK2:=hK.call HE.out.1 hN (lf_t hK.fr.lk hW)
   rw [←e2] at hK2
   clear e2
   obtain ⟨P0,P1,P2,P3⟩:=hK2.cell
   obtain ⟨V0,V1,V2,V3⟩:=hK2.fr.cell
   obtain ⟨X0,X1,X2,X3⟩:=hK2.fr.frz
   have HT:=Lib.hid hK2
   clear hK hK2 hN hW
   go_wp2
   refine bodyPost_ret (v:=Dd.val ⟨0,false,d.enq,false⟩) (results_cell_row rfl _ _ w.heap.size 228 _ (0,0) _ rfl (set4 HT.out.fr.res rfl _ _ _ _) underlying228 rfl i_did) rfl (HT.out.fr.told HE.out.1 ⟨0,false,d.enq,false⟩)
  ·have e2:=HH.out.2
   rw [if_neg e1] at e2
   rw [←e2] at hK
   clear e2
   have b1:(d.ev==1)=false:=by rw [←Bool.not_eq_true];exact λq=>e1 (by simpa using q)
   have HT:=Lib.hid hK
   clear hK
   go_wp2
   refine bodyPost_ret (v:=Dd.val ⟨0,false,d.enq,false⟩) (results_cell_row rfl _ _ w.heap.size 228 _ (0,0) _ rfl (set4 HT.out.fr.res rfl _ _ _ _) underlying228 rfl i_did) rfl (HT.out.fr.told HE.out.1 ⟨0,false,d.enq,false⟩)
theorem fl_leads {w:World} {L:Lp} {f:FL} {nx:Nat→Value} (h:LkM w L f nx) {k:Nat} (hk:k<f.s.n) (u:Int) (hD:f.ps.D.length<4611686018427387904):
  Calls prog 155 #[.pointer (some ⟨L.lb,0,none⟩),.pointer (some ⟨L.tb,k*4,none⟩),.int .i64 u] w
   (LmPost w L {f with ps:=(doS f.ps u 2 (L.pA (f.nd k)) 0 1)}
     (upd nx k (.func (.func 148) #[] #[]))
     (Dd.val ⟨1,false,false,true⟩)):=by
 have hF:=Fr.start h
 obtain ⟨n1,n2⟩:=h.raw.nod k hk
 obtain ⟨Z,hZ⟩:∃ Z,Z=w.alloc (.cells #[.int .i64 0,.bool false,.bool false,.bool false] 228):=⟨_,rfl⟩
 rw [←hZ] at hF
 have c1:=hF.lk.raw.cell1
 have cP:=λW (q:Wr Nil Z W)=>fl_pass (hF.lk.after q) hk
 have cA:=λW (q:Wr Nil Z W)=>pstore_any (hF.lk.after q).port u (L.pA (f.nd k)) 1 (by decide) (by decide) hD
 generalize doS f.ps u 2 (L.pA (f.nd k)) 0 1=ps' at*
 have HK:=Lib.hid hk
 have HE:=Lib.hid (And.intro h (And.intro hk hF))
 have HZ:=Lib.hid hZ
 clear h hF hZ
 go_enter func155,ntmps155
 go_wp2
 rw [←HZ.out]
 go_region_held3 (λw'=>w'.cell? ⟨L.lb,1,none⟩=some (.pointer (some ⟨L.q.p,0,none⟩))) (first|exact c1|exact d1|go_keep) (first|(go_at_call 147;(with_reducible refine (cP _ ((Wr.refl _ _).drew)).mono ?_);rintro e w1 ⟨rfl,n,rfl⟩)|(go_at_call 158;(with_reducible refine (cA _ ((Wr.refl _ _).drewN _)).mono ?_);intro e w2 hq;unfold AccPost at hq;obtain ⟨rfl,hP,hW⟩:=hq;have hZ2:=HE.out.2.2.after ((Wr.refl _ Z).drewN (1+n));have hA:=hZ2.lk.ports hP hW;have d1:=hA.raw.cell1;have HX:=Lib.hid (Fr.call HE.out.1 hZ2 hA (lf_q hZ2.lk hW));clear hZ2 hA hP hW))
 have cN:=HX.out.lk.raw.cx2 HK.out
 have zN:=HX.out.lk.raw.cxz (k*4+2)
 have hN:=HX.out.lk.setN k (.func (.func 148) #[] #[])
 have h2:=Fr.call HE.out.1 HX.out hN.1 (lf_t HX.out.lk hN.2)
 obtain ⟨v0,v1,v2,v3⟩:=h2.cell
 obtain ⟨x0,x1,x2,x3⟩:=h2.frz
 have HT:=Lib.hid h2
 clear h2 hN
 go_wp2
 refine bodyPost_ret (v:=Dd.val ⟨1,false,false,true⟩) (results_cell_row rfl _ _ w.heap.size 228 _ (0,0) _ rfl (set4 HT.out.res rfl _ _ _ _) underlying228 rfl i_did) rfl (HT.out.told HE.out.1 ⟨1,false,false,true⟩)
theorem fl_counts {w:World} {L:Lp} {f:FL} {nx:Nat→Value} (h:LkM w L f nx) {k:Nat} (hk:k<f.s.n) (u:Int) (hD:f.ps.D.length<4611686018427387904):
  Calls prog 148 #[.pointer (some ⟨L.lb,0,none⟩),.pointer (some ⟨L.tb,k*4,none⟩),.int .i64 u] w
   (LmPost w L (if (tellS f.ps u 1 (L.pA (f.nd k)))<f.bud then {f with got:=upd f.got k (tellS f.ps u 1 (L.pA (f.nd k))),Lc:=upd f.Lc (f.nd k) ((f.Lc (f.nd k)).turn (f.own k:Nat) 4),ps:=(doS f.ps u 1 (L.pA (f.nd k)) 0 0)} else {f with got:=upd f.got k (tellS f.ps u 1 (L.pA (f.nd k))),ps:=(doS f.ps u 1 (L.pA (f.nd k)) 0 0)})
     (if (tellS f.ps u 1 (L.pA (f.nd k)))<f.bud then upd nx k (.func (.func 154) #[] #[]) else upd nx k (.func (.func 153) #[] #[]))
     Dd.no.val):=by
 have hF:=Fr.start h
 obtain ⟨n1,n2⟩:=h.raw.nod k hk
 obtain ⟨Z,hZ⟩:∃ Z,Z=w.alloc (.cells #[.int .i64 0,.bool false,.bool false,.bool false] 228):=⟨_,rfl⟩
 rw [←hZ] at hF
 have c1:=hF.lk.raw.cell1
 have cP:=λW (q:Wr Nil Z W)=>fl_pass (hF.lk.after q) hk
 have cA:=λW (q:Wr Nil Z W)=>pload_any (hF.lk.after q).port u (L.pA (f.nd k)) hD
 have hv:=h.tell u 1 (L.pA (f.nd k))
 generalize tellS f.ps u 1 (L.pA (f.nd k))=v at*
 generalize doS f.ps u 1 (L.pA (f.nd k)) 0 0=ps' at*
 have HV:=Lib.hid hv
 have HK:=Lib.hid hk
 have HE:=Lib.hid (And.intro h (And.intro hk hF))
 have HB:=Lib.hid (And.intro n1 n2)
 have HZ:=Lib.hid hZ
 clear h hF hZ n1 n2 hv
 by_cases e1:v<f.bud
 all_goals
  first|rw [if_pos e1,if_pos e1]|rw [if_neg e1,if_neg e1]
  have b1:decide (v≥f.bud)=decide (¬ v<f.bud):=by simp
  have b2:decide (f.bud≤v)=decide (¬ v<f.bud):=by simp
  first|rw [decide_eq_false (not_not_intro e1)] at b1 b2|rw [decide_eq_true e1] at b1 b2
  go_enter func148,ntmps148
  go_wp2
  rw [←HZ.out]
  go_region_held3 (λw'=>w'.cell? ⟨L.lb,1,none⟩=some (.pointer (some ⟨L.q.p,0,none⟩))) (first|exact c1|exact d1|exact g1|go_keep) (first|(go_at_call 147;(with_reducible refine (cP _ ((Wr.refl _ _).drew)).mono ?_);rintro e w1 ⟨rfl,n,rfl⟩)|(go_at_call 146;(with_reducible refine (cA _ ((Wr.refl _ _).drewN _)).mono ?_);intro e w2 hq;unfold AccPost at hq;obtain ⟨rfl,hP,hW⟩:=hq;have hZ2:=HE.out.2.2.after ((Wr.refl _ Z).drewN (1+n));have hA:=hZ2.lk.ports hP hW;have d1:=hA.raw.cell1;have hG:=hA.setG k v HV.out;have g3:=hA.raw.cx3 hk;have gz:=hA.raw.cxz (k*4+3);have g1:=hG.1.raw.cell1;have HX:=Lib.hid (Fr.call HE.out.1 (Fr.call HE.out.1 hZ2 hA (lf_q hZ2.lk hW)) hG.1 (lf_t hA hG.2));clear hZ2 hA hP hW hG))
  have q3:=HX.out.lk.raw.cx3 HK.out
  have q2:=HX.out.lk.raw.cell2
  dsimp only at q3 q2
  rw [upd_same] at q3
  go_wp2
  go_big_quiet (fail)
  generalize hY:(w2.setCell ⟨L.tb,k*4+3,none⟩ (.int .u32 v)).drewN nq=Y
  have hYF:=HX.out.after ((Wr.refl Nil (w2.setCell ⟨L.tb,k*4+3,none⟩ (.int .u32 v))).drewN nq)
  rw [hY] at hYF
  have HYF:=Lib.hid hYF
  clear hYF hY q3 q2
 ·have r1:=HYF.out.lk.raw.cx1 HK.out
  have cL:=λW (q:Wr Nil Y W)=>fl_local (HYF.out.lk.after q) HK.out
  dsimp only at cL r1
  unfold Ip.val at cL
  have cI:=λW (q:Wr Nil Y W)=>in_probe ((HYF.out.lk.after q).raw.loc _ HB.out.1 HB.out.2) (f.own k:Nat)
  have vL:=λm=>((HYF.out.lk.after ((Wr.refl _ Y).drewN m)).raw.loc _ HB.out.1 HB.out.2).via_probe
  have nL:=(HYF.out.lk.raw.loc _ HB.out.1 HB.out.2).nil_probe
  go_wp2
  go_region_held3 (λw'=>w'.cell? ⟨L.tb,k*4+1,none⟩=some (.int .i64 (f.own k:Nat))) (first|exact r1|go_keep) (first
   |(go_at_call 137;(first|(with_reducible refine (cL _ ((Wr.refl _ _).drew)).mono ?_)|(with_reducible refine (cL _ (((Wr.refl _ _).alloc _).drew)).mono ?_));rintro e w1 ⟨rfl,n,rfl⟩)
   |(go_at_call 190;(with_reducible refine (cI _ ((Wr.refl _ _).drewN _)).mono ?_);intro e w3 hq;unfold InPost at hq;obtain ⟨rfl,hI,hW⟩:=hq;have hX2:=HYF.out.after ((Wr.refl _ Y).drewN (1+n));have hG:=hX2.lk.locl HB.out.1 HB.out.2 hI hW;have r1:=hG.raw.cx1 hk;have HX3:=Lib.hid (Fr.call HE.out.1 hX2 hG (lf_l hX2.lk HB.out.1 HB.out.2 hW));clear hX2 hG hI hW))
  have cN:=HX3.out.lk.raw.cx2 HK.out
  have zN:=HX3.out.lk.raw.cxz (k*4+2)
  have hN:=HX3.out.lk.setN k (.func (.func 154) #[] #[])
  have h2:=Fr.call HE.out.1 HX3.out hN.1 (lf_t HX3.out.lk hN.2)
  obtain ⟨v0,v1,v2,v3⟩:=h2.cell
  obtain ⟨x0,x1,x2,x3⟩:=h2.frz
  have HT:=Lib.hid h2
  clear h2 hN
  go_wp2
  refine bodyPost_ret (v:=Dd.val Dd.no) (results_cell_row rfl _ _ w.heap.size 228 _ (0,0) _ rfl (set4 HT.out.res rfl _ _ _ _) underlying228 rfl i_did) rfl (HT.out.told HE.out.1 Dd.no)
 ·have q0:=0
  have cN:=HYF.out.lk.raw.cx2 HK.out
  have zN:=HYF.out.lk.raw.cxz (k*4+2)
  have hN:=HYF.out.lk.setN k (.func (.func 153) #[] #[])
  have h2:=Fr.call HE.out.1 HYF.out hN.1 (lf_t HYF.out.lk hN.2)
  obtain ⟨v0,v1,v2,v3⟩:=h2.cell
  obtain ⟨x0,x1,x2,x3⟩:=h2.frz
  have HT:=Lib.hid h2
  clear h2 hN
  go_wp2
  refine bodyPost_ret (v:=Dd.val Dd.no) (results_cell_row rfl _ _ w.heap.size 228 _ (0,0) _ rfl (set4 HT.out.res rfl _ _ _ _) underlying228 rfl i_did) rfl (HT.out.told HE.out.1 Dd.no)
theorem fl_asks {w:World} {L:Lp} {f:FL} {nx:Nat→Value} (h:LkM w L f nx) {k:Nat} (hk:k<f.s.n) (u:Int) (hD:f.ps.D.length<4611686018427387904):
  Calls prog 154 #[.pointer (some ⟨L.lb,0,none⟩),.pointer (some ⟨L.tb,k*4,none⟩),.int .i64 u] w
   (LmPost w L {f with Lc:=upd f.Lc (f.nd k) ((f.lk (f.nd k)).step (f.la (f.nd k):Nat) (f.own k:Nat) u),ps:=((f.lk (f.nd k)).step (f.la (f.nd k):Nat) (f.own k:Nat) u).ps}
     (if ((f.lk (f.nd k)).did (f.la (f.nd k):Nat) (f.own k:Nat) u).ev=4 then upd nx k (.func (.func 153) #[] #[]) else upd nx k (.func (.func 160) #[] #[]))
     Dd.no.val):=by
 have hF:=Fr.start h
 obtain ⟨n1,n2⟩:=h.raw.nod k hk
 obtain ⟨Z,hZ⟩:∃ Z,Z=w.alloc (.cells #[.int .i64 0,.bool false,.bool false,.bool false] 228):=⟨_,rfl⟩
 rw [←hZ] at hF
 have cN:=hF.lk.raw.cx2 hk
 have zN:=hF.lk.raw.cxz (k*4+2)
 have hN0:=hF.lk.setN k (.func (.func 160) #[] #[])
 have hY:=Fr.call h hF hN0.1 (lf_t hF.lk hN0.2)
 clear hN0
 obtain ⟨Y,hYe⟩:∃ Y,Y=Z.setCell ⟨L.tb,k*4+2,none⟩ (.func (.func 160) #[] #[]):=⟨_,rfl⟩
 rw [←hYe] at hY
 have r1:=hY.lk.raw.cx1 hk
 have cL:=λW (q:Wr Nil Y W)=>fl_local (hY.lk.after q) hk
 have vS:=(hY.lk.raw.loc _ n1 n2).via_step
 have nS:=(hY.lk.raw.loc _ n1 n2).nil_step
 have cI:=λW (q:Wr Nil Y W)=>lm_lstep (X:=w) (hY.lk.after q) hk u 0 hD
 generalize ((f.lk (f.nd k)).step (f.la (f.nd k):Nat) (f.own k:Nat) u)=x' at*
 generalize ((f.lk (f.nd k)).did (f.la (f.nd k):Nat) (f.own k:Nat) u)=d at*
 have iF:=i_fld
 have hF3:=(f.Lc (f.nd k)).step_enter
 generalize (f.Lc (f.nd k)).stepF=F at*
 unfold Ip.val at cL
 obtain ⟨f',hf'⟩:∃ f',f'=({f with Lc:=upd f.Lc (f.nd k) x',ps:=x'.ps}:FL):=⟨_,rfl⟩
 rw [←hf'] at cI
 rw [←hf']
 have hk':k<f'.s.n:=by rw [hf'];exact hk
 have how:f'.own=f.own:=by rw [hf']
 clear hf'
 have HK:=Lib.hid hk'
 have HH:=Lib.hid how
 clear hk' how
 have HE:=Lib.hid (And.intro h (And.intro hk hY))
 have HZ:=Lib.hid hZ
 have HYe:=Lib.hid hYe
 rw [hZ] at cN zN
 clear h hF hZ hY hYe n1 n2
 by_cases e1:d.ev=4
 all_goals
  first|rw [if_pos e1]|rw [if_neg e1]
  have b1:(d.ev==4)=decide (d.ev=4):=rfl
  first|rw [decide_eq_true e1] at b1|rw [decide_eq_false e1] at b1
  go_enter func154,ntmps154
  go_wp2
  rw [←HZ.out,←HYe.out]
  clear cN zN
  go_region_held3 (λw'=>w'.cell? ⟨L.tb,k*4+1,none⟩=some (.int .i64 (f.own k:Nat))) (first|exact r1|go_keep) (first
   |(go_at_call 137;(first|(with_reducible refine (cL _ ((Wr.refl _ _).drew)).mono ?_)|(with_reducible refine (cL _ (((Wr.refl _ _).alloc _).drew)).mono ?_));rintro e w1 ⟨rfl,n,rfl⟩)
   |((with_reducible refine (cI _ ((Wr.refl _ _).drewN _)).mono ?_);intro e w2 hq;unfold LmPost at hq;obtain ⟨rfl,hA,hW⟩:=hq;dsimp only [Dd.val];have r1:=hA.raw.cx1 HK.out;rw [HH.out] at r1;have HX:=Lib.hid (Fr.call HE.out.1 (HE.out.2.2.after ((Wr.refl _ Y).drewN (1+n))) hA hW);clear hA hW))
 ·have q0:=0
  have q1:upd (upd nx k (.func (.func 160) #[] #[])) k (.func (.func 153) #[] #[])=upd nx k (.func (.func 153) #[] #[]):=upd_upd _ _ _ _
  have cN:=HX.out.lk.raw.cx2 HK.out
  have zN:=HX.out.lk.raw.cxz (k*4+2)
  have hN:=HX.out.lk.setN k (.func (.func 153) #[] #[])
  rw [q1] at hN;clear q1
  have h2:=Fr.call HE.out.1 HX.out hN.1 (lf_t HX.out.lk hN.2)
  obtain ⟨v0,v1,v2,v3⟩:=h2.cell
  obtain ⟨x0,x1,x2,x3⟩:=h2.frz
  have HT:=Lib.hid h2
  clear h2 hN
  go_wp2
  refine bodyPost_ret (v:=Dd.val Dd.no) (results_cell_row rfl _ _ w.heap.size 228 _ (0,0) _ rfl (set4 HT.out.res rfl _ _ _ _) underlying228 rfl i_did) rfl (HT.out.told HE.out.1 Dd.no)
 ·have h2:=HX.out
  obtain ⟨v0,v1,v2,v3⟩:=h2.cell
  obtain ⟨x0,x1,x2,x3⟩:=h2.frz
  clear h2
  go_wp2
  refine bodyPost_ret (v:=Dd.val Dd.no) (results_cell_row rfl _ _ w.heap.size 228 _ (0,0) _ rfl (set4 HX.out.res rfl _ _ _ _) underlying228 rfl i_did) rfl (HX.out.told HE.out.1 Dd.no)
theorem fl_leave {w:World} {L:Lp} {f:FL} {nx:Nat→Value} (h:LkM w L f nx) {k:Nat} (hk:k<f.s.n):
  Calls prog 163 #[.pointer (some ⟨L.lb,0,none⟩),.pointer (some ⟨L.tb,k*4,none⟩)] w
   (LmPost w L {f with Lc:=upd f.Lc (f.nd k) ((f.Lc (f.nd k)).turn (f.own k:Nat) 3)} (upd nx k (.func (.func 164) #[] #[])) (.tuple #[])):=by
 obtain ⟨n1,n2⟩:=h.raw.nod k hk
 have r1:=h.raw.cx1 hk
 have cL:=λW (q:Wr Nil w W)=>fl_local (h.after q) hk
 unfold Ip.val at cL
 have cI:=λW (q:Wr Nil w W)=>in_unlock ((h.after q).raw.loc _ n1 n2) (f.own k:Nat)
 have vL:=λm=>((h.after ((Wr.refl _ w).drewN m)).raw.loc _ n1 n2).via_unlock
 have nL:=(h.raw.loc _ n1 n2).nil_unlock
 have HE:=Lib.hid (And.intro h (And.intro hk (And.intro n1 n2)))
 clear h
 go_enter func163,ntmps163
 go_wp2
 go_region_held3 (λw'=>w'.cell? ⟨L.tb,k*4+1,none⟩=some (.int .i64 (f.own k:Nat))) (first|exact r1|go_keep) (first
  |(go_at_call 137;(first|(with_reducible refine (cL _ ((Wr.refl _ _).drew)).mono ?_)|(with_reducible refine (cL _ (((Wr.refl _ _).alloc _).drew)).mono ?_));rintro e w1 ⟨rfl,n,rfl⟩)
  |(go_at_call 193;(with_reducible refine (cI _ ((Wr.refl _ _).drewN _)).mono ?_);intro e w2 hq;unfold InPost at hq;obtain ⟨rfl,hI,hW⟩:=hq;have hX2:=HE.out.1.after ((Wr.refl _ w).drewN (1+n));have hG:=hX2.locl HE.out.2.2.1 HE.out.2.2.2 hI hW;have r1:=hG.raw.cx1 hk;have hW2:=((Wr.refl (LF L) w).drewN (1+n)).trans (lf_l hX2 HE.out.2.2.1 HE.out.2.2.2 hW) λ_ _ e=>e;have HX:=Lib.hid (And.intro hG hW2);clear hX2 hG hI hW hW2))
 have cN:=HX.out.1.raw.cx2 hk
 have zN:=HX.out.1.raw.cxz (k*4+2)
 have hN:=HX.out.1.setN k (.func (.func 164) #[] #[])
 have HN:=Lib.hid (And.intro hN.1 (HX.out.2.trans (lf_t HX.out.1 hN.2) λ_ _ e=>e))
 clear hN
 go_wp2
 go_end0
 exact ⟨rfl,HN.out.1,HN.out.2⟩
theorem fl_keeps {w:World} {L:Lp} {f:FL} {nx:Nat→Value} (h:LkM w L f nx) {k:Nat} (hk:k<f.s.n) (u:Int) (hD:f.ps.D.length<4611686018427387904) (hg:0≤f.got k∧f.got k≤1000000):
  Calls prog 160 #[.pointer (some ⟨L.lb,0,none⟩),.pointer (some ⟨L.tb,k*4,none⟩),.int .i64 u] w
   (LmPost w L {f with Lc:=upd f.Lc (f.nd k) ((f.Lc (f.nd k)).turn (f.own k:Nat) 3),ps:=(doS f.ps u 2 (L.pA (f.nd k)) 0 (f.got k+1))}
     (upd nx k (.func (.func 164) #[] #[]))
     Dd.no.val):=by
 have hF:=Fr.start h
 obtain ⟨n1,n2⟩:=h.raw.nod k hk
 obtain ⟨Z,hZ⟩:∃ Z,Z=w.alloc (.cells #[.int .i64 0,.bool false,.bool false,.bool false] 228):=⟨_,rfl⟩
 rw [←hZ] at hF
 have c1:=hF.lk.raw.cell1
 have cP:=λW (q:Wr Nil Z W)=>fl_pass (hF.lk.after q) hk
 have cA:=λW (q:Wr Nil Z W)=>pstore_any (hF.lk.after q).port u (L.pA (f.nd k)) (f.got k+1) (by omega) (by omega) hD
 have r3:=hF.lk.raw.cx3 hk
 have w1:IntKind.u32.wrap (f.got k+1)=f.got k+1:=by rw [IntKind.wrap_u32];omega
 generalize doS f.ps u 2 (L.pA (f.nd k)) 0 (f.got k+1)=ps' at*
 have HK:=Lib.hid hk
 have HE:=Lib.hid (And.intro h (And.intro hk hF))
 have HZ:=Lib.hid hZ
 clear h hF hZ n1 n2 hg
 go_enter func160,ntmps160
 go_wp2
 rw [←HZ.out]
 go_region_held3 (λw'=>w'.cell? ⟨L.lb,1,none⟩=some (.pointer (some ⟨L.q.p,0,none⟩))∧w'.cell? ⟨L.tb,k*4+3,none⟩=some (.int .u32 (f.got k))) (first|exact ⟨c1,r3⟩|exact ⟨d1,d3⟩|go_keep) (first|(go_at_call 147;(with_reducible refine (cP _ ((Wr.refl _ _).drew)).mono ?_);rintro e w1 ⟨rfl,n,rfl⟩)|(go_at_call 158;(with_reducible refine (cA _ ((Wr.refl _ _).drewN _)).mono ?_);intro e w2 hq;unfold AccPost at hq;obtain ⟨rfl,hP,hW⟩:=hq;have hZ2:=HE.out.2.2.after ((Wr.refl _ Z).drewN (1+n));have hA:=hZ2.lk.ports hP hW;have d1:=hA.raw.cell1;have d3:=hA.raw.cx3 hk;have HX:=Lib.hid (Fr.call HE.out.1 hZ2 hA (lf_q hZ2.lk hW));clear hZ2 hA hP hW))
 have cV:=fl_leave HX.out.lk HK.out
 dsimp only at cV
 go_wp2_with (go_at_call 163;(with_reducible refine cV.mono ?_);intro e w3 hq;unfold LmPost at hq;obtain ⟨rfl,hA,hW⟩:=hq;have h3:=Fr.call HE.out.1 HX.out hA hW;obtain ⟨v0,v1,v2,v3⟩:=h3.cell;obtain ⟨x0,x1,x2,x3⟩:=h3.frz;have HU:=Lib.hid h3;clear h3 hA hW)
 refine bodyPost_ret (v:=Dd.val Dd.no) (results_cell_row rfl _ _ w.heap.size 228 _ (0,0) _ rfl (set4 HU.out.res rfl _ _ _ _) underlying228 rfl i_did) rfl (HU.out.told HE.out.1 Dd.no)
theorem fl_ends {w:World} {L:Lp} {f:FL} {nx:Nat→Value} (h:LkM w L f nx) {k:Nat} (hk:k<f.s.n) (u:Int) (hD:f.ps.D.length<4611686018427387904):
  Calls prog 153 #[.pointer (some ⟨L.lb,0,none⟩),.pointer (some ⟨L.tb,k*4,none⟩),.int .i64 u] w
   (LmPost w L {f with G:=f.G.turn (f.nd k:Nat) 3,ps:=(doS f.ps u 2 (L.pA (f.nd k)) 0 0)}
     (upd nx k (.func (.func 159) #[] #[]))
     Dd.no.val):=by
 have hF:=Fr.start h
 obtain ⟨n1,n2⟩:=h.raw.nod k hk
 obtain ⟨Z,hZ⟩:∃ Z,Z=w.alloc (.cells #[.int .i64 0,.bool false,.bool false,.bool false] 228):=⟨_,rfl⟩
 rw [←hZ] at hF
 have c1:=hF.lk.raw.cell1
 have cP:=λW (q:Wr Nil Z W)=>fl_pass (hF.lk.after q) hk
 have cA:=λW (q:Wr Nil Z W)=>pstore_any (hF.lk.after q).port u (L.pA (f.nd k)) 0 (by decide) (by decide) hD
 have nL:=hF.lk.raw.glo.nil_unlock
 generalize doS f.ps u 2 (L.pA (f.nd k)) 0 0=ps' at*
 have HK:=Lib.hid hk
 have HE:=Lib.hid (And.intro h (And.intro hk hF))
 have HZ:=Lib.hid hZ
 clear h hF hZ n1 n2
 go_enter func153,ntmps153
 go_wp2
 rw [←HZ.out]
 go_region_held3 (λw'=>w'.cell? ⟨L.lb,1,none⟩=some (.pointer (some ⟨L.q.p,0,none⟩))) (first|exact c1|exact d1|go_keep) (first|(go_at_call 147;(with_reducible refine (cP _ ((Wr.refl _ _).drew)).mono ?_);rintro e w1 ⟨rfl,n,rfl⟩)|(go_at_call 158;(with_reducible refine (cA _ ((Wr.refl _ _).drewN _)).mono ?_);intro e w2 hq;unfold AccPost at hq;obtain ⟨rfl,hP,hW⟩:=hq;have hZ2:=HE.out.2.2.after ((Wr.refl _ Z).drewN (1+n));have hA:=hZ2.lk.ports hP hW;have d1:=hA.raw.cell1;have HX:=Lib.hid (Fr.call HE.out.1 hZ2 hA (lf_q hZ2.lk hW));clear hZ2 hA hP hW))
 have q0:=HX.out.lk.raw.cx0 hk
 have q4:=HX.out.lk.raw.cell4
 unfold Ip.val at q4
 have cI:=in_unlock (HX.out.after ((Wr.refl _ w2).drew)).lk.raw.glo (f.nd k:Nat)
 have vL:=(HX.out.after ((Wr.refl _ w2).drew)).lk.raw.glo.via_unlock
 go_wp2
 go_still_tail 10,(by kernel_rfl)
 change wpList _ _ _ _ _ w2.drew
 generalize hY:w2.drew=Y at*
 have HY:=Lib.hid hY
 clear hY
 go_wp2_with (go_at_call 193;(with_reducible refine cI.mono ?_);intro e w3 hq;unfold InPost at hq;obtain ⟨rfl,hI,hW⟩:=hq;have hX2:=HX.out.after ((Wr.refl _ w2).drew);rw [HY.out] at hX2;have hG:=hX2.lk.glob hI hW;have HX:=Lib.hid (Fr.call HE.out.1 hX2 hG (lf_g hX2.lk hW));clear hX2 hG hI hW;have cN:=HX.out.lk.raw.cx2 HK.out;have zN:=HX.out.lk.raw.cxz (k*4+2);have hN:=HX.out.lk.setN k (.func (.func 159) #[] #[]);have h2:=Fr.call HE.out.1 HX.out hN.1 (lf_t HX.out.lk hN.2);obtain ⟨v0,v1,v2,v3⟩:=h2.cell;obtain ⟨x0,x1,x2,x3⟩:=h2.frz;have HT:=Lib.hid h2;clear h2 hN)
 refine bodyPost_ret (v:=Dd.val Dd.no) (results_cell_row rfl _ _ w.heap.size 228 _ (0,0) _ rfl (set4 HT.out.res rfl _ _ _ _) underlying228 rfl i_did) rfl (HT.out.told HE.out.1 Dd.no)
theorem fl_yields {w:World} {L:Lp} {f:FL} {nx:Nat→Value} (h:LkM w L f nx) {k:Nat} (hk:k<f.s.n) (u:Int) (hD:f.ps.D.length<4611686018427387904):
  Calls prog 159 #[.pointer (some ⟨L.lb,0,none⟩),.pointer (some ⟨L.tb,k*4,none⟩),.int .i64 u] w
   (LmPost w L (if (f.gl.did (f.ga:Nat) (f.nd k:Nat) u).ev=3 then {f with G:=(f.gl.step (f.ga:Nat) (f.nd k:Nat) u),ps:=(f.gl.step (f.ga:Nat) (f.nd k:Nat) u).ps,Lc:=upd f.Lc (f.nd k) ((f.Lc (f.nd k)).turn (f.own k:Nat) 3)} else {f with G:=(f.gl.step (f.ga:Nat) (f.nd k:Nat) u),ps:=(f.gl.step (f.ga:Nat) (f.nd k:Nat) u).ps})
     (if (f.gl.did (f.ga:Nat) (f.nd k:Nat) u).ev=3 then upd nx k (.func (.func 164) #[] #[]) else nx)
     Dd.no.val):=by
 have hF:=Fr.start h
 obtain ⟨n1,n2⟩:=h.raw.nod k hk
 obtain ⟨Z,hZ⟩:∃ Z,Z=w.alloc (.cells #[.int .i64 0,.bool false,.bool false,.bool false] 228):=⟨_,rfl⟩
 rw [←hZ] at hF
 have c4:=hF.lk.raw.cell4
 unfold Ip.val at c4
 have r0:=hF.lk.raw.cx0 hk
 have hFd:=hF.drew
 have vS:=hF.lk.raw.glo.via_step
 have cI:=lm_gstep hFd.lk hk u 0 hD
 have iF:=i_fld
 have hF3:=f.G.step_enter
 generalize (f.gl.step (f.ga:Nat) (f.nd k:Nat) u)=x' at*
 generalize (f.gl.did (f.ga:Nat) (f.nd k:Nat) u)=d at*
 generalize f.G.stepF=F at*
 have HK:=Lib.hid hk
 have HE:=Lib.hid (And.intro h (And.intro hk hF))
 have HZ:=Lib.hid hZ
 clear h hF hZ n1 n2 hFd
 by_cases e1:d.ev=3
 all_goals
  first|rw [if_pos e1,if_pos e1]|rw [if_neg e1,if_neg e1]
  have b1:(d.ev==3)=decide (d.ev=3):=rfl
  first|rw [decide_eq_true e1] at b1|rw [decide_eq_false e1] at b1
  go_enter func159,ntmps159
  go_wp2
  rw [←HZ.out]
  go_still_tail 11,(by kernel_rfl)
  change wpList _ _ _ _ _ Z.drew
  generalize hY:Z.drew=Y at*
  have HY:=Lib.hid hY
  clear hY
  go_wp2_with (first
   |(go_at_call 163;(with_reducible refine cV.mono ?_);intro e w3 hq;unfold LmPost at hq;obtain ⟨rfl,hA,hW⟩:=hq;have h3:=Fr.call HE.out.1 HX.out hA hW;obtain ⟨v0,v1,v2,v3⟩:=h3.cell;obtain ⟨x0,x1,x2,x3⟩:=h3.frz;have HU:=Lib.hid h3;clear h3 hA hW)
   |((with_reducible refine cI.mono ?_);intro e w2 hq;unfold LmPost at hq;obtain ⟨rfl,hA,hW⟩:=hq;dsimp only [Dd.val];have hX2:=HE.out.2.2.drew;rw [HY.out] at hX2;have hX:=Fr.call HE.out.1 hX2 hA hW;have cV:=fl_leave hX.lk HK.out;dsimp only at cV;obtain ⟨v0,v1,v2,v3⟩:=hX.cell;obtain ⟨x0,x1,x2,x3⟩:=hX.frz;have HX:=Lib.hid hX;clear hX hX2 hA hW))
 ·refine bodyPost_ret (v:=Dd.val Dd.no) (results_cell_row rfl _ _ w.heap.size 228 _ (0,0) _ rfl (set4 HU.out.res rfl _ _ _ _) underlying228 rfl i_did) rfl (HU.out.told HE.out.1 Dd.no)
 ·refine bodyPost_ret (v:=Dd.val Dd.no) (results_cell_row rfl _ _ w.heap.size 228 _ (0,0) _ rfl (set4 HX.out.res rfl _ _ _ _) underlying228 rfl i_did) rfl (HX.out.told HE.out.1 Dd.no)
theorem fl_leaves {w:World} {L:Lp} {f:FL} {nx:Nat→Value} (h:LkM w L f nx) {k:Nat} (hk:k<f.s.n) (u:Int) (hD:f.ps.D.length<4611686018427387904):
  Calls prog 164 #[.pointer (some ⟨L.lb,0,none⟩),.pointer (some ⟨L.tb,k*4,none⟩),.int .i64 u] w
   (LmPost w L {f with Lc:=upd f.Lc (f.nd k) ((f.lk (f.nd k)).step (f.la (f.nd k):Nat) (f.own k:Nat) u),ps:=((f.lk (f.nd k)).step (f.la (f.nd k):Nat) (f.own k:Nat) u).ps}
     (if ((f.lk (f.nd k)).did (f.la (f.nd k):Nat) (f.own k:Nat) u).ev=3 then upd nx k (.func (.func 123) #[] #[]) else nx)
     (if ((f.lk (f.nd k)).did (f.la (f.nd k):Nat) (f.own k:Nat) u).ev=3 then ⟨3,false,false,false⟩ else Dd.no:Dd).val):=by
 have hF:=Fr.start h
 obtain ⟨n1,n2⟩:=h.raw.nod k hk
 obtain ⟨Z,hZ⟩:∃ Z,Z=w.alloc (.cells #[.int .i64 0,.bool false,.bool false,.bool false] 228):=⟨_,rfl⟩
 rw [←hZ] at hF
 have r1:=hF.lk.raw.cx1 hk
 have cL:=λW (q:Wr Nil Z W)=>fl_local (hF.lk.after q) hk
 have vS:=(hF.lk.raw.loc _ n1 n2).via_step
 have nS:=(hF.lk.raw.loc _ n1 n2).nil_step
 have cI:=λW (q:Wr Nil Z W)=>lm_lstep (X:=w) (hF.lk.after q) hk u 0 hD
 generalize ((f.lk (f.nd k)).step (f.la (f.nd k):Nat) (f.own k:Nat) u)=x' at*
 generalize ((f.lk (f.nd k)).did (f.la (f.nd k):Nat) (f.own k:Nat) u)=d at*
 have iF:=i_fld
 have hF3:=(f.Lc (f.nd k)).step_enter
 generalize (f.Lc (f.nd k)).stepF=F at*
 unfold Ip.val at cL
 obtain ⟨f',hf'⟩:∃ f',f'=({f with Lc:=upd f.Lc (f.nd k) x',ps:=x'.ps}:FL):=⟨_,rfl⟩
 rw [←hf'] at cI
 rw [←hf']
 have hk':k<f'.s.n:=by rw [hf'];exact hk
 have how:f'.own=f.own:=by rw [hf']
 clear hf'
 have HK:=Lib.hid hk'
 have HH:=Lib.hid how
 clear hk' how
 have HE:=Lib.hid (And.intro h (And.intro hk hF))
 have HZ:=Lib.hid hZ
 clear h hF hZ n1 n2
 by_cases e1:d.ev=3
 all_goals
  first|rw [if_pos e1,if_pos e1]|rw [if_neg e1,if_neg e1]
  have b1:(d.ev != 3)= !decide (d.ev=3):=rfl
  first|rw [decide_eq_true e1] at b1|rw [decide_eq_false e1] at b1
  try dsimp only [Bool.not_true,Bool.not_false] at b1
  go_enter func164,ntmps164
  go_wp2
  rw [←HZ.out]
  go_region_held3 (λw'=>w'.cell? ⟨L.tb,k*4+1,none⟩=some (.int .i64 (f.own k:Nat))) (first|exact r1|go_keep) (first
   |(go_at_call 137;(first|(with_reducible refine (cL _ ((Wr.refl _ _).drew)).mono ?_)|(with_reducible refine (cL _ (((Wr.refl _ _).alloc _).drew)).mono ?_));rintro e w1 ⟨rfl,n,rfl⟩)
   |((with_reducible refine (cI _ ((Wr.refl _ _).drewN _)).mono ?_);intro e w2 hq;unfold LmPost at hq;obtain ⟨rfl,hA,hW⟩:=hq;dsimp only [Dd.val];have r1:=hA.raw.cx1 HK.out;rw [HH.out] at r1;have HX:=Lib.hid (Fr.call HE.out.1 (HE.out.2.2.after ((Wr.refl _ Z).drewN (1+n))) hA hW);clear hA hW))
 ·have q0:=0
  have cN:=HX.out.lk.raw.cx2 HK.out
  have zN:=HX.out.lk.raw.cxz (k*4+2)
  have hN:=HX.out.lk.setN k (.func (.func 123) #[] #[])
  have h2:=Fr.call HE.out.1 HX.out hN.1 (lf_t HX.out.lk hN.2)
  obtain ⟨v0,v1,v2,v3⟩:=h2.cell
  obtain ⟨x0,x1,x2,x3⟩:=h2.frz
  have HT:=Lib.hid h2
  clear h2 hN
  go_wp2
  refine bodyPost_ret (v:=Dd.val ⟨3,false,false,false⟩) (results_cell_row rfl _ _ w.heap.size 228 _ (0,0) _ rfl (set4 HT.out.res rfl _ _ _ _) underlying228 rfl i_did) rfl (HT.out.told HE.out.1 ⟨3,false,false,false⟩)
 ·have h2:=HX.out
  obtain ⟨v0,v1,v2,v3⟩:=h2.cell
  obtain ⟨x0,x1,x2,x3⟩:=h2.frz
  clear h2
  go_wp2
  refine bodyPost_ret (v:=Dd.val Dd.no) (results_cell_row rfl _ _ w.heap.size 228 _ (0,0) _ rfl (set4 HX.out.res rfl _ _ _ _) underlying228 rfl i_did) rfl (HX.out.told HE.out.1 Dd.no)
end Go.Proofs.YtcikfcplagelaaaGreat
