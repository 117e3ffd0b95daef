import Derived.Test.YtmnephejhkfchaaGreatAbortLook
namespace Go.Proofs.YtmnephejhkfchaaGreat.Ka
set_option maxHeartbeats 8000000
open _root_.Go.Proofs.Tryz
open Go.RowKit Go.BigFrame
set_option linter.unusedVariables false
set_option maxRecDepth 100000
theorem fl_pickA {w:World} {L:Lp} {f:FL} (h:LkAt w L f) (k:Nat) (hk:k<f.s.n) (u x:Int) (hs:f.s.st k=1) (hd:f.pc k=1) (hD:f.ps.D.length<4611686018427387904) (hv:tellS f.ps u 1 (L.oA (f.id k))=0):
  Calls prog 180 #[.pointer (some ⟨L.lb,0,none⟩),.int .i64 (k:Int),.int .i64 u] w (LmPost w L (f.acq L k u x) (upd f.s.st k (finS 1 (f.acqD L k u x).ev)) (f.acqD L k u x).val):=by
 have e1:f.acq L k u x={f with pc:=upd f.pc k 2,nd:=upd f.nd k (f.id k),oth:=upd f.oth k (f.oth k),tr:=upd f.tr k (f.tr k+1),ps:=doS f.ps u 1 (L.oA (f.id k)) 0 0}:=by unfold FL.acq;rw [if_pos hd,if_pos hv,if_neg (λq=>q.1 hv),upd_id f.oth k rfl]
 have e2:f.acqD L k u x=Dd.no:=by unfold FL.acqD;rw [if_pos hd,if_neg (λq=>q.1 hv)]
 rw [e1,e2]
 rw [show finS 1 (Dd.ev Dd.no)=1 from by decide]
 clear e1 e2
 have hF:=Fr.start h
 obtain ⟨Z,hZ⟩:∃ Z,Z=w.alloc (.cells #[.int .i64 0,.bool false,.bool false,.bool false] 102):=⟨_,rfl⟩
 rw [←hZ] at hF
 have hkI:(k:Int)<f.s.n:=by omega
 have c4:=hF.lk.raw.cell4
 obtain ⟨p,hp,t0,t1,t2,t3⟩:=hF.lk.raw.place4 hk
 rw [hs,hd] at hp
 rw [hd] at t0
 have c1:=hF.drew.lk.raw.cell1
 have c3:=hF.drew.lk.raw.cell3
 rw [hZ] at c4 t0
 rw [←hZ] at c4
 have HJ0:=hp.tr2 (by decide) rfl
 obtain ⟨j,hj⟩:=Int.eq_ofNat_of_zero_le hp.tr1.1
 rw [HJ0.2,hj] at t1
 have hje:j<f.ea:=by have:=HJ0.1;omega
 have he8:=hF.lk.raw.each
 have hn64:=hF.lk.raw.seat.n2
 have hidv:f.id k=(k:Int)*f.ea+j+1:=by unfold FL.id;rw [hj]
 have hkn:(k:Int)*f.ea≤512:=by
  have h1:k*f.ea≤64*8:=Nat.mul_le_mul (by omega) he8.2
  omega
 have hk0:0≤(k:Int)*f.ea:=Int.mul_nonneg (by omega) (by omega)
 have hid:0≤f.id k∧f.id k<4294967296:=by rw [hidv];omega
 have w1:IntKind.u32.wrap (f.id k)=f.id k:=by rw [IntKind.wrap_u32];omega
 have w2:IntKind.i64.wrap ((j:Int)+1)=(j:Int)+1:=by rw [IntKind.wrap_i64];omega
 have rj0:(0:Int)≤(j:Int):=by omega
 have rj1:(j:Int)<(f.ea:Int):=by omega
 obtain ⟨Q,c2,hQ⟩:=hF.drew.lk.raw.cell2
 have hrow:(newPl f.s.n f.ea).rowI (k:Int)=(List.range f.ea).map λj=>k*f.ea+j+1:=by
  unfold PS.rowI
  rw [if_pos (show 0≤(k:Int)∧(k:Int)<(newPl f.s.n f.ea).T from ⟨by omega,by show (k:Int)<(f.s.n:Int);omega⟩),Int.toNat_natCast,new_row hk]
 have cR:=po_row hQ (k:Int) (by rw [hrow,List.length_map,List.length_range];omega)
 rw [hrow] at cR
 have HRC:RowKit.Hid (∀ (W:World) (so:Option Addr) (cap:Nat),W.ownsRow Z.drew.heap.size 3 1 (.slice so ((List.range f.ea).map λj=>k*f.ea+j+1).length cap) ((List.range f.ea).map λj=>k*f.ea+j+1).length (((List.range f.ea).map λj=>k*f.ea+j+1).map idv)→((List.range f.ea).map λj=>k*f.ea+j+1).length=f.ea∧∃ g,so=some ⟨g,0,none⟩∧W.cell? ⟨g,j,none⟩=some (.int .i64 (f.id k))):=Lib.hid (λW so cap ho=>by
  have hlen:((List.range f.ea).map λj=>k*f.ea+j+1).length=f.ea:=by rw [List.length_map,List.length_range]
  refine ⟨hlen,?_⟩
  rcases row_cell ho with h0|⟨g,hg,hc⟩
  ·rw [hlen] at h0;omega
  ·refine ⟨g,hg,?_⟩
   rw [hc j (k*f.ea+j+1) (by rw [List.getElem?_map,List.getElem?_range hje];rfl),hidv]
   norm_cast)
 have cG:=λ(X:World) (g:LkM X L f f.s.st)=>fl_out g (f.id k) hid
 have cA:=λ(X:World) (g:LkM X L f f.s.st)=>pload_any g.port u (L.oA (f.id k)) hD
 rw [hv] at cA
 have HT0:=Lib.hid (λ(W:World) (g:LkM W L {f with ps:=doS f.ps u 1 (L.oA (f.id k)) 0 0} f.s.st)=>g.turns (g.raw.set4' k 1 2 (f.id k) (f.oth k) (f.tr k+1) 1 0 (f.id k) 0 (PlI.takeP hid hp.orr (show 0≤f.tr k+1∧f.tr k+1≤(f.ea:Int) by omega))))
 have HP:=Lib.hid (λ(q:Pc) (hq:PlI (f.s.st k) (f.pc k) (f.nd k) (f.oth k) (f.tr k) f.ea q)=>(hq.tr2 (by omega) hd).2.trans hj)
 have HE:=Lib.hid (And.intro h (And.intro hk hF))
 have HG:=Lib.hid cG
 have HA0:=Lib.hid cA
 have T1:Z.drew.cell? ⟨L.tb,k*4+1,none⟩=some (.int .i64 (j:Int)):=t1
 clear h hF hs hd hp t0 t1 t2 t3 hQ hrow HJ0 hj he8 hn64 hidv hkn hk0 hid cG cA c1 c3 hv
 generalize f.id k=i at*
 go_enter func180,ntmps180
 go_wp2
 rw [←hZ]
 clear hZ
 go_region_held3 (λw'=>w'.cell? ⟨L.lb,4,none⟩=some (.slice (some ⟨L.tb,0,none⟩) f.s.n f.s.n)∧w'.cell? ⟨L.lb,2,none⟩=some (.pointer (some ⟨Q.p,0,none⟩))) (first|exact ⟨e4,e2⟩|exact ⟨c4,c2⟩) (first|(go_at_call 189;(with_reducible refine cR.mono ?_);rintro e X ⟨so,cap,rfl,hO,hW⟩;obtain ⟨hlen,g,rfl,hcell⟩:=HRC.out _ _ _ hO;rw [hlen];have hX:=HE.out.2.2.drew.after hW;have e4:=hX.lk.raw.cell4;have e2:=hW.cell c2 id;have T1':=hW.cell T1 id;have cG:=HG.out _ hX.drew.lk;have cA:=HA0.out _ hX.drew.lk;have f1:=hX.drew.lk.raw.cell1;have HX:=Lib.hid hX;clear hX hO hlen hW))
 go_wp2
 go_region_held3 (λw'=>w'.cell? ⟨L.lb,1,none⟩=some (.pointer (some ⟨L.q.p,0,none⟩))) (first|exact d1|exact f1) (first|(go_at_call 181;(with_reducible refine cG.mono ?_);rintro e w' ⟨rfl,rfl⟩)|(go_at_call 85;(with_reducible refine cA.mono ?_);intro e w2 hq;unfold AccPost at hq;obtain ⟨rfl,hP,hW⟩:=hq;have hA:=HX.out.drew.lk.ports hP hW;have hA3:=Fr.call HE.out.1 HX.out.drew hA (lf_q hW);have d1:=hA.raw.cell1;obtain ⟨p',hp',y0,y1,y2,y3⟩:=hA.raw.place4 HE.out.2.1;rw [(show p'.tr=(j:Int) from HP.out _ hp')] at y1;have z0:=hA.raw.tkz (k*4);have z1:=hA.raw.tkz (k*4+1);have z2:=hA.raw.tkz (k*4+2);have z3:=hA.raw.tkz (k*4+3);have hT:=HT0.out _ hA;have hA4:=Fr.call HE.out.1 hA3 hT.1 (lf_t hT.2);obtain ⟨v0,v1,v2,v3⟩:=hA4.cell;obtain ⟨x0,x1,x2,x3⟩:=hA4.frz;have HT:=Lib.hid hA4;clear hA4 hT;clear hA hA3 hP hW hp'))
 go_wp2
 refine bodyPost_ret (v:=Dd.val ⟨0,false,false,false⟩) (results_cell_row rfl _ _ w.heap.size 102 _ (0,0) _ rfl (set4 HT.out.res rfl _ _ _ _) underlying102 rfl i_did) rfl (HT.out.told HE.out.1 ⟨0,false,false,false⟩)
theorem fl_pickB {w:World} {L:Lp} {f:FL} (h:LkAt w L f) (k:Nat) (hk:k<f.s.n) (u x:Int) (hs:f.s.st k=1) (hd:f.pc k=1) (hD:f.ps.D.length<4611686018427387904) (hv:tellS f.ps u 1 (L.oA (f.id k))≠0∧f.tr k+1=f.ea):
  Calls prog 180 #[.pointer (some ⟨L.lb,0,none⟩),.int .i64 (k:Int),.int .i64 u] w (LmPost w L (f.acq L k u x) (upd f.s.st k (finS 1 (f.acqD L k u x).ev)) (f.acqD L k u x).val):=by
 have e1:f.acq L k u x={f with pc:=upd f.pc k 1,nd:=upd f.nd k (f.id k),oth:=upd f.oth k (f.oth k),tr:=upd f.tr k 0,ps:=doS f.ps u 1 (L.oA (f.id k)) 0 0}:=by unfold FL.acq;rw [if_pos hd,if_neg hv.1,if_pos hv,upd_id f.oth k rfl]
 have e2:f.acqD L k u x=⟨6,false,false,false⟩:=by unfold FL.acqD;rw [if_pos hd,if_pos hv]
 rw [e1,e2]
 rw [show finS 1 (Dd.ev ⟨6,false,false,false⟩)=0 from by decide]
 clear e1 e2
 have hF:=Fr.start h
 obtain ⟨Z,hZ⟩:∃ Z,Z=w.alloc (.cells #[.int .i64 0,.bool false,.bool false,.bool false] 102):=⟨_,rfl⟩
 rw [←hZ] at hF
 have hkI:(k:Int)<f.s.n:=by omega
 have c4:=hF.lk.raw.cell4
 obtain ⟨p,hp,t0,t1,t2,t3⟩:=hF.lk.raw.place4 hk
 rw [hs,hd] at hp
 rw [hd] at t0
 have c1:=hF.drew.lk.raw.cell1
 have c3:=hF.drew.lk.raw.cell3
 rw [hZ] at c4 t0
 rw [←hZ] at c4
 have HJ0:=hp.tr2 (by decide) rfl
 obtain ⟨j,hj⟩:=Int.eq_ofNat_of_zero_le hp.tr1.1
 rw [HJ0.2,hj] at t1
 have hje:j<f.ea:=by have:=HJ0.1;omega
 have he8:=hF.lk.raw.each
 have hn64:=hF.lk.raw.seat.n2
 have hidv:f.id k=(k:Int)*f.ea+j+1:=by unfold FL.id;rw [hj]
 have hkn:(k:Int)*f.ea≤512:=by
  have h1:k*f.ea≤64*8:=Nat.mul_le_mul (by omega) he8.2
  omega
 have hk0:0≤(k:Int)*f.ea:=Int.mul_nonneg (by omega) (by omega)
 have hid:0≤f.id k∧f.id k<4294967296:=by rw [hidv];omega
 have w1:IntKind.u32.wrap (f.id k)=f.id k:=by rw [IntKind.wrap_u32];omega
 have w2:IntKind.i64.wrap ((j:Int)+1)=(j:Int)+1:=by rw [IntKind.wrap_i64];omega
 have rj0:(0:Int)≤(j:Int):=by omega
 have rj1:(j:Int)<(f.ea:Int):=by omega
 obtain ⟨Q,c2,hQ⟩:=hF.drew.lk.raw.cell2
 have hrow:(newPl f.s.n f.ea).rowI (k:Int)=(List.range f.ea).map λj=>k*f.ea+j+1:=by
  unfold PS.rowI
  rw [if_pos (show 0≤(k:Int)∧(k:Int)<(newPl f.s.n f.ea).T from ⟨by omega,by show (k:Int)<(f.s.n:Int);omega⟩),Int.toNat_natCast,new_row hk]
 have cR:=po_row hQ (k:Int) (by rw [hrow,List.length_map,List.length_range];omega)
 rw [hrow] at cR
 have HRC:RowKit.Hid (∀ (W:World) (so:Option Addr) (cap:Nat),W.ownsRow Z.drew.heap.size 3 1 (.slice so ((List.range f.ea).map λj=>k*f.ea+j+1).length cap) ((List.range f.ea).map λj=>k*f.ea+j+1).length (((List.range f.ea).map λj=>k*f.ea+j+1).map idv)→((List.range f.ea).map λj=>k*f.ea+j+1).length=f.ea∧∃ g,so=some ⟨g,0,none⟩∧W.cell? ⟨g,j,none⟩=some (.int .i64 (f.id k))):=Lib.hid (λW so cap ho=>by
  have hlen:((List.range f.ea).map λj=>k*f.ea+j+1).length=f.ea:=by rw [List.length_map,List.length_range]
  refine ⟨hlen,?_⟩
  rcases row_cell ho with h0|⟨g,hg,hc⟩
  ·rw [hlen] at h0;omega
  ·refine ⟨g,hg,?_⟩
   rw [hc j (k*f.ea+j+1) (by rw [List.getElem?_map,List.getElem?_range hje];rfl),hidv]
   norm_cast)
 have cG:=λ(X:World) (g:LkM X L f f.s.st)=>fl_out g (f.id k) hid
 have cA:=λ(X:World) (g:LkM X L f f.s.st)=>pload_any g.port u (L.oA (f.id k)) hD
 have b1:(tellS f.ps u 1 (L.oA (f.id k))==0)=false:=beq_false_of_ne hv.1
 have b3:((j:Int)+1==(f.ea:Int))=true:=by rw [←hj,hv.2];exact beq_self_eq_true _
 generalize tellS f.ps u 1 (L.oA (f.id k))=v at*
 have HC:RowKit.Hid (∀ W:World,LkM W L {f with ps:=doS f.ps u 1 (L.oA (f.id k)) 0 0} f.s.st→Wr (One L.tb) W (W.setCell ⟨L.tb,k*4+1,none⟩ (.int .i64 ((j:Int)+1)))∧Calls prog 188 #[.pointer (some ⟨L.tb,k*4,none⟩),.int .i64 6] (W.setCell ⟨L.tb,k*4+1,none⟩ (.int .i64 ((j:Int)+1))) (LmPost (W.setCell ⟨L.tb,k*4+1,none⟩ (.int .i64 ((j:Int)+1))) L {f with pc:=upd f.pc k 1,nd:=upd f.nd k (f.id k),oth:=upd f.oth k (f.oth k),tr:=upd f.tr k 0,ps:=doS f.ps u 1 (L.oA (f.id k)) 0 0} (upd f.s.st k 0) (Dd.val ⟨6,false,false,false⟩))):=Lib.hid (λW g=>by
  have hT:=g.turns (g.raw.setT k 9 1 (f.id k) (f.oth k) 0 ((j:Int)+1) (λp hp=>by rw [hs,hd] at hp;exact hp.fullP hid))
  refine ⟨hT.2,?_⟩
  have:=fl_ends hT.1 k hk (f.id k) hid 6
  simpa only [upd_upd,upd_same] using this)
 have HP:=Lib.hid (λ(q:Pc) (hq:PlI (f.s.st k) (f.pc k) (f.nd k) (f.oth k) (f.tr k) f.ea q)=>(hq.tr2 (by omega) hd).2.trans hj)
 have HE:=Lib.hid (And.intro h (And.intro hk hF))
 have HG:=Lib.hid cG
 have HA0:=Lib.hid cA
 have T1:Z.drew.cell? ⟨L.tb,k*4+1,none⟩=some (.int .i64 (j:Int)):=t1
 clear h hF hs hd hp t0 t1 t2 t3 hQ hrow HJ0 hj he8 hn64 hidv hkn hk0 hid cG cA c1 c3 hv
 generalize f.id k=i at*
 go_enter func180,ntmps180
 go_wp2
 rw [←hZ]
 clear hZ
 go_region_held3 (λw'=>w'.cell? ⟨L.lb,4,none⟩=some (.slice (some ⟨L.tb,0,none⟩) f.s.n f.s.n)∧w'.cell? ⟨L.lb,2,none⟩=some (.pointer (some ⟨Q.p,0,none⟩))) (first|exact ⟨e4,e2⟩|exact ⟨c4,c2⟩) (first|(go_at_call 189;(with_reducible refine cR.mono ?_);rintro e X ⟨so,cap,rfl,hO,hW⟩;obtain ⟨hlen,g,rfl,hcell⟩:=HRC.out _ _ _ hO;rw [hlen];have hX:=HE.out.2.2.drew.after hW;have e4:=hX.lk.raw.cell4;have e2:=hW.cell c2 id;have T1':=hW.cell T1 id;have cG:=HG.out _ hX.drew.lk;have cA:=HA0.out _ hX.drew.lk;have f1:=hX.drew.lk.raw.cell1;have HX:=Lib.hid hX;clear hX hO hlen hW))
 go_wp2
 go_region_held3 (λw'=>w'.cell? ⟨L.lb,1,none⟩=some (.pointer (some ⟨L.q.p,0,none⟩))) (first|exact d1|exact f1) (first|(go_at_call 181;(with_reducible refine cG.mono ?_);rintro e w' ⟨rfl,rfl⟩)|(go_at_call 85;(with_reducible refine cA.mono ?_);intro e w2 hq;unfold AccPost at hq;obtain ⟨rfl,hP,hW⟩:=hq;have hA:=HX.out.drew.lk.ports hP hW;have hA3:=Fr.call HE.out.1 HX.out.drew hA (lf_q hW);have d1:=hA.raw.cell1;obtain ⟨p',hp',y0,y1,y2,y3⟩:=hA.raw.place4 HE.out.2.1;rw [(show p'.tr=(j:Int) from HP.out _ hp')] at y1;have z0:=hA.raw.tkz (k*4);have z1:=hA.raw.tkz (k*4+1);have z2:=hA.raw.tkz (k*4+2);have z3:=hA.raw.tkz (k*4+3);have HA:=Lib.hid hA3;have hT:=HC.out _ hA;have cE:=hT.2;have HW2:=Lib.hid hT.1;clear hT;clear hA hA3 hP hW hp'))
 go_wp2_with (first|(go_at_call 188;(with_reducible refine cE.mono ?_);intro e w3 hq;unfold LmPost at hq;obtain ⟨rfl,hB,hW2⟩:=hq;dsimp only [Dd.val];have hB3:=Fr.call HE.out.1 HA.out hB (lf_trans (lf_t HW2.out) hW2);obtain ⟨v0,v1,v2,v3⟩:=hB3.cell;obtain ⟨x0,x1,x2,x3⟩:=hB3.frz;have HT:=Lib.hid hB3;clear hB hB3 hW2))
 refine bodyPost_ret (v:=Dd.val ⟨6,false,false,false⟩) (results_cell_row rfl _ _ w.heap.size 102 _ (0,0) _ rfl (set4 HT.out.res rfl _ _ _ _) underlying102 rfl i_did) rfl (HT.out.told HE.out.1 ⟨6,false,false,false⟩)
theorem fl_pickC {w:World} {L:Lp} {f:FL} (h:LkAt w L f) (k:Nat) (hk:k<f.s.n) (u x:Int) (hs:f.s.st k=1) (hd:f.pc k=1) (hD:f.ps.D.length<4611686018427387904) (hv:tellS f.ps u 1 (L.oA (f.id k))≠0∧f.tr k+1≠f.ea):
  Calls prog 180 #[.pointer (some ⟨L.lb,0,none⟩),.int .i64 (k:Int),.int .i64 u] w (LmPost w L (f.acq L k u x) (upd f.s.st k (finS 1 (f.acqD L k u x).ev)) (f.acqD L k u x).val):=by
 have e1:f.acq L k u x={f with pc:=upd f.pc k 1,nd:=upd f.nd k (f.id k),oth:=upd f.oth k (f.oth k),tr:=upd f.tr k (f.tr k+1),ps:=doS f.ps u 1 (L.oA (f.id k)) 0 0}:=by unfold FL.acq;rw [if_pos hd,if_neg hv.1,if_neg (λq=>hv.2 q.2),upd_id f.oth k rfl]
 have e2:f.acqD L k u x=Dd.no:=by unfold FL.acqD;rw [if_pos hd,if_neg (λq=>hv.2 q.2)]
 rw [e1,e2]
 rw [show finS 1 (Dd.ev Dd.no)=1 from by decide]
 clear e1 e2
 have hF:=Fr.start h
 obtain ⟨Z,hZ⟩:∃ Z,Z=w.alloc (.cells #[.int .i64 0,.bool false,.bool false,.bool false] 102):=⟨_,rfl⟩
 rw [←hZ] at hF
 have hkI:(k:Int)<f.s.n:=by omega
 have c4:=hF.lk.raw.cell4
 obtain ⟨p,hp,t0,t1,t2,t3⟩:=hF.lk.raw.place4 hk
 rw [hs,hd] at hp
 rw [hd] at t0
 have c1:=hF.drew.lk.raw.cell1
 have c3:=hF.drew.lk.raw.cell3
 rw [hZ] at c4 t0
 rw [←hZ] at c4
 have HJ0:=hp.tr2 (by decide) rfl
 obtain ⟨j,hj⟩:=Int.eq_ofNat_of_zero_le hp.tr1.1
 rw [HJ0.2,hj] at t1
 have hje:j<f.ea:=by have:=HJ0.1;omega
 have he8:=hF.lk.raw.each
 have hn64:=hF.lk.raw.seat.n2
 have hidv:f.id k=(k:Int)*f.ea+j+1:=by unfold FL.id;rw [hj]
 have hkn:(k:Int)*f.ea≤512:=by
  have h1:k*f.ea≤64*8:=Nat.mul_le_mul (by omega) he8.2
  omega
 have hk0:0≤(k:Int)*f.ea:=Int.mul_nonneg (by omega) (by omega)
 have hid:0≤f.id k∧f.id k<4294967296:=by rw [hidv];omega
 have w1:IntKind.u32.wrap (f.id k)=f.id k:=by rw [IntKind.wrap_u32];omega
 have w2:IntKind.i64.wrap ((j:Int)+1)=(j:Int)+1:=by rw [IntKind.wrap_i64];omega
 have rj0:(0:Int)≤(j:Int):=by omega
 have rj1:(j:Int)<(f.ea:Int):=by omega
 obtain ⟨Q,c2,hQ⟩:=hF.drew.lk.raw.cell2
 have hrow:(newPl f.s.n f.ea).rowI (k:Int)=(List.range f.ea).map λj=>k*f.ea+j+1:=by
  unfold PS.rowI
  rw [if_pos (show 0≤(k:Int)∧(k:Int)<(newPl f.s.n f.ea).T from ⟨by omega,by show (k:Int)<(f.s.n:Int);omega⟩),Int.toNat_natCast,new_row hk]
 have cR:=po_row hQ (k:Int) (by rw [hrow,List.length_map,List.length_range];omega)
 rw [hrow] at cR
 have HRC:RowKit.Hid (∀ (W:World) (so:Option Addr) (cap:Nat),W.ownsRow Z.drew.heap.size 3 1 (.slice so ((List.range f.ea).map λj=>k*f.ea+j+1).length cap) ((List.range f.ea).map λj=>k*f.ea+j+1).length (((List.range f.ea).map λj=>k*f.ea+j+1).map idv)→((List.range f.ea).map λj=>k*f.ea+j+1).length=f.ea∧∃ g,so=some ⟨g,0,none⟩∧W.cell? ⟨g,j,none⟩=some (.int .i64 (f.id k))):=Lib.hid (λW so cap ho=>by
  have hlen:((List.range f.ea).map λj=>k*f.ea+j+1).length=f.ea:=by rw [List.length_map,List.length_range]
  refine ⟨hlen,?_⟩
  rcases row_cell ho with h0|⟨g,hg,hc⟩
  ·rw [hlen] at h0;omega
  ·refine ⟨g,hg,?_⟩
   rw [hc j (k*f.ea+j+1) (by rw [List.getElem?_map,List.getElem?_range hje];rfl),hidv]
   norm_cast)
 have cG:=λ(X:World) (g:LkM X L f f.s.st)=>fl_out g (f.id k) hid
 have cA:=λ(X:World) (g:LkM X L f f.s.st)=>pload_any g.port u (L.oA (f.id k)) hD
 have b1:(tellS f.ps u 1 (L.oA (f.id k))==0)=false:=beq_false_of_ne hv.1
 have b2:¬ (j:Int)+1=(f.ea:Int):=by rw [←hj];exact hv.2
 have b3:((j:Int)+1==(f.ea:Int))=false:=beq_false_of_ne b2
 have hlt:f.tr k+1<f.ea:=by have:=hp.tr2 (by decide) rfl;omega
 generalize tellS f.ps u 1 (L.oA (f.id k))=v at*
 have HT0:RowKit.Hid (∀ W:World,LkM W L {f with ps:=doS f.ps u 1 (L.oA (f.id k)) 0 0} f.s.st→LkM (W.setCell ⟨L.tb,k*4+1,none⟩ (.int .i64 ((j:Int)+1))) L {f with pc:=upd f.pc k 1,nd:=upd f.nd k (f.id k),oth:=upd f.oth k (f.oth k),tr:=upd f.tr k (f.tr k+1),ps:=doS f.ps u 1 (L.oA (f.id k)) 0 0} (upd f.s.st k 1)∧Wr (One L.tb) W (W.setCell ⟨L.tb,k*4+1,none⟩ (.int .i64 ((j:Int)+1)))):=Lib.hid (λW g=>by
  have hT:=g.turns (g.raw.setT k 1 1 (f.id k) (f.oth k) (f.tr k+1) (f.tr k+1) (λp hp=>by rw [hs,hd] at hp;exact hp.tryP hid hlt))
  rw [hj] at hT ⊢
  exact hT)
 clear hlt
 have HP:=Lib.hid (λ(q:Pc) (hq:PlI (f.s.st k) (f.pc k) (f.nd k) (f.oth k) (f.tr k) f.ea q)=>(hq.tr2 (by omega) hd).2.trans hj)
 have HE:=Lib.hid (And.intro h (And.intro hk hF))
 have HG:=Lib.hid cG
 have HA0:=Lib.hid cA
 have T1:Z.drew.cell? ⟨L.tb,k*4+1,none⟩=some (.int .i64 (j:Int)):=t1
 clear h hF hs hd hp t0 t1 t2 t3 hQ hrow HJ0 hj he8 hn64 hidv hkn hk0 hid cG cA c1 c3 hv
 generalize f.id k=i at*
 go_enter func180,ntmps180
 go_wp2
 rw [←hZ]
 clear hZ
 go_region_held3 (λw'=>w'.cell? ⟨L.lb,4,none⟩=some (.slice (some ⟨L.tb,0,none⟩) f.s.n f.s.n)∧w'.cell? ⟨L.lb,2,none⟩=some (.pointer (some ⟨Q.p,0,none⟩))) (first|exact ⟨e4,e2⟩|exact ⟨c4,c2⟩) (first|(go_at_call 189;(with_reducible refine cR.mono ?_);rintro e X ⟨so,cap,rfl,hO,hW⟩;obtain ⟨hlen,g,rfl,hcell⟩:=HRC.out _ _ _ hO;rw [hlen];have hX:=HE.out.2.2.drew.after hW;have e4:=hX.lk.raw.cell4;have e2:=hW.cell c2 id;have T1':=hW.cell T1 id;have cG:=HG.out _ hX.drew.lk;have cA:=HA0.out _ hX.drew.lk;have f1:=hX.drew.lk.raw.cell1;have HX:=Lib.hid hX;clear hX hO hlen hW))
 go_wp2
 go_region_held3 (λw'=>w'.cell? ⟨L.lb,1,none⟩=some (.pointer (some ⟨L.q.p,0,none⟩))) (first|exact d1|exact f1) (first|(go_at_call 181;(with_reducible refine cG.mono ?_);rintro e w' ⟨rfl,rfl⟩)|(go_at_call 85;(with_reducible refine cA.mono ?_);intro e w2 hq;unfold AccPost at hq;obtain ⟨rfl,hP,hW⟩:=hq;have hA:=HX.out.drew.lk.ports hP hW;have hA3:=Fr.call HE.out.1 HX.out.drew hA (lf_q hW);have d1:=hA.raw.cell1;obtain ⟨p',hp',y0,y1,y2,y3⟩:=hA.raw.place4 HE.out.2.1;rw [(show p'.tr=(j:Int) from HP.out _ hp')] at y1;have z0:=hA.raw.tkz (k*4);have z1:=hA.raw.tkz (k*4+1);have z2:=hA.raw.tkz (k*4+2);have z3:=hA.raw.tkz (k*4+3);have hT:=HT0.out _ hA;have hA4:=Fr.call HE.out.1 hA3 hT.1 (lf_t hT.2);obtain ⟨v0,v1,v2,v3⟩:=hA4.cell;obtain ⟨x0,x1,x2,x3⟩:=hA4.frz;have HT:=Lib.hid hA4;clear hA4 hT;clear hA hA3 hP hW hp'))
 go_wp2
 refine bodyPost_ret (v:=Dd.val ⟨0,false,false,false⟩) (results_cell_row rfl _ _ w.heap.size 102 _ (0,0) _ rfl (set4 HT.out.res rfl _ _ _ _) underlying102 rfl i_did) rfl (HT.out.told HE.out.1 ⟨0,false,false,false⟩)
theorem fl_pick {w:World} {L:Lp} {f:FL} (h:LkAt w L f) (k:Nat) (hk:k<f.s.n) (u x:Int) (hs:f.s.st k=1) (hd:f.pc k=1) (hD:f.ps.D.length<4611686018427387904):
  Calls prog 180 #[.pointer (some ⟨L.lb,0,none⟩),.int .i64 (k:Int),.int .i64 u] w (LmPost w L (f.acq L k u x) (upd f.s.st k (finS 1 (f.acqD L k u x).ev)) (f.acqD L k u x).val):=by
 by_cases hv:tellS f.ps u 1 (L.oA (f.id k))=0
 ·exact fl_pickA h k hk u x hs hd hD hv
 ·by_cases hq:f.tr k+1=f.ea
  ·exact fl_pickB h k hk u x hs hd hD ⟨hv,hq⟩
  ·exact fl_pickC h k hk u x hs hd hD ⟨hv,hq⟩
theorem fl_acq1 {w:World} {L:Lp} {f:FL} (h:LkAt w L f) (k:Nat) (hk:k<f.s.n) (u x:Int) (hs:f.s.st k=1) (hd:f.pc k=1) (hD:f.ps.D.length<4611686018427387904):
  Calls prog 178 #[.pointer (some ⟨L.lb,0,none⟩),.int .i64 (k:Int),.int .i64 u,.int .i64 x] w (LmPost w L (f.acq L k u x) (upd f.s.st k (finS 1 (f.acqD L k u x).ev)) (f.acqD L k u x).val):=by
 have hF:=Fr.start h
 obtain ⟨Z,hZ⟩:∃ Z,Z=w.alloc (.cells #[.int .i64 0,.bool false,.bool false,.bool false] 102):=⟨_,rfl⟩
 rw [←hZ] at hF
 have hkI:(k:Int)<f.s.n:=by omega
 have c4:=hF.lk.raw.cell4
 obtain ⟨p,hp,t0,t1,t2,t3⟩:=hF.lk.raw.place4 hk
 rw [hd] at t0
 rw [hZ] at c4 t0
 have cL:=fl_pick hF.lk k hk u x hs hd hD
 generalize (upd f.s.st k (finS 1 (f.acqD L k u x).ev))=σ' at*
 generalize f.acq L k u x=g at*
 generalize f.acqD L k u x=d at*
 have HE:=Lib.hid (And.intro h hF)
 clear h hF hs hd hp t1 t2 t3
 go_enter func178,ntmps178
 go_wp2_with (first
  |(go_at_call 180;rw [←hZ];(with_reducible refine cL.mono ?_);intro e w2 hq;unfold LmPost at hq;obtain ⟨rfl,hB,hW⟩:=hq;dsimp only [Dd.val];have hB3:=Fr.call HE.out.1 HE.out.2 hB hW;obtain ⟨v0,v1,v2,v3⟩:=hB3.cell;obtain ⟨x0,x1,x2,x3⟩:=hB3.frz;have HT:=Lib.hid hB3;clear hB hB3 hW))
 refine bodyPost_ret (v:=Dd.val d) (results_cell_row rfl _ _ w.heap.size 102 _ (0,0) _ rfl (set4 HT.out.res rfl _ _ _ _) underlying102 rfl i_did) rfl (HT.out.told HE.out.1 d)
theorem fl_acq7 {w:World} {L:Lp} {f:FL} (h:LkAt w L f) (k:Nat) (hk:k<f.s.n) (u x:Int) (hs:f.s.st k=1) (hd:f.pc k=7) (hD:f.ps.D.length<4611686018427387904):
  Calls prog 178 #[.pointer (some ⟨L.lb,0,none⟩),.int .i64 (k:Int),.int .i64 u,.int .i64 x] w (LmPost w L (f.acq L k u x) (upd f.s.st k (finS 1 (f.acqD L k u x).ev)) (f.acqD L k u x).val):=by
 have hF:=Fr.start h
 obtain ⟨Z,hZ⟩:∃ Z,Z=w.alloc (.cells #[.int .i64 0,.bool false,.bool false,.bool false] 102):=⟨_,rfl⟩
 rw [←hZ] at hF
 have hkI:(k:Int)<f.s.n:=by omega
 have c4:=hF.lk.raw.cell4
 obtain ⟨p,hp,t0,t1,t2,t3⟩:=hF.lk.raw.place4 hk
 rw [hd] at t0
 rw [hZ] at c4 t0
 have cL:=fl_look hF.lk k hk u x hs hd hD
 generalize (upd f.s.st k (finS 1 (f.acqD L k u x).ev))=σ' at*
 generalize f.acq L k u x=g at*
 generalize f.acqD L k u x=d at*
 have HE:=Lib.hid (And.intro h hF)
 clear h hF hs hd hp t1 t2 t3
 go_enter func178,ntmps178
 go_wp2_with (first
  |(go_at_call 185;rw [←hZ];(with_reducible refine cL.mono ?_);intro e w2 hq;unfold LmPost at hq;obtain ⟨rfl,hB,hW⟩:=hq;dsimp only [Dd.val];have hB3:=Fr.call HE.out.1 HE.out.2 hB hW;obtain ⟨v0,v1,v2,v3⟩:=hB3.cell;obtain ⟨x0,x1,x2,x3⟩:=hB3.frz;have HT:=Lib.hid hB3;clear hB hB3 hW))
 refine bodyPost_ret (v:=Dd.val d) (results_cell_row rfl _ _ w.heap.size 102 _ (0,0) _ rfl (set4 HT.out.res rfl _ _ _ _) underlying102 rfl i_did) rfl (HT.out.told HE.out.1 d)
theorem fl_acq8 {w:World} {L:Lp} {f:FL} (h:LkAt w L f) (k:Nat) (hk:k<f.s.n) (u x:Int) (hs:f.s.st k=1) (hd:f.pc k=8) (hD:f.ps.D.length<4611686018427387904):
  Calls prog 178 #[.pointer (some ⟨L.lb,0,none⟩),.int .i64 (k:Int),.int .i64 u,.int .i64 x] w (LmPost w L (f.acq L k u x) (upd f.s.st k (finS 1 (f.acqD L k u x).ev)) (f.acqD L k u x).val):=by
 have hF:=Fr.start h
 obtain ⟨Z,hZ⟩:∃ Z,Z=w.alloc (.cells #[.int .i64 0,.bool false,.bool false,.bool false] 102):=⟨_,rfl⟩
 rw [←hZ] at hF
 have hkI:(k:Int)<f.s.n:=by omega
 have c4:=hF.lk.raw.cell4
 obtain ⟨p,hp,t0,t1,t2,t3⟩:=hF.lk.raw.place4 hk
 rw [hd] at t0
 rw [hZ] at c4 t0
 have cL:=fl_give hF.lk k hk u x hs hd hD
 generalize (upd f.s.st k (finS 1 (f.acqD L k u x).ev))=σ' at*
 generalize f.acq L k u x=g at*
 generalize f.acqD L k u x=d at*
 have HE:=Lib.hid (And.intro h hF)
 clear h hF hs hd hp t1 t2 t3
 go_enter func178,ntmps178
 go_wp2_with (first
  |(go_at_call 186;rw [←hZ];(with_reducible refine cL.mono ?_);intro e w2 hq;unfold LmPost at hq;obtain ⟨rfl,hB,hW⟩:=hq;dsimp only [Dd.val];have hB3:=Fr.call HE.out.1 HE.out.2 hB hW;obtain ⟨v0,v1,v2,v3⟩:=hB3.cell;obtain ⟨x0,x1,x2,x3⟩:=hB3.frz;have HT:=Lib.hid hB3;clear hB hB3 hW))
 refine bodyPost_ret (v:=Dd.val d) (results_cell_row rfl _ _ w.heap.size 102 _ (0,0) _ rfl (set4 HT.out.res rfl _ _ _ _) underlying102 rfl i_did) rfl (HT.out.told HE.out.1 d)
theorem fl_acq {w:World} {L:Lp} {f:FL} (h:LkAt w L f) (k:Nat) (hk:k<f.s.n) (u x:Int) (hs:f.s.st k=1) (hD:f.ps.D.length<4611686018427387904):
  Calls prog 178 #[.pointer (some ⟨L.lb,0,none⟩),.int .i64 (k:Int),.int .i64 u,.int .i64 x] w (LmPost w L (f.acq L k u x) (upd f.s.st k (finS (f.s.st k) (f.acqD L k u x).ev)) (f.acqD L k u x).val):=by
 obtain ⟨p,hp⟩:=h.raw.pli k
 have hr:=hp.pr
 have:f.pc k=1∨f.pc k=2∨f.pc k=3∨f.pc k=4∨f.pc k=5∨f.pc k=6∨f.pc k=7∨f.pc k=8:=by omega
 rw [show finS (f.s.st k)=finS 1 by rw [hs]]
 rcases this with hd|hd|hd|hd|hd|hd|hd|hd
 ·exact fl_acq1 h k hk u x hs hd hD
 ·exact fl_acq2 h k hk u x hs hd hD
 ·exact fl_acq3 h k hk u x hs hd hD
 ·exact fl_acq4 h k hk u x hs hd hD
 ·exact fl_acq5 h k hk u x hs hd hD
 ·exact fl_acq6 h k hk u x hs hd hD
 ·exact fl_acq7 h k hk u x hs hd hD
 ·exact fl_acq8 h k hk u x hs hd hD
end Go.Proofs.YtmnephejhkfchaaGreat.Ka
